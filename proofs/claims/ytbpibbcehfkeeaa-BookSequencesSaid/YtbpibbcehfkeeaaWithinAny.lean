/- What the statements' Within answers. Conditions: a limit of at least 1. -/
import Derived.Test.YtbpibbcehfkeeaaBase
namespace Go.Proofs.Ytbpibbcehfkeeaa
open Go Go.RowKit

theorem within_any (w : World) (v n : Int) (hn : 1 ≤ n) (hn2 : n ≤ 1000000) :
    Calls Try.prog 13 #[.int .i64 v, .int .i64 n] w fun e w' => (∃ k : Nat, e = .returned (.int .i64 k) ∧ (k : Int) < n) ∧ w' = w := by
  have h1 : (n < 1) = False := by simp; omega
  have h2 := Int.tmod_lt_of_pos v (show 0 < n by omega)
  have h3 := Int.lt_tmod_of_pos v (show 0 < n by omega)
  have H2 := Lib.hid h2
  have H3 := Lib.hid h3
  clear h2 h3
  go_enter Try.func13, Try.ntmps13
  go_wp2_with fail
  · rename_i h
    have h3 := H3.out
    have e : wrap64 (v.tmod n + n) = v.tmod n + n := by unfold wrap64; omega
    go_ret
    exact ⟨⟨(v.tmod n + n).toNat, by rw [Int.toNat_of_nonneg (by omega)]; exact congrArg (fun z => Ending.returned (.int .i64 z)) e, by rw [Int.toNat_of_nonneg (by omega)]; omega⟩, rfl⟩
  · rename_i h
    go_ret
    exact ⟨⟨(v.tmod n).toNat, by rw [Int.toNat_of_nonneg h]; rfl, by rw [Int.toNat_of_nonneg h]; exact H2.out⟩, rfl⟩

theorem within_T' (w : World) (v n : Int) (hn : 1 ≤ n) (_ : -1000000 ≤ v) (_ : v ≤ 1000000) (hn2 : n ≤ 1000000) :
    Calls Try.prog 13 #[.int .i64 v, .int .i64 n] w fun e w' => (∃ k : Nat, e = .returned (.int .i64 k) ∧ (k : Int) < n) ∧ w' = w := within_any w v n hn hn2

end Go.Proofs.Ytbpibbcehfkeeaa
