/- What cmp.Compare does of numbers and texts, and api.Sym's Compare. Conditions: the numbers fit their kind. -/
import Derived.Test.YtcpgjekkcpfpaaaBase
import Derived.Test.YtcpgjekkcpfpaaaPlain
import Derived.WalkLawsBesides
import Derived.WalkSpells
namespace Go.Proofs.Ytcpgjekkcpfpaaa
open Go Go.RowKit

theorem nan_int (w : World) (a : Int) : Calls Try.prog 70 #[.int .i64 a] w fun e w' => e = .returned (.bool false) ∧ w = w' := by
  go_enter Try.func70, Try.ntmps70
  go_wp2_with fail
  go_ret
  exact ⟨by simp, rfl⟩

theorem nan_str (w : World) (a : ByteArray) : Calls Try.prog 71 #[.string a] w fun e w' => e = .returned (.bool false) ∧ w = w' := by
  go_enter Try.func71, Try.ntmps71
  go_wp2_with fail
  go_ret
  exact ⟨by simp, rfl⟩

theorem cmp_int (w : World) (a b : Int) : Calls Try.prog 68 #[.int .i64 a, .int .i64 b] w fun e w' => e = .returned (.int .i64 (icmp a b)) ∧ w = w' := by
  go_enter Try.func68, Try.ntmps68
  go_wp2_with fail
  refine (nan_int _ _).mono ?_
  rintro e w' ⟨rfl, rfl⟩
  go_wp2_with fail
  refine (nan_int _ _).mono ?_
  rintro e w' ⟨rfl, rfl⟩
  go_wp2_with fail
  all_goals go_ret
  · have h : a < b := by assumption
    exact ⟨by simp [icmp, h], rfl⟩
  · have h : b < a := by assumption
    exact ⟨by simp [icmp, h, Int.lt_asymm h], rfl⟩
  · have h : b ≤ a := by assumption
    have h' : a ≤ b := by assumption
    exact ⟨by simp [icmp, Int.not_lt.2 h, Int.not_lt.2 h'], rfl⟩

theorem bytesLess_eq : ∀ (x y : List UInt8), Op.bytesLess x y = decide (x < y)
  | x, [] => by cases x <;> simp [Op.bytesLess]
  | [], b :: y => by simp [Op.bytesLess]
  | a :: x, b :: y => by
    rw [Op.bytesLess, bytesLess_eq x y, Bool.eq_iff_iff]
    simp [List.cons_lt_cons_iff]

theorem scmp_lt {a b : ByteArray} (h : Op.bytesLess a.toList b.toList = true) : scmp a b = -1 := by
  rw [bytesLess_eq] at h; simp only [decide_eq_true_eq] at h; simp [scmp, h]
theorem scmp_gt {a b : ByteArray} (h : Op.bytesLess a.toList b.toList = false) (h' : (!a.toList == b.toList) = true) : scmp a b = 1 := by
  rw [bytesLess_eq] at h; simp only [decide_eq_false_iff_not] at h
  have h2 : b.toList < a.toList := by
    rcases List.lt_trichotomy' a.toList b.toList with h3 | h3 | h3
    · exact absurd h3 h
    · simp [h3] at h'
    · exact h3
  simp [scmp, h, h2]
theorem scmp_eq {a b : ByteArray} (h' : a.toList = b.toList) : scmp a b = 0 := by
  simp [scmp, h', List.lt_irrefl]

theorem cmp_str (w : World) (a b : ByteArray) : Calls Try.prog 69 #[.string a, .string b] w fun e w' => e = .returned (.int .i64 (scmp a b)) ∧ w = w' := by
  go_enter Try.func69, Try.ntmps69
  go_wp2_with fail
  refine (nan_str _ _).mono ?_
  rintro e w' ⟨rfl, rfl⟩
  go_wp2_with fail
  refine (nan_str _ _).mono ?_
  rintro e w' ⟨rfl, rfl⟩
  go_wp2_with fail
  all_goals go_ret
  · exact ⟨by rw [scmp_lt (by assumption)]; rfl, rfl⟩
  · exact ⟨by rw [scmp_gt (by assumption) (by assumption)]; rfl, rfl⟩
  · exact ⟨by rw [scmp_eq (by simpa using (by assumption : (!a.toList == b.toList) = false))]; rfl, rfl⟩

theorem symCmp_k {x y : SymV} (h : icmp x.k y.k ≠ 0) : symCmp x y = icmp x.k y.k := by simp [symCmp, lex, h]
theorem symCmp_t {x y : SymV} (h : icmp x.k y.k = 0) (h' : scmp x.t y.t ≠ 0) : symCmp x y = scmp x.t y.t := by simp [symCmp, lex, h, h']
theorem symCmp_n {x y : SymV} (h : icmp x.k y.k = 0) (h' : scmp x.t y.t = 0) : symCmp x y = icmp x.n y.n := by simp [symCmp, lex, h, h']

theorem boxes2 (w : World) (x y : SymV) :
    Below w.heap.size w ((w.alloc (.cells #[.int .i64 x.k, .string x.t, .int .i64 x.n] 27)).alloc (.cells #[.int .i64 y.k, .string y.t, .int .i64 y.n] 27)) :=
  ((Below.refl _ w).alloc (Nat.le_refl _) _).alloc (by simp) _

set_option maxHeartbeats 400000 in
theorem sym_compare (w : World) (x y : SymV) : Calls Try.prog 67 #[.agg #[.int .i64 x.k, .string x.t, .int .i64 x.n], .agg #[.int .i64 y.k, .string y.t, .int .i64 y.n]] w
    fun e w' => e = .returned (.int .i64 (symCmp x y)) ∧ Below w.heap.size w w' := by
  by_cases hk : icmp x.k y.k = 0
  · have Hk := Lib.hid hk
    have Hk1 : (icmp x.k y.k != 0) = false := by simp [hk]
    clear hk
    by_cases ht : scmp x.t y.t = 0
    · have Ht := Lib.hid ht
      have Ht1 : (scmp x.t y.t != 0) = false := by simp [ht]
      clear ht
      go_enter Try.func67, Try.ntmps67
      go_wp2_with fail
      refine (cmp_int _ _ _).mono ?_
      rintro e w' ⟨rfl, rfl⟩
      go_wp2_with fail
      refine (cmp_str _ _ _).mono ?_
      rintro e w' ⟨rfl, rfl⟩
      go_wp2_with fail
      refine (cmp_int _ _ _).mono ?_
      rintro e w' ⟨rfl, rfl⟩
      go_wp2_with fail
      go_ret
      exact ⟨by rw [symCmp_n Hk.out Ht.out]; rfl, boxes2 w x y⟩
    · have Ht := Lib.hid ht
      have Ht1 : (scmp x.t y.t != 0) = true := by simp [ht]
      clear ht
      go_enter Try.func67, Try.ntmps67
      go_wp2_with fail
      refine (cmp_int _ _ _).mono ?_
      rintro e w' ⟨rfl, rfl⟩
      go_wp2_with fail
      refine (cmp_str _ _ _).mono ?_
      rintro e w' ⟨rfl, rfl⟩
      go_wp2_with fail
      go_ret
      exact ⟨by rw [symCmp_t Hk.out Ht.out]; rfl, boxes2 w x y⟩
  · have Hk := Lib.hid hk
    have Hk1 : (icmp x.k y.k != 0) = true := by simp [hk]
    clear hk
    go_enter Try.func67, Try.ntmps67
    go_wp2_with fail
    refine (cmp_int _ _ _).mono ?_
    rintro e w' ⟨rfl, rfl⟩
    go_wp2_with fail
    go_ret
    exact ⟨by rw [symCmp_k Hk.out]; rfl, boxes2 w x y⟩

end Go.Proofs.Ytcpgjekkcpfpaaa
