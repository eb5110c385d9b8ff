/- What Compare of the statement's numbers answers. Conditions: none. -/
import Derived.Test.YtgpmiachllpddaaCmp
namespace Go.Proofs.Ytgpmiachllpddaa
open Go Go.RowKit

theorem num_compare (w : World) (x y : Int) : Calls Try.prog 129 #[.int .i64 x, .int .i64 y] w
    fun e w' => e = .returned (.int .i64 (icmp x y)) ∧ Below w.heap.size w w' := by
  go_enter Try.func129, Try.ntmps129
  go_wp2_with fail
  all_goals go_ret
  · have h : x < y := by assumption
    exact ⟨by simp [icmp, h], Below.refl _ _⟩
  · have h : y < x := by assumption
    exact ⟨by simp [icmp, h, Int.lt_asymm h], Below.refl _ _⟩
  · have h : y ≤ x := by assumption
    have h' : x ≤ y := by assumption
    exact ⟨by simp [icmp, Int.not_lt.2 h, Int.not_lt.2 h'], Below.refl _ _⟩

end Go.Proofs.Ytgpmiachllpddaa
