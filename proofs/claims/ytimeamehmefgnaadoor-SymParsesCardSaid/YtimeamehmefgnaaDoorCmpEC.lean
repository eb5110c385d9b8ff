/- What Compare of letters, and of a map's entries by letters, answers. Conditions: none. -/
import Derived.Test.YtimeamehmefgnaaDoorEntC
import Derived.Test.YtimeamehmefgnaaDoorCmp
namespace Go.Proofs.YtimeamehmefgnaaDoor
open Go Go.RowKit

set_option maxRecDepth 100000
theorem nan_cap (w : World) (a : Int) : Calls Tryd.prog 114 #[.int .u8 a] w fun e w' => e = .returned (.bool false) ∧ w = w' := by
  go_enter Tryd.func114, Tryd.ntmps114
  go_wp2_with fail
  go_ret
  exact ⟨by simp, rfl⟩

theorem cmp_cap (w : World) (a b : Int) : Calls Tryd.prog 113 #[.int .u8 a, .int .u8 b] w fun e w' => e = .returned (.int .i64 (icmp a b)) ∧ w = w' := by
  go_enter Tryd.func113, Tryd.ntmps113
  go_wp2_with fail
  refine (nan_cap _ _).mono ?_
  rintro e w' ⟨rfl, rfl⟩
  go_wp2_with fail
  refine (nan_cap _ _).mono ?_
  rintro e w' ⟨rfl, rfl⟩
  go_wp2_with fail
  all_goals go_ret
  · have h : a < b := by assumption
    exact ⟨by simp [icmp, h], rfl⟩
  · have h : b < a := by assumption
    exact ⟨by simp [icmp, h, Int.lt_asymm h], rfl⟩
  · have h : b ≤ a := by assumption
    have h' : a ≤ b := by assumption
    exact ⟨by simp [icmp, Int.not_lt.2 h, Int.not_lt.2 h'], rfl⟩

theorem cap_compare (w : World) (a b : Int) : Calls Tryd.prog 112 #[.int .u8 a, .int .u8 b] w fun e w' => e = .returned (.int .i64 (icmp a b)) ∧ w = w' := by
  go_enter Tryd.func112, Tryd.ntmps112
  go_wp2_with fail
  refine (cmp_cap _ _ _).mono ?_
  rintro e w' ⟨rfl, rfl⟩
  go_wp2_with fail
  go_ret
  exact ⟨rfl, rfl⟩

theorem boxes2C (w : World) (x y : EntC) :
    Below w.heap.size w ((w.alloc (.cells #[.int .u8 x.key, .int .i64 x.v] 69)).alloc (.cells #[.int .u8 y.key, .int .i64 y.v] 69)) :=
  ((Below.refl _ w).alloc (Nat.le_refl _) _).alloc (by simp) _

theorem method_cap (a : Int) (w : World) : (method 253 51 (.int .u8 a) "Compare").run Tryd.prog w = .ok (112, .int .u8 a) w := by kernel_rfl

set_option maxHeartbeats 400000 in
theorem ent_compareC (w : World) (x y : EntC) : Calls Tryd.prog 118 #[.agg #[.int .u8 x.key, .int .i64 x.v], .agg #[.int .u8 y.key, .int .i64 y.v]] w
    fun e w' => e = .returned (.int .i64 (entCmpC x y)) ∧ Below w.heap.size w w' := by
  have hB0 := boxes2C w x y
  have hme := method_cap
  go_enter Tryd.func118, Tryd.ntmps118
  go_wp2_with fail
  refine (cap_compare _ x.key y.key).mono ?_
  rintro e w' ⟨rfl, rfl⟩
  go_wp2_with fail
  go_ret
  exact ⟨rfl, hB0⟩

end Go.Proofs.YtimeamehmefgnaaDoor
