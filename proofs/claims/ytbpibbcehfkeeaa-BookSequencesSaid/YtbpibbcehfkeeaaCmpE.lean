/- What Compare of a map's entries answers. Conditions: none. -/
import Derived.Test.YtbpibbcehfkeeaaEnt
import Derived.Test.YtbpibbcehfkeeaaCmp
namespace Go.Proofs.Ytbpibbcehfkeeaa
open Go Go.RowKit

set_option maxRecDepth 100000
theorem boxes2E (w : World) (x y : EntV) :
    Below w.heap.size w ((w.alloc (.cells #[.int .i64 x.key.k, .string x.key.t, .int .i64 x.key.n, .int .i64 x.v] 93)).alloc (.cells #[.int .i64 y.key.k, .string y.key.t, .int .i64 y.key.n, .int .i64 y.v] 93)) :=
  ((Below.refl _ w).alloc (Nat.le_refl _) _).alloc (by simp) _

theorem method_sym (a : Int) (b : ByteArray) (c : Int) (w : World) : (method 318 26 (.agg #[.int .i64 a, .string b, .int .i64 c]) "Compare").run Try.prog w = .ok (140, .agg #[.int .i64 a, .string b, .int .i64 c]) w := by kernel_rfl

set_option maxHeartbeats 400000 in
theorem ent_compare (w : World) (x y : EntV) : Calls Try.prog 157 #[.agg #[.int .i64 x.key.k, .string x.key.t, .int .i64 x.key.n, .int .i64 x.v], .agg #[.int .i64 y.key.k, .string y.key.t, .int .i64 y.key.n, .int .i64 y.v]] w
    fun e w' => e = .returned (.int .i64 (entCmp x y)) ∧ Below w.heap.size w w' := by
  have hB0 := boxes2E w x y
  have hme := method_sym
  go_enter Try.func157, Try.ntmps157
  go_wp2_with fail
  refine (sym_compare _ x.key y.key).mono ?_
  rintro e w' ⟨rfl, hB⟩
  go_wp2_with fail
  go_ret
  exact ⟨rfl, hB0.trans (hB.mono hB0.size)⟩

end Go.Proofs.Ytbpibbcehfkeeaa
