/- What Compare of a map's entries answers. Conditions: none. -/
import Derived.Test.YtmmpdgabojppnaaEntL
import Derived.Test.YtmmpdgabojppnaaCmp
namespace Go.Proofs.Ytmmpdgabojppnaa
open Go Go.RowKit

set_option maxRecDepth 100000
theorem boxes2L (w : World) (x y : EntL) :
    Below w.heap.size w ((w.alloc (.cells #[.int .i64 x.key.k, .string x.key.t, .int .i64 x.key.n, .slice x.v.a x.v.n x.v.c] 126)).alloc (.cells #[.int .i64 y.key.k, .string y.key.t, .int .i64 y.key.n, .slice y.v.a y.v.n y.v.c] 126)) :=
  ((Below.refl _ w).alloc (Nat.le_refl _) _).alloc (by simp) _

theorem method_symL (a : Int) (b : ByteArray) (c : Int) (w : World) : (method 318 26 (.agg #[.int .i64 a, .string b, .int .i64 c]) "Compare").run Try.prog w = .ok (140, .agg #[.int .i64 a, .string b, .int .i64 c]) w := by kernel_rfl

set_option maxHeartbeats 400000 in
theorem ent_compareL (w : World) (x y : EntL) : Calls Try.prog 166 #[.agg #[.int .i64 x.key.k, .string x.key.t, .int .i64 x.key.n, .slice x.v.a x.v.n x.v.c], .agg #[.int .i64 y.key.k, .string y.key.t, .int .i64 y.key.n, .slice y.v.a y.v.n y.v.c]] w
    fun e w' => e = .returned (.int .i64 (entCmpL x y)) ∧ Below w.heap.size w w' := by
  have hB0 := boxes2L w x y
  have hme := method_symL
  go_enter Try.func166, Try.ntmps166
  go_wp2_with fail
  refine (sym_compare _ x.key y.key).mono ?_
  rintro e w' ⟨rfl, hB⟩
  go_wp2_with fail
  go_ret
  exact ⟨rfl, hB0.trans (hB.mono hB0.size)⟩

end Go.Proofs.Ytmmpdgabojppnaa
