/- A symbol, a text that a law is given lies in memory. Conditions: they can be read. -/
import Derived.Test.YtimeamehmefgnaaDoorSymsIn
import Derived.Lib.SmallJoins
namespace Go.Proofs.YtimeamehmefgnaaDoor.S
open Go Go.RowKit Go.ChangeShapes Go.WideShapes Go.ChangeAt Go.Deep

theorem one_sym : oneCellFields Tryd.prog #[fld 0, fld 1, fld 2] = true := by kernel_rfl

set_option maxRecDepth 100000 in
theorem open_sym1 {H : Type} {enc : TypeId × Value → H} {W : World} {base : Nat} {v : Value} {d : DataW H} {ps : List MemPlace} (hval : Value.okWide Tryd.prog W .any base 23 v)
    (h : DataW.Trod enc Tryd.prog W 0 (fun _ => true) true 23 v d ps) : ∃ x : SymV, v = .agg #[.int .i64 x.k, .string x.t, .int .i64 x.n] := by
  obtain ⟨v0, v1, v2, y0, y1, y2, n, rfl, -, -, h0, h1, h2⟩ := Go.Joins.open_agg3 fld_under one_sym cells_sym hval h
  obtain ⟨z0, q0, -⟩ := DataW.trod_int fld_t0 h0
  obtain ⟨z1, q1, -⟩ := DataW.trod_string fld_t1 h1
  obtain ⟨z2, q2, -⟩ := DataW.trod_int fld_t2 h2
  simp only [List.cons.injEq, and_true] at q0 q1 q2
  subst q0 q1 q2
  exact ⟨⟨z0, z1, z2⟩, rfl⟩

end Go.Proofs.YtimeamehmefgnaaDoor.S
