/- A list of calls that a law is given lies in memory. Conditions: the list can be read. -/
import Derived.Test.YtbpibbcehfkeeaaBActs
import Derived.Test.YtbpibbcehfkeeaaSymsIn
namespace Go.Proofs.Ytbpibbcehfkeeaa
open Go Go.RowKit Go.ChangeShapes Go.WideShapes Go.ChangeAt Go.Deep

noncomputable def afld (i : Nat) : Field := (Try.prog.fieldsOf 34)[i]!
theorem afld_under : Try.prog.underlying 34 = some (.struct #[afld 0, afld 1, afld 2]) := by kernel_rfl
theorem afld_offs : ((afld 0).offset, (afld 1).offset, (afld 2).offset) = (0, 1, 2) := by kernel_rfl
theorem afld_cells : (Try.prog.cellsOf (afld 0).type, Try.prog.cellsOf (afld 1).type, Try.prog.cellsOf (afld 2).type) = (1, 1, 3) := by kernel_rfl
theorem afld_t0 : Try.prog.underlying (afld 0).type = some (.int .i64) := by kernel_rfl
theorem afld_t1 : Try.prog.underlying (afld 1).type = some (.int .i64) := by kernel_rfl
theorem afld_t2 : (afld 2).type = 26 := by kernel_rfl
theorem cells_act : Try.prog.cellsOf 34 = 5 := by kernel_rfl

set_option maxRecDepth 100000 in
theorem open_act {H : Type} {enc : TypeId × Value → H} {W : World} {base : Nat} {sp : Nat → Bool} {hd : Bool} {n : Nat} {a : Addr} {cs : List Value} {x : DataW H × List MemPlace}
    (h1 : W.cells? base a 5 = some cs) (h2 : DataW.trod enc Try.prog W base sp hd n 34 cs = some x) :
    ∃ y : ActV, W.cell? a = some (.int .i64 y.d) ∧ W.cell? (a.add 1) = some (.int .i64 y.n) ∧ W.cell? (a.add 2) = some (.int .i64 y.s.k) ∧ W.cell? (a.add 3) = some (.string y.s.t) ∧ W.cell? (a.add 4) = some (.int .i64 y.s.n) := by
  obtain ⟨_, hlen, hcell⟩ := World.cells?_some h1
  obtain ⟨xs, k, hk, hxy, _, hxl, hf⟩ := DataW.trod_struct afld_under h2
  have ho := afld_offs
  have hc := afld_cells
  simp only [Prod.mk.injEq] at ho hc
  match xs, hxl, cs, hlen with
  | [y0, y1, y2], _, [v0, v1, v2, v3, v4], _ =>
    have g0 := hf 0 (afld 0) rfl
    have g1 := hf 1 (afld 1) rfl
    have g2 := hf 2 (afld 2) rfl
    simp [ho.1, ho.2.1, ho.2.2, hc.1, hc.2.1, hc.2.2] at g0 g1 g2
    have e0 := hcell 0 (by omega)
    have e1 := hcell 1 (by omega)
    have e2 := hcell 2 (by omega)
    have e3 := hcell 3 (by omega)
    have e4 := hcell 4 (by omega)
    obtain ⟨z0, q0, -⟩ := DataW.trod_int afld_t0 g0
    obtain ⟨z1, q1, -⟩ := DataW.trod_int afld_t1 g1
    rw [afld_t2] at g2
    obtain ⟨xs2, k2, hk2, hxy2, _, hxl2, hf2⟩ := DataW.trod_struct S.fld_under g2
    have ho2 := S.fld_offs
    have hc2 := S.fld_cells
    simp only [Prod.mk.injEq] at ho2 hc2
    match xs2, hxl2 with
    | [u0, u1, u2], _ =>
      have p0 := hf2 0 (S.fld 0) rfl
      have p1 := hf2 1 (S.fld 1) rfl
      have p2 := hf2 2 (S.fld 2) rfl
      simp [ho2.1, ho2.2.1, ho2.2.2, hc2.1, hc2.2.1, hc2.2.2] at p0 p1 p2
      obtain ⟨t0, r0, -⟩ := DataW.trod_int S.fld_t0 p0
      obtain ⟨t1, r1, -⟩ := DataW.trod_string S.fld_t1 p1
      obtain ⟨t2, r2, -⟩ := DataW.trod_int S.fld_t2 p2
      simp only [List.cons.injEq, and_true] at q0 q1 r0 r1 r2
      subst q0 q1 r0 r1 r2
      exact ⟨⟨z0, z1, ⟨t0, t1, t2⟩⟩, by simpa [Addr.add] using e0, by simpa using e1, by simpa using e2, by simpa using e3, by simpa using e4⟩

set_option maxRecDepth 100000 in
theorem open_acts {H : Type} {enc : TypeId × Value → H} {W : World} {v : Value} {d : DataW H} {ps : List MemPlace} (hval : Value.okWide Try.prog W .any 0 22 v)
    (h : DataW.Trod enc Try.prog W 0 (fun _ => true) true 22 v d ps) : ∃ xs, ActsOf W v xs := by
  obtain ⟨a0, len, cap, rfl⟩ := okWide_slice Try.underlying22 hval
  obtain ⟨fuel, hf⟩ := h
  rcases open_slice Try.underlying22 hf with ⟨hcs, -⟩ | ⟨a, len', cap', m, n, D, Pl, hcs, _, hl, -, hm, -, hx⟩
  · simp [Value.cells] at hcs
    obtain ⟨rfl, rfl, rfl⟩ := hcs
    exact ⟨[], none, 0, rfl, .inl rfl⟩
  · simp [Value.cells] at hcs
    obtain ⟨rfl, rfl, rfl⟩ := hcs
    simp only [if_true] at hm
    subst hm
    rw [cells_act] at hx
    have each : ∀ i, i < m → ∃ y : ActV, W.cell? (a.add (i * 5)) = some (.int .i64 y.d) ∧ W.cell? ((a.add (i * 5)).add 1) = some (.int .i64 y.n) ∧ W.cell? ((a.add (i * 5)).add 2) = some (.int .i64 y.s.k) ∧ W.cell? ((a.add (i * 5)).add 3) = some (.string y.s.t) ∧ W.cell? ((a.add (i * 5)).add 4) = some (.int .i64 y.s.n) := fun i hi => by
      obtain ⟨cs', h1, h2⟩ := hx i hi
      exact open_act h1 h2
    haveI : Inhabited ActV := ⟨⟨0, 0, ⟨0, ⟨#[]⟩, 0⟩⟩⟩
    obtain ⟨q, hq⟩ := choose_lt each
    have hlen : ((List.range len).map q).length = len := by simp
    refine ⟨(List.range len).map q, some a, m, by rw [hlen], ?_⟩
    by_cases h0 : len = 0
    · exact .inl (by subst h0; simp)
    · obtain ⟨b, off, spot⟩ := a
      obtain rfl : spot = none := by simpa [Addr.add] using World.cell?_spot (hq 0 (by omega)).1
      refine .inr ⟨b, off, rfl, fun i x hx => ?_⟩
      have hi : i < len := by have := (List.getElem?_eq_some_iff.1 hx).1; simpa using this
      have e := hq i (by omega)
      rw [show q i = x by simpa [List.getElem?_map, List.getElem?_range hi] using hx] at e
      simp only [add_plain] at e
      exact e

end Go.Proofs.Ytbpibbcehfkeeaa
