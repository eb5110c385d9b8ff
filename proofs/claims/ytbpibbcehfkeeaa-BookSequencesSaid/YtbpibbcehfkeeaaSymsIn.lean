/- A list of symbols that a law is given lies in memory. Conditions: the list can be read. -/
import Derived.Test.YtbpibbcehfkeeaaNewSS
import Derived.Test.YtbpibbcehfkeeaaSymEq
import Derived.Test.YtbpibbcehfkeeaaLaw
import Derived.Deep.Slices
namespace Go.Proofs.Ytbpibbcehfkeeaa.S
open Go Go.RowKit Go.ChangeShapes Go.WideShapes Go.ChangeAt Go.Deep

noncomputable def fld (i : Nat) : Field := (Try.prog.fieldsOf 26)[i]!
theorem fld_under : Try.prog.underlying 26 = some (.struct #[fld 0, fld 1, fld 2]) := by kernel_rfl
theorem fld_offs : ((fld 0).offset, (fld 1).offset, (fld 2).offset) = (0, 1, 2) := by kernel_rfl
theorem fld_cells : (Try.prog.cellsOf (fld 0).type, Try.prog.cellsOf (fld 1).type, Try.prog.cellsOf (fld 2).type) = (1, 1, 1) := by kernel_rfl
theorem fld_t0 : Try.prog.underlying (fld 0).type = some (.int .i64) := by kernel_rfl
theorem fld_t1 : Try.prog.underlying (fld 1).type = some .string := by kernel_rfl
theorem fld_t2 : Try.prog.underlying (fld 2).type = some (.int .i64) := by kernel_rfl
theorem cells_sym : Try.prog.cellsOf 26 = 3 := by kernel_rfl

set_option maxRecDepth 100000 in
theorem open_sym {H : Type} {enc : TypeId × Value → H} {W : World} {base : Nat} {sp : Nat → Bool} {hd : Bool} {n : Nat} {a : Addr} {cs : List Value} {x : DataW H × List MemPlace}
    (h1 : W.cells? base a 3 = some cs) (h2 : DataW.trod enc Try.prog W base sp hd n 26 cs = some x) :
    ∃ y : SymV, W.cell? a = some (.int .i64 y.k) ∧ W.cell? (a.add 1) = some (.string y.t) ∧ W.cell? (a.add 2) = some (.int .i64 y.n) := by
  obtain ⟨_, hlen, hcell⟩ := World.cells?_some h1
  obtain ⟨xs, k, hk, hxy, _, hxl, hf⟩ := DataW.trod_struct fld_under h2
  have ho := fld_offs
  have hc := fld_cells
  simp only [Prod.mk.injEq] at ho hc
  match xs, hxl, cs, hlen with
  | [y0, y1, y2], _, [v0, v1, v2], _ =>
    have g0 := hf 0 (fld 0) rfl
    have g1 := hf 1 (fld 1) rfl
    have g2 := hf 2 (fld 2) rfl
    simp [ho.1, ho.2.1, ho.2.2, hc.1, hc.2.1, hc.2.2] at g0 g1 g2
    have e0 := hcell 0 (by omega)
    have e1 := hcell 1 (by omega)
    have e2 := hcell 2 (by omega)
    obtain ⟨z0, q0, -⟩ := DataW.trod_int fld_t0 g0
    obtain ⟨z1, q1, -⟩ := DataW.trod_string fld_t1 g1
    obtain ⟨z2, q2, -⟩ := DataW.trod_int fld_t2 g2
    simp only [List.cons.injEq, and_true] at q0 q1 q2
    subst q0 q1 q2
    exact ⟨⟨z0, z1, z2⟩, by simpa [Addr.add] using e0, by simpa using e1, by simpa using e2⟩

set_option maxRecDepth 100000 in
theorem open_syms {H : Type} {enc : TypeId × Value → H} {W : World} {v : Value} {d : DataW H} {ps : List MemPlace} (hval : Value.okWide Try.prog W .any 0 29 v)
    (h : DataW.Trod enc Try.prog W 0 (fun _ => true) true 29 v d ps) : ∃ xs, SliceOf W v xs := by
  obtain ⟨a0, len, cap, rfl⟩ := okWide_slice Try.underlying29 hval
  obtain ⟨fuel, hf⟩ := h
  rcases open_slice Try.underlying29 hf with ⟨hcs, -⟩ | ⟨a, len', cap', m, n, D, Pl, hcs, _, hl, -, hm, -, hx⟩
  · simp [Value.cells] at hcs
    obtain ⟨rfl, rfl, rfl⟩ := hcs
    exact ⟨[], none, 0, rfl, .inl rfl⟩
  · simp [Value.cells] at hcs
    obtain ⟨rfl, rfl, rfl⟩ := hcs
    simp only [if_true] at hm
    subst hm
    rw [cells_sym] at hx
    have each : ∀ i, i < m → ∃ y : SymV, W.cell? (a.add (i * 3)) = some (.int .i64 y.k) ∧ W.cell? ((a.add (i * 3)).add 1) = some (.string y.t) ∧ W.cell? ((a.add (i * 3)).add 2) = some (.int .i64 y.n) := fun i hi => by
      obtain ⟨cs', h1, h2⟩ := hx i hi
      exact open_sym h1 h2
    haveI : Inhabited SymV := ⟨⟨0, ⟨#[]⟩, 0⟩⟩
    obtain ⟨q, hq⟩ := choose_lt each
    have hlen : ((List.range len).map q).length = len := by simp
    refine ⟨(List.range len).map q, some a, m, by rw [hlen], ?_⟩
    by_cases h0 : len = 0
    · exact .inl (by subst h0; simp)
    · obtain ⟨b, off, spot⟩ := a
      obtain rfl : spot = none := by simpa [Addr.add] using World.cell?_spot (hq 0 (by omega)).1
      refine .inr ⟨b, off, rfl, fun i x hx => ?_⟩
      have hi : i < len := by have := (List.getElem?_eq_some_iff.1 hx).1; simpa using this
      have e := hq i (by omega)
      rw [show q i = x by simpa [List.getElem?_map, List.getElem?_range hi] using hx] at e
      simp only [add_plain] at e
      exact e

end Go.Proofs.Ytbpibbcehfkeeaa.S
