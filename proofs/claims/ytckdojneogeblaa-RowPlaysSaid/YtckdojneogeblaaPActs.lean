/- A list of calls on a queue that a law is given lies in memory. Conditions: the list can be read. -/
import Derived.Test.YtckdojneogeblaaIntsIn
import Derived.Deep.Slices
namespace Go.Proofs.Ytckdojneogeblaa
open Go Go.RowKit Go.ChangeShapes Go.WideShapes Go.ChangeAt Go.Deep

/-- A call: what, of which number, of which values. -/
structure PAct where
  d : Int
  n : Int
  sa : Option Addr
  sc : Nat
  l : List Int

/-- The calls xs lie in memory as the slice v. -/
def PActs (w : World) (v : Value) (xs : List PAct) : Prop :=
  ∃ a cap, v = .slice a xs.length cap ∧ ∀ i x, xs[i]? = some x → ∃ b off, a = some ⟨b, off, none⟩ ∧ w.cell? ⟨b, off + i * 3, none⟩ = some (.int .i64 x.d) ∧ w.cell? ⟨b, off + i * 3 + 1, none⟩ = some (.int .i64 x.n) ∧ w.cell? ⟨b, off + i * 3 + 2, none⟩ = some (.slice x.sa x.l.length x.sc) ∧ IntsOf w (.slice x.sa x.l.length x.sc) x.l

theorem PActs.below {w w' : World} {v : Value} {xs : List PAct} (h : PActs w v xs) (hB : Below w.heap.size w w') : PActs w' v xs := by
  obtain ⟨a, cap, rfl, h⟩ := h
  refine ⟨a, cap, rfl, fun i x hx => ?_⟩
  obtain ⟨b, off, rfl, h1, h2, h3, h4⟩ := h i x hx
  have hb : b < w.heap.size := World.block_lt_of_cell? w _ h1
  exact ⟨b, off, rfl, (hB.cell (p := ⟨b, _, none⟩) hb).trans h1, (hB.cell (p := ⟨b, _, none⟩) hb).trans h2, (hB.cell (p := ⟨b, _, none⟩) hb).trans h3, h4.below hB⟩

noncomputable def pfld (i : Nat) : Field := (Try.prog.fieldsOf 30)[i]!
theorem pfld_under : Try.prog.underlying 30 = some (.struct #[pfld 0, pfld 1, pfld 2]) := by kernel_rfl
theorem pfld_offs : ((pfld 0).offset, (pfld 1).offset, (pfld 2).offset) = (0, 1, 2) := by kernel_rfl
theorem pfld_cells : (Try.prog.cellsOf (pfld 0).type, Try.prog.cellsOf (pfld 1).type, Try.prog.cellsOf (pfld 2).type) = (1, 1, 1) := by kernel_rfl
theorem pfld_t0 : Try.prog.underlying (pfld 0).type = some (.int .i64) := by kernel_rfl
theorem pfld_t1 : Try.prog.underlying (pfld 1).type = some (.int .i64) := by kernel_rfl
theorem pfld_t2 : (pfld 2).type = 28 := by kernel_rfl
theorem cells_pact : Try.prog.cellsOf 30 = 3 := by kernel_rfl

set_option maxRecDepth 100000 in
theorem open_pact {H : Type} {enc : TypeId × Value → H} {W : World} {n : Nat} {a : Addr} {cs : List Value} {x : DataW H × List MemPlace}
    (h1 : W.cells? 0 a 3 = some cs) (h2 : DataW.trod enc Try.prog W 0 (fun _ => true) true n 30 cs = some x) :
    ∃ y : PAct, W.cell? a = some (.int .i64 y.d) ∧ W.cell? (a.add 1) = some (.int .i64 y.n) ∧ W.cell? (a.add 2) = some (.slice y.sa y.l.length y.sc) ∧ IntsOf W (.slice y.sa y.l.length y.sc) y.l := by
  obtain ⟨_, hlen, hcell⟩ := World.cells?_some h1
  obtain ⟨xs, k, hk, hxy, _, hxl, hf⟩ := DataW.trod_struct pfld_under h2
  have ho := pfld_offs
  have hc := pfld_cells
  simp only [Prod.mk.injEq] at ho hc
  match xs, hxl, cs, hlen with
  | [y0, y1, y2], _, [v0, v1, v2], _ =>
    have g0 := hf 0 (pfld 0) rfl
    have g1 := hf 1 (pfld 1) rfl
    have g2 := hf 2 (pfld 2) rfl
    simp [ho.1, ho.2.1, ho.2.2, hc.1, hc.2.1, hc.2.2] at g0 g1 g2
    have e0 := hcell 0 (by omega)
    have e1 := hcell 1 (by omega)
    have e2 := hcell 2 (by omega)
    obtain ⟨z0, q0, -⟩ := DataW.trod_int pfld_t0 g0
    obtain ⟨z1, q1, -⟩ := DataW.trod_int pfld_t1 g1
    rw [pfld_t2] at g2
    simp only [List.cons.injEq, and_true] at q0 q1
    subst q0 q1
    have hv2 : ∃ a0 len0 cap0, v2 = .slice a0 len0 cap0 := by
      rcases open_ints Try.underlying28 Try.underlying3 cells_int g2 with ⟨hcs, -⟩ | ⟨a, len', cap', zs, hcs, -⟩
      · simp at hcs; exact ⟨_, _, _, hcs⟩
      · simp at hcs; exact ⟨_, _, _, hcs⟩
    obtain ⟨a0, len0, cap0, rfl⟩ := hv2
    obtain ⟨zs, hzs⟩ := open_ints_at g2
    have hz := hzs
    obtain ⟨a', cap', e, -⟩ := hz
    simp only [Value.slice.injEq] at e
    obtain ⟨rfl, rfl, rfl⟩ := e
    exact ⟨⟨z0, z1, a0, cap0, zs⟩, by simpa [Addr.add] using e0, by simpa using e1, by simpa using e2, hzs⟩

set_option maxRecDepth 100000 in
theorem open_acts {H : Type} {enc : TypeId × Value → H} {W : World} {v : Value} {d : DataW H} {ps : List MemPlace} (hval : Value.okWide Try.prog W .any 0 22 v)
    (h : DataW.Trod enc Try.prog W 0 (fun _ => true) true 22 v d ps) : ∃ xs, PActs W v xs := by
  obtain ⟨a0, len, cap, rfl⟩ := okWide_slice Try.underlying22 hval
  obtain ⟨fuel, hf⟩ := h
  rcases open_slice Try.underlying22 hf with ⟨hcs, -⟩ | ⟨a, len', cap', m, n, D, Pl, hcs, _, hl, -, hm, -, hx⟩
  · simp [Value.cells] at hcs
    obtain ⟨rfl, rfl, rfl⟩ := hcs
    exact ⟨[], none, 0, rfl, by simp⟩
  · simp [Value.cells] at hcs
    obtain ⟨rfl, rfl, rfl⟩ := hcs
    simp only [if_true] at hm
    subst hm
    rw [cells_pact] at hx
    have each : ∀ i, i < m → ∃ y : PAct, W.cell? (a.add (i * 3)) = some (.int .i64 y.d) ∧ W.cell? ((a.add (i * 3)).add 1) = some (.int .i64 y.n) ∧ W.cell? ((a.add (i * 3)).add 2) = some (.slice y.sa y.l.length y.sc) ∧ IntsOf W (.slice y.sa y.l.length y.sc) y.l := fun i hi => by
      obtain ⟨cs', h1, h2⟩ := hx i hi
      exact open_pact h1 h2
    haveI : Inhabited PAct := ⟨⟨0, 0, none, 0, []⟩⟩
    obtain ⟨q, hq⟩ := choose_lt each
    have hlen : ((List.range len).map q).length = len := by simp
    refine ⟨(List.range len).map q, some a, m, by rw [hlen], fun i x hx => ?_⟩
    have hi : i < len := by have := (List.getElem?_eq_some_iff.1 hx).1; simpa using this
    have e := hq i (by omega)
    rw [show q i = x by simpa [List.getElem?_map, List.getElem?_range hi] using hx] at e
    obtain ⟨b, off, spot⟩ := a
    obtain rfl : spot = none := by simpa [Addr.add] using World.cell?_spot (hq 0 (by omega)).1
    simp only [add_plain] at e
    exact ⟨b, off, rfl, e⟩

end Go.Proofs.Ytckdojneogeblaa
