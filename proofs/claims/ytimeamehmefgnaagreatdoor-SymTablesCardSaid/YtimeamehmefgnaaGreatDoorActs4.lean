/- A list of calls of a table that a law is given lies in memory. Conditions: the list can be read. -/
import Derived.Test.YtimeamehmefgnaaGreatDoorSymsIn
import Derived.Test.YtimeamehmefgnaaGreatDoorBytesIn
namespace Go.Proofs.YtimeamehmefgnaaGreatDoor
open Go Go.RowKit Go.ChangeShapes Go.WideShapes Go.ChangeAt Go.Deep

/-- A call that the law is given. -/
structure A4 where
  d : Int
  c : Int
  s : SymV
  a : Option Addr
  cap : Nat
  l : List SymV

abbrev A4.v (x : A4) : Value := .slice x.a x.l.length x.cap

def A4At (w : World) (b o : Nat) (x : A4) : Prop :=
  w.cell? ⟨b, o, none⟩ = some (.int .i64 x.d) ∧ w.cell? ⟨b, o + 1, none⟩ = some (.int .u8 x.c) ∧ w.cell? ⟨b, o + 2, none⟩ = some (.int .i64 x.s.k) ∧ w.cell? ⟨b, o + 3, none⟩ = some (.string x.s.t) ∧ w.cell? ⟨b, o + 4, none⟩ = some (.int .i64 x.s.n) ∧ w.cell? ⟨b, o + 5, none⟩ = some (.slice x.a x.l.length x.cap)

def Acts4Of (w : World) (v : Value) (l : List A4) : Prop :=
  ∃ a cap, v = .slice a l.length cap ∧ (l = [] ∨ ∃ b off, a = some ⟨b, off, none⟩ ∧ ∀ (i : Nat) (x : A4), l[i]? = some x → A4At w b (off + i * 6) x ∧ S.SliceOf w x.v x.l)

theorem A4At.below {w w' : World} {B b o : Nat} {x : A4} (hB : Below B w w') (hb : b < B) (h : A4At w b o x) : A4At w' b o x := by
  unfold A4At at *
  simp only [← hB.cell (p := ⟨b, _, none⟩) hb] at h
  exact h

noncomputable def bfld (i : Nat) : Field := (Tryz.prog.fieldsOf 35)[i]!
theorem bfld_under : Tryz.prog.underlying 35 = some (.struct #[bfld 0, bfld 1, bfld 2, bfld 3]) := by kernel_rfl
theorem bfld_offs : ((bfld 0).offset, (bfld 1).offset, (bfld 2).offset, (bfld 3).offset) = (0, 1, 2, 5) := by kernel_rfl
theorem bfld_cells : (Tryz.prog.cellsOf (bfld 0).type, Tryz.prog.cellsOf (bfld 1).type, Tryz.prog.cellsOf (bfld 2).type, Tryz.prog.cellsOf (bfld 3).type) = (1, 1, 3, 1) := by kernel_rfl
theorem bfld_t0 : Tryz.prog.underlying (bfld 0).type = some (.int .i64) := by kernel_rfl
theorem bfld_t1 : Tryz.prog.underlying (bfld 1).type = some (.int .u8) := by kernel_rfl
theorem bfld_t2 : (bfld 2).type = 33 := by kernel_rfl
theorem bfld_t3 : (bfld 3).type = 29 := by kernel_rfl
theorem cells_act4 : Tryz.prog.cellsOf 35 = 6 := by kernel_rfl

set_option maxRecDepth 100000 in
theorem open_symsv {H : Type} {enc : TypeId × Value → H} {W : World} {n : Nat} {v : Value} {x : DataW H × List MemPlace}
    (hf : DataW.trod enc Tryz.prog W 0 (fun _ => true) true n 29 [v] = some x) : ∃ (a : Option Addr) (cap : Nat) (xs : List SymV), v = .slice a xs.length cap ∧ S.SliceOf W v xs := by
  rcases open_slice Tryz.underlying29 hf with ⟨hcs, -⟩ | ⟨a, len', cap', m, n, D, Pl, hcs, _, hl, -, hm, -, hx⟩
  · simp at hcs
    subst hcs
    exact ⟨none, 0, [], rfl, none, 0, rfl, .inl rfl⟩
  · simp at hcs
    subst hcs
    simp only [if_true] at hm
    subst hm
    rw [S.cells_sym] at hx
    have each : ∀ i, i < m → ∃ y : SymV, W.cell? (a.add (i * 3)) = some (.int .i64 y.k) ∧ W.cell? ((a.add (i * 3)).add 1) = some (.string y.t) ∧ W.cell? ((a.add (i * 3)).add 2) = some (.int .i64 y.n) := fun i hi => by
      obtain ⟨cs', h1, h2⟩ := hx i hi
      exact S.open_sym h1 h2
    haveI : Inhabited SymV := ⟨⟨0, ⟨#[]⟩, 0⟩⟩
    obtain ⟨q, hq⟩ := choose_lt each
    have hlen : ((List.range len').map q).length = len' := by simp
    refine ⟨some a, m, (List.range len').map q, by rw [hlen], some a, m, by rw [hlen], ?_⟩
    by_cases h0 : len' = 0
    · exact .inl (by subst h0; simp)
    · obtain ⟨b, off, spot⟩ := a
      obtain rfl : spot = none := by simpa [Addr.add] using World.cell?_spot (hq 0 (by omega)).1
      refine .inr ⟨b, off, rfl, fun i x hx => ?_⟩
      have hi : i < len' := by have := (List.getElem?_eq_some_iff.1 hx).1; simpa using this
      have e := hq i (by omega)
      rw [show q i = x by simpa [List.getElem?_map, List.getElem?_range hi] using hx] at e
      simp only [add_plain] at e
      exact e

set_option maxRecDepth 100000 in
theorem open_act4 {H : Type} {enc : TypeId × Value → H} {W : World} {n : Nat} {a : Addr} {cs : List Value} {x : DataW H × List MemPlace}
    (h1 : W.cells? 0 a 6 = some cs) (h2 : DataW.trod enc Tryz.prog W 0 (fun _ => true) true n 35 cs = some x) :
    ∃ y : A4, W.cell? a = some (.int .i64 y.d) ∧ W.cell? (a.add 1) = some (.int .u8 y.c) ∧ W.cell? (a.add 2) = some (.int .i64 y.s.k) ∧ W.cell? (a.add 3) = some (.string y.s.t) ∧ W.cell? (a.add 4) = some (.int .i64 y.s.n) ∧ W.cell? (a.add 5) = some (.slice y.a y.l.length y.cap) ∧ S.SliceOf W y.v y.l := by
  obtain ⟨_, hlen, hcell⟩ := World.cells?_some h1
  obtain ⟨xs, k, hk, hxy, _, hxl, hf⟩ := DataW.trod_struct bfld_under h2
  have ho := bfld_offs
  have hc := bfld_cells
  simp only [Prod.mk.injEq] at ho hc
  match xs, hxl, cs, hlen with
  | [y0, y1, y2, y3], _, [v0, v1, v2, v3, v4, v5], _ =>
    have g0 := hf 0 (bfld 0) rfl
    have g1 := hf 1 (bfld 1) rfl
    have g2 := hf 2 (bfld 2) rfl
    have g3 := hf 3 (bfld 3) rfl
    simp [ho.1, ho.2.1, ho.2.2.1, ho.2.2.2, hc.1, hc.2.1, hc.2.2.1, hc.2.2.2] at g0 g1 g2 g3
    have e0 := hcell 0 (by omega)
    have e1 := hcell 1 (by omega)
    have e2 := hcell 2 (by omega)
    have e3 := hcell 3 (by omega)
    have e4 := hcell 4 (by omega)
    have e5 := hcell 5 (by omega)
    obtain ⟨z0, q0, -⟩ := DataW.trod_int bfld_t0 g0
    obtain ⟨z1, q1, -⟩ := DataW.trod_int bfld_t1 g1
    rw [bfld_t2] at g2
    rw [bfld_t3] at g3
    obtain ⟨a5, cap5, l5, rfl, hS⟩ := open_symsv g3
    obtain ⟨xs2, k2, hk2, hxy2, _, hxl2, hf2⟩ := DataW.trod_struct S.fld_under g2
    have ho2 := S.fld_offs
    have hc2 := S.fld_cells
    simp only [Prod.mk.injEq] at ho2 hc2
    match xs2, hxl2 with
    | [u0, u1, u2], _ =>
      have p0 := hf2 0 (S.fld 0) rfl
      have p1 := hf2 1 (S.fld 1) rfl
      have p2 := hf2 2 (S.fld 2) rfl
      simp [ho2.1, ho2.2.1, ho2.2.2, hc2.1, hc2.2.1, hc2.2.2] at p0 p1 p2
      obtain ⟨t0, r0, -⟩ := DataW.trod_int S.fld_t0 p0
      obtain ⟨t1, r1, -⟩ := DataW.trod_string S.fld_t1 p1
      obtain ⟨t2, r2, -⟩ := DataW.trod_int S.fld_t2 p2
      simp only [List.cons.injEq, and_true] at q0 q1 r0 r1 r2
      subst q0 q1 r0 r1 r2
      exact ⟨⟨z0, z1, ⟨t0, t1, t2⟩, a5, cap5, l5⟩, by simpa [Addr.add] using e0, by simpa using e1, by simpa using e2, by simpa using e3, by simpa using e4, by simpa using e5, hS⟩

set_option maxRecDepth 100000 in
theorem open_acts4 {H : Type} {enc : TypeId × Value → H} {W : World} {v : Value} {d : DataW H} {ps : List MemPlace} (hval : Value.okWide Tryz.prog W .any 0 22 v)
    (h : DataW.Trod enc Tryz.prog W 0 (fun _ => true) true 22 v d ps) : ∃ xs, Acts4Of W v xs := by
  obtain ⟨a0, len, cap, rfl⟩ := okWide_slice Tryz.underlying22 hval
  obtain ⟨fuel, hf⟩ := h
  rcases open_slice Tryz.underlying22 hf with ⟨hcs, -⟩ | ⟨a, len', cap', m, n, D, Pl, hcs, _, hl, -, hm, -, hx⟩
  · simp [Value.cells] at hcs
    obtain ⟨rfl, rfl, rfl⟩ := hcs
    exact ⟨[], none, 0, rfl, .inl rfl⟩
  · simp [Value.cells] at hcs
    obtain ⟨rfl, rfl, rfl⟩ := hcs
    simp only [if_true] at hm
    subst hm
    rw [cells_act4] at hx
    have each : ∀ i, i < m → ∃ y : A4, W.cell? (a.add (i * 6)) = some (.int .i64 y.d) ∧ W.cell? ((a.add (i * 6)).add 1) = some (.int .u8 y.c) ∧ W.cell? ((a.add (i * 6)).add 2) = some (.int .i64 y.s.k) ∧ W.cell? ((a.add (i * 6)).add 3) = some (.string y.s.t) ∧ W.cell? ((a.add (i * 6)).add 4) = some (.int .i64 y.s.n) ∧ W.cell? ((a.add (i * 6)).add 5) = some (.slice y.a y.l.length y.cap) ∧ S.SliceOf W y.v y.l := fun i hi => by
      obtain ⟨cs', h1, h2⟩ := hx i hi
      exact open_act4 h1 h2
    haveI : Inhabited A4 := ⟨⟨0, 0, ⟨0, ⟨#[]⟩, 0⟩, none, 0, []⟩⟩
    obtain ⟨q, hq⟩ := choose_lt each
    have hlen : ((List.range len).map q).length = len := by simp
    refine ⟨(List.range len).map q, some a, m, by rw [hlen], ?_⟩
    by_cases h0 : len = 0
    · exact .inl (by subst h0; simp)
    · obtain ⟨b, off, spot⟩ := a
      obtain rfl : spot = none := by simpa [Addr.add] using World.cell?_spot (hq 0 (by omega)).1
      refine .inr ⟨b, off, rfl, fun i x hx => ?_⟩
      have hi : i < len := by have := (List.getElem?_eq_some_iff.1 hx).1; simpa using this
      have e := hq i (by omega)
      rw [show q i = x by simpa [List.getElem?_map, List.getElem?_range hi] using hx] at e
      simp only [add_plain] at e
      obtain ⟨e0, e1, e2, e3, e4, e5, e6⟩ := e
      exact ⟨⟨e0, e1, e2, e3, e4, e5⟩, e6⟩

end Go.Proofs.YtimeamehmefgnaaGreatDoor
