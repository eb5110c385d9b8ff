/- What == and != of two elements answer; a list of elements that a law is given lies in memory. Conditions: none. -/
import Derived.Test.YtcpgjekkcpfpaaaMg11
import Derived.Test.YtcpgjekkcpfpaaaMg20
namespace Go.Proofs.Ytcpgjekkcpfpaaa
open Go Go.RowKit Go.ChangeShapes Go.WideShapes Go.ChangeAt Go.Deep

/-- Are all six fields the same? -/
def sameE (x y : ElmV) : Bool := same x.id y.id && (same x.attr y.attr && (same x.val y.val && (x.acc == y.acc && (x.goal == y.goal && x.tag == y.tag))))

theorem sameE_iff {x y : ElmV} : sameE x y = true ↔ x = y := by
  simp only [sameE, Bool.and_eq_true, beq_iff_eq, same_iff]
  constructor
  · rintro ⟨h1, h2, h3, h4, h5, h6⟩
    cases x; cases y; simp_all
  · rintro rfl; simp

theorem sym_equalD (d : Nat) (x y : SymV) (w : World) : (Op.equalIn (d + 2) 27 (.agg #[.int .i64 x.k, .string x.t, .int .i64 x.n]) (.agg #[.int .i64 y.k, .string y.t, .int .i64 y.n])).run Try.prog w = .ok (same x y) w := by
  rw [run_equalIn_struct _ (d + 1) _ _ _ sym_under sym_held]
  simp only [Program.fieldsOf, Try.underlying27]
  simp [go_sem, Op.eqFields]
  by_cases h1 : x.k = y.k <;> by_cases h2 : x.t.toList = y.t.toList <;> by_cases h3 : x.n = y.n <;> simp [same, h1, h2, h3]

theorem elm_under : Try.prog.underlying 29 = some (.struct (Try.prog.fieldsOf 29)) := by kernel_rfl
theorem elm_held : Try.prog.stoodInHeld 29 = false := by kernel_rfl
theorem elm_guard : Try.prog.eqGuardType Try.prog.depth 29 = false := by kernel_rfl

set_option maxHeartbeats 800000 in
theorem elm_equal (x y : ElmV) (w : World) : (Op.equalIn 10000 29 (.agg #[.int .i64 x.id.k, .string x.id.t, .int .i64 x.id.n, .int .i64 x.attr.k, .string x.attr.t, .int .i64 x.attr.n, .int .i64 x.val.k, .string x.val.t, .int .i64 x.val.n, .bool x.acc, .bool x.goal, .int .i64 x.tag]) (.agg #[.int .i64 y.id.k, .string y.id.t, .int .i64 y.id.n, .int .i64 y.attr.k, .string y.attr.t, .int .i64 y.attr.n, .int .i64 y.val.k, .string y.val.t, .int .i64 y.val.n, .bool y.acc, .bool y.goal, .int .i64 y.tag])).run Try.prog w = .ok (sameE x y) w := by
  have hs := fun (x y : SymV) w => sym_equalD 9997 x y w
  rw [run_equalIn_struct _ 9999 _ _ _ elm_under elm_held]
  simp only [Program.fieldsOf, Try.underlying29]
  cases h1 : same x.id y.id
  · simp [go_sem, Op.eqFields, hs, h1, sameE]
  cases h2 : same x.attr y.attr
  · simp [go_sem, Op.eqFields, hs, h1, h2, sameE]
  cases h3 : same x.val y.val
  · simp [go_sem, Op.eqFields, hs, h1, h2, h3, sameE]
  cases h4 : x.acc == y.acc
  · simp [go_sem, Op.eqFields, hs, h1, h2, h3, h4, sameE]
  cases h5 : x.goal == y.goal
  · simp [go_sem, Op.eqFields, hs, h1, h2, h3, h4, h5, sameE]
  cases h6 : x.tag == y.tag <;> simp [go_sem, Op.eqFields, hs, h1, h2, h3, h4, h5, h6, sameE]

theorem elm_equal' (a : Int) (b : ByteArray) (c : Int) (d : Int) (e : ByteArray) (f : Int) (g : Int) (h : ByteArray) (i : Int) (j l : Bool) (o : Int) (a' : Int) (b' : ByteArray) (c' : Int) (d' : Int) (e' : ByteArray) (f' : Int) (g' : Int) (h' : ByteArray) (i' : Int) (j' l' : Bool) (o' : Int) (w : World) :
    (Op.equalIn 10000 29 (.agg #[.int .i64 a, .string b, .int .i64 c, .int .i64 d, .string e, .int .i64 f, .int .i64 g, .string h, .int .i64 i, .bool j, .bool l, .int .i64 o]) (.agg #[.int .i64 a', .string b', .int .i64 c', .int .i64 d', .string e', .int .i64 f', .int .i64 g', .string h', .int .i64 i', .bool j', .bool l', .int .i64 o'])).run Try.prog w =
      .ok (sameE ⟨⟨a, b, c⟩, ⟨d, e, f⟩, ⟨g, h, i⟩, j, l, o⟩ ⟨⟨a', b', c'⟩, ⟨d', e', f'⟩, ⟨g', h', i'⟩, j', l', o'⟩) w := elm_equal ⟨⟨a, b, c⟩, ⟨d, e, f⟩, ⟨g, h, i⟩, j, l, o⟩ ⟨⟨a', b', c'⟩, ⟨d', e', f'⟩, ⟨g', h', i'⟩, j', l', o'⟩ w

theorem elmCmp_zero {x y : ElmV} : elmCmp x y = 0 ↔ x.id = y.id ∧ x.attr = y.attr ∧ x.val = y.val ∧ x.acc = y.acc := by
  have hb : ∀ a b, bcmp a b = 0 ↔ a = b := by decide
  have hs := fun a b => S.symCmp_exact a b
  unfold elmCmp lex
  constructor
  · intro h
    split at h
    · rename_i h1; exact absurd h h1
    · rename_i h1
      split at h
      · rename_i h2; exact absurd h h2
      · rename_i h2
        split at h
        · rename_i h3; exact absurd h h3
        · rename_i h3
          exact ⟨(hs _ _).1 (by simpa using h1), (hs _ _).1 (by simpa using h2), (hs _ _).1 (by simpa using h3), (hb _ _).1 h⟩
  · rintro ⟨h1, h2, h3, h4⟩
    rw [if_neg (by simpa using (hs _ _).2 h1), if_neg (by simpa using (hs _ _).2 h2), if_neg (by simpa using (hs _ _).2 h3)]
    exact (hb _ _).2 h4

namespace O

noncomputable def fld (i : Nat) : Field := (Try.prog.fieldsOf 29)[i]!
theorem fld_under : Try.prog.underlying 29 = some (.struct #[fld 0, fld 1, fld 2, fld 3, fld 4, fld 5]) := by kernel_rfl
theorem fld_offs : ((fld 0).offset, (fld 1).offset, (fld 2).offset, (fld 3).offset, (fld 4).offset, (fld 5).offset) = (0, 3, 6, 9, 10, 11) := by kernel_rfl
theorem fld_cells : (Try.prog.cellsOf (fld 0).type, Try.prog.cellsOf (fld 1).type, Try.prog.cellsOf (fld 2).type, Try.prog.cellsOf (fld 3).type, Try.prog.cellsOf (fld 4).type, Try.prog.cellsOf (fld 5).type) = (3, 3, 3, 1, 1, 1) := by kernel_rfl
theorem fld_t : ((fld 0).type, (fld 1).type, (fld 2).type) = (27, 27, 27) := by kernel_rfl
theorem fld_t3 : Try.prog.underlying (fld 3).type = some .bool := by kernel_rfl
theorem fld_t4 : Try.prog.underlying (fld 4).type = some .bool := by kernel_rfl
theorem fld_t5 : Try.prog.underlying (fld 5).type = some (.int .i64) := by kernel_rfl
theorem cells_elm : Try.prog.cellsOf 29 = 12 := by kernel_rfl

set_option maxRecDepth 100000 in
/-- Three cells that read as a symbol are one. -/
theorem sym_cells {H : Type} {enc : TypeId × Value → H} {W : World} {base : Nat} {sp : Nat → Bool} {hd : Bool} {n : Nat} {cs : List Value} {x : DataW H × List MemPlace}
    (h2 : DataW.trod enc Try.prog W base sp hd n 27 cs = some x) (hlen : cs.length = 3) : ∃ y : SymV, cs = [.int .i64 y.k, .string y.t, .int .i64 y.n] := by
  obtain ⟨xs, k, hk, hxy, _, hxl, hf⟩ := DataW.trod_struct S.fld_under h2
  have ho := S.fld_offs
  have hc := S.fld_cells
  simp only [Prod.mk.injEq] at ho hc
  match xs, hxl, cs, hlen with
  | [y0, y1, y2], _, [v0, v1, v2], _ =>
    have g0 := hf 0 (S.fld 0) rfl
    have g1 := hf 1 (S.fld 1) rfl
    have g2 := hf 2 (S.fld 2) rfl
    simp [ho.1, ho.2.1, ho.2.2, hc.1, hc.2.1, hc.2.2] at g0 g1 g2
    obtain ⟨z0, q0, -⟩ := DataW.trod_int S.fld_t0 g0
    obtain ⟨z1, q1, -⟩ := DataW.trod_string S.fld_t1 g1
    obtain ⟨z2, q2, -⟩ := DataW.trod_int S.fld_t2 g2
    simp only [List.cons.injEq, and_true] at q0 q1 q2
    subst q0 q1 q2
    exact ⟨⟨z0, z1, z2⟩, rfl⟩

set_option maxRecDepth 100000 in
theorem open_elm {H : Type} {enc : TypeId × Value → H} {W : World} {base : Nat} {sp : Nat → Bool} {hd : Bool} {n : Nat} {cs : List Value} {x : DataW H × List MemPlace}
    (h2 : DataW.trod enc Try.prog W base sp hd n 29 cs = some x) (hlen : cs.length = 12) : ∃ y : ElmV, cs = [.int .i64 y.id.k, .string y.id.t, .int .i64 y.id.n, .int .i64 y.attr.k, .string y.attr.t, .int .i64 y.attr.n, .int .i64 y.val.k, .string y.val.t, .int .i64 y.val.n, .bool y.acc, .bool y.goal, .int .i64 y.tag] := by
  obtain ⟨xs, k, hk, hxy, _, hxl, hf⟩ := DataW.trod_struct fld_under h2
  have ho := fld_offs
  have hc := fld_cells
  have ht := fld_t
  simp only [Prod.mk.injEq] at ho hc ht
  match xs, hxl, cs, hlen with
  | [y0, y1, y2, y3, y4, y5], _, [v0, v1, v2, v3, v4, v5, v6, v7, v8, v9, v10, v11], _ =>
    have g0 := hf 0 (fld 0) rfl
    have g1 := hf 1 (fld 1) rfl
    have g2 := hf 2 (fld 2) rfl
    have g3 := hf 3 (fld 3) rfl
    have g4 := hf 4 (fld 4) rfl
    have g5 := hf 5 (fld 5) rfl
    simp [ho.1, ho.2.1, ho.2.2.1, ho.2.2.2.1, ho.2.2.2.2.1, ho.2.2.2.2.2, hc.1, hc.2.1, hc.2.2.1, hc.2.2.2.1, hc.2.2.2.2.1, hc.2.2.2.2.2] at g0 g1 g2 g3 g4 g5
    rw [ht.1] at g0
    rw [ht.2.1] at g1
    rw [ht.2.2] at g2
    obtain ⟨z0, q0⟩ := sym_cells g0 rfl
    obtain ⟨z1, q1⟩ := sym_cells g1 rfl
    obtain ⟨z2, q2⟩ := sym_cells g2 rfl
    obtain ⟨z3, q3, -⟩ := DataW.trod_bool fld_t3 g3
    obtain ⟨z4, q4, -⟩ := DataW.trod_bool fld_t4 g4
    obtain ⟨z5, q5, -⟩ := DataW.trod_int fld_t5 g5
    simp only [List.cons.injEq, and_true] at q0 q1 q2 q3 q4 q5
    obtain ⟨rfl, rfl, rfl⟩ := q0
    obtain ⟨rfl, rfl, rfl⟩ := q1
    obtain ⟨rfl, rfl, rfl⟩ := q2
    subst q3 q4 q5
    exact ⟨⟨z0, z1, z2, z3, z4, z5⟩, rfl⟩

set_option maxRecDepth 100000 in
theorem open_elms {H : Type} {enc : TypeId × Value → H} {W : World} {v : Value} {d : DataW H} {ps : List MemPlace} (hval : Value.okWide Try.prog W .any 0 22 v)
    (h : DataW.Trod enc Try.prog W 0 (fun _ => true) true 22 v d ps) : ∃ xs, SliceOf W v xs ∧ ∀ a n c, v = .slice a n c → n ≤ c := by
  obtain ⟨a0, len, cap, rfl⟩ := okWide_slice Try.underlying22 hval
  obtain ⟨fuel, hf⟩ := h
  rcases open_slice Try.underlying22 hf with ⟨hcs, -⟩ | ⟨a, len', cap', m, n, D, Pl, hcs, _, hl, -, hm, -, hx⟩
  · simp [Value.cells] at hcs
    obtain ⟨rfl, rfl, rfl⟩ := hcs
    exact ⟨[], ⟨none, 0, rfl, .inl rfl⟩, by rintro a n c e; cases e; exact Nat.le_refl _⟩
  · simp [Value.cells] at hcs
    obtain ⟨rfl, rfl, rfl⟩ := hcs
    simp only [if_true] at hm
    subst hm
    rw [cells_elm] at hx
    have each : ∀ i, i < m → ∃ y : ElmV, W.cells? 0 (a.add (i * 12)) 12 = some [.int .i64 y.id.k, .string y.id.t, .int .i64 y.id.n, .int .i64 y.attr.k, .string y.attr.t, .int .i64 y.attr.n, .int .i64 y.val.k, .string y.val.t, .int .i64 y.val.n, .bool y.acc, .bool y.goal, .int .i64 y.tag] := fun i hi => by
      obtain ⟨cs', h1, h2⟩ := hx i hi
      obtain ⟨_, hlen, _⟩ := World.cells?_some h1
      obtain ⟨y, rfl⟩ := open_elm h2 hlen
      exact ⟨y, h1⟩
    haveI : Inhabited ElmV := ⟨⟨⟨0, ⟨#[]⟩, 0⟩, ⟨0, ⟨#[]⟩, 0⟩, ⟨0, ⟨#[]⟩, 0⟩, false, false, 0⟩⟩
    obtain ⟨q, hq⟩ := choose_lt each
    have hlen : ((List.range len).map q).length = len := by simp
    refine ⟨(List.range len).map q, ⟨some a, m, by rw [hlen], ?_⟩, by rintro a n c e; cases e; exact hl⟩
    by_cases h0 : len = 0
    · exact .inl (by subst h0; simp)
    · obtain ⟨b, off, spot⟩ := a
      obtain ⟨_, _, hc0⟩ := World.cells?_some (hq 0 (by omega))
      obtain rfl : spot = none := by simpa [Addr.add] using World.cell?_spot (hc0 0 (by simp))
      refine .inr ⟨b, off, rfl, fun i x hx => ?_⟩
      have hi : i < len := by have := (List.getElem?_eq_some_iff.1 hx).1; simpa using this
      have e := hq i (by omega)
      rw [show q i = x by simpa [List.getElem?_map, List.getElem?_range hi] using hx] at e
      obtain ⟨_, _, hc⟩ := World.cells?_some e
      have key : ∀ j u, ([.int .i64 x.id.k, .string x.id.t, .int .i64 x.id.n, .int .i64 x.attr.k, .string x.attr.t, .int .i64 x.attr.n, .int .i64 x.val.k, .string x.val.t, .int .i64 x.val.n, .bool x.acc, .bool x.goal, .int .i64 x.tag] : List Value)[j]? = some u → W.cell? ⟨b, off + i * 12 + j, none⟩ = some u := fun j u hu => by
        have hj := (List.getElem?_eq_some_iff.1 hu).1
        have := hc j (by simpa using hj)
        rw [add_plain, add_plain] at this
        rw [this, ← hu]
      exact ⟨key 0 _ rfl, key 1 _ rfl, key 2 _ rfl, key 3 _ rfl, key 4 _ rfl, key 5 _ rfl, key 6 _ rfl, key 7 _ rfl, key 8 _ rfl, key 9 _ rfl, key 10 _ rfl, key 11 _ rfl⟩

end O
end Go.Proofs.Ytcpgjekkcpfpaaa
