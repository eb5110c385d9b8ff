/- What the statements' Before, Has, below and Syms answer. Conditions: the lists lie in memory; at most 100000 symbols.
What == and != of two elements answer; a list of elements that a law is given lies in memory. Conditions: none. -/
import Derived.Test.YtfgpkbbbohipcaaMg3
import Derived.WalkLawsBesides
import Derived.WalkSpells
import Derived.Deep.LoopGhost
import Derived.Test.YtfgpkbbbohipcaaMg2
namespace Go.Proofs.Ytfgpkbbbohipcaa.S
open Go Go.RowKit

theorem scmp_exact : Exact scmp := by
  intro a b
  constructor
  · intro h
    unfold scmp at h
    rcases List.lt_trichotomy' a.toList b.toList with h1 | h1 | h1
    · simp [h1] at h
    · exact toList_inj h1
    · simp [h1, List.lt_asymm h1] at h
  · rintro rfl; exact scmp_lin.refl a

theorem symCmp_exact : Exact symCmp := by
  intro a b
  constructor
  · intro h
    unfold symCmp lex at h
    split at h
    · rename_i h1; exact absurd h h1
    · rename_i h1
      split at h
      · rename_i h2; exact absurd h h2
      · rename_i h2
        have e1 := (icmp_zero).1 (by simpa using h1)
        have e2 := (scmp_exact _ _).1 (by simpa using h2)
        have e3 := (icmp_zero).1 h
        cases a; cases b; simp_all
  · rintro rfl; exact symCmp_lin.refl a

theorem icmp_neg {a b : Int} : icmp a b < 0 ↔ a < b := by unfold icmp; split <;> (try split) <;> omega
theorem scmp_neg {a b : ByteArray} : scmp a b < 0 ↔ Op.bytesLess a.toList b.toList = true := by
  rw [bytesLess_eq, decide_eq_true_iff]
  unfold scmp
  rcases List.lt_trichotomy' a.toList b.toList with h1 | h1 | h1
  · simp [h1]
  · simp [h1, List.lt_irrefl]
  · simp [h1, List.lt_asymm h1]

theorem below_k {x y : SymV} (h : ¬ x.k = y.k) : decide (x.k < y.k) = decide (symCmp x y < 0) := by
  rw [symCmp_k (fun e => h (icmp_zero.1 e))]; simp [icmp_neg]
theorem below_t {x y : SymV} (h : x.k = y.k) (h' : ¬ x.t = y.t) : Op.bytesLess x.t.toList y.t.toList = decide (symCmp x y < 0) := by
  rw [symCmp_t (icmp_zero.2 h) (fun e => h' ((scmp_exact _ _).1 e)), Bool.eq_iff_iff, decide_eq_true_iff]; exact scmp_neg.symm
theorem below_n {x y : SymV} (h : x.k = y.k) (h' : x.t = y.t) : decide (x.n < y.n) = decide (symCmp x y < 0) := by
  rw [symCmp_n (icmp_zero.2 h) ((scmp_exact _ _).2 h')]; simp [icmp_neg]

set_option maxHeartbeats 800000 in
theorem before_T (w : World) (x y : SymV) : Calls Try.prog 25 #[.agg #[.int .i64 x.k, .string x.t, .int .i64 x.n], .agg #[.int .i64 y.k, .string y.t, .int .i64 y.n]] w fun e w' => e = .returned (.bool (decide (symCmp x y < 0))) ∧ Below w.heap.size w w' := by
  by_cases hk : x.k = y.k
  · have Hk := Lib.hid hk
    have Hk1 : (x.k != y.k) = false := by simp [hk]
    clear hk
    by_cases ht : x.t = y.t
    · have Ht := Lib.hid ht
      have Ht1 : (x.t.toList == y.t.toList) = true := by simp [ht]
      clear ht
      go_enter Try.func25, Try.ntmps25
      go_wp2_with fail
      go_ret
      exact ⟨by rw [← below_n Hk.out Ht.out]; rfl, boxes2 w x y⟩
    · have Ht := Lib.hid ht
      have Ht1 : (x.t.toList == y.t.toList) = false := by simpa using fun e => ht (toList_inj e)
      clear ht
      go_enter Try.func25, Try.ntmps25
      go_wp2_with fail
      go_ret
      exact ⟨by rw [← below_t Hk.out Ht.out]; rfl, boxes2 w x y⟩
  · have Hk := Lib.hid hk
    have Hk1 : (x.k != y.k) = true := by simp [hk]
    clear hk
    go_enter Try.func25, Try.ntmps25
    go_wp2_with fail
    go_ret
    exact ⟨by rw [← below_k Hk.out]; rfl, boxes2 w x y⟩

theorem memo_below {w w' : World} {B b o : Nat} {x : SymV} (hB : Below B w w') (hb : b < B) (h : w.cell? ⟨b, o, none⟩ = some (.int .i64 x.k) ∧ w.cell? ⟨b, o + 1, none⟩ = some (.string x.t) ∧ w.cell? ⟨b, o + 2, none⟩ = some (.int .i64 x.n)) : w'.cell? ⟨b, o, none⟩ = some (.int .i64 x.k) ∧ w'.cell? ⟨b, o + 1, none⟩ = some (.string x.t) ∧ w'.cell? ⟨b, o + 2, none⟩ = some (.int .i64 x.n) := by
  obtain ⟨h0, h1, h2⟩ := h
  exact ⟨(hB.cell (p := ⟨b, o, none⟩) hb).trans h0, (hB.cell (p := ⟨b, o + 1, none⟩) hb).trans h1, (hB.cell (p := ⟨b, o + 2, none⟩) hb).trans h2⟩

set_option maxRecDepth 100000 in
set_option maxHeartbeats 800000 in
theorem syms_T (w : World) (v u : Value) (xs ys : List SymV) (hv : SliceOf w v xs) (hu : SliceOf w u ys) (hs : xs.length ≤ 1000000) (ht : ys.length ≤ 1000000) :
    Calls Try.prog 22 #[v, u] w fun e w' => (∃ b, e = .returned (.bool b) ∧ (b = true ↔ xs = ys)) ∧ Below w.heap.size w w' := by
  have hse := sym_equal'
  have hsg := sym_guard
  obtain ⟨a, cap, rfl, hc⟩ := hv
  obtain ⟨a', cap', rfl, hc'⟩ := hu
  by_cases hl : xs.length = ys.length
  · have hl1 : ((xs.length : Int) != ys.length) = false := by simp [hl]
    have Hl := Lib.hid hl
    have hl2 : xs.length ≤ ys.length := by omega
    clear hl
    go_enter Try.func22, Try.ntmps22
    go_wp2_with fail
    go_loopg [5] xs.length (fun m i wr => ∃ j : Nat, i = .int .i64 j ∧ j ≤ xs.length ∧ Hid (m = xs.length - j ∧ xs.take j = ys.take j) ∧ Below w.heap.size w wr)
    case atStart => exact ⟨0, rfl, by omega, Lib.hid ⟨rfl, rfl⟩, Below.refl _ _⟩
    case round =>
      obtain ⟨j, rfl, hj, Hm, hB⟩ := hrel
      by_cases hlt : j < xs.length
      · rcases hc with rfl | ⟨b, off, rfl, hel⟩
        · simp at hlt
        · rcases hc' with rfl | ⟨b', off', rfl, hel'⟩
          · have : xs.length = 0 := by simpa using hl2
            omega
          · obtain ⟨x, hx⟩ : ∃ x, xs[j]? = some x := ⟨xs[j], by simp [hlt]⟩
            obtain ⟨y, hy⟩ : ∃ y, ys[j]? = some y := ⟨ys[j]'(by omega), List.getElem?_eq_getElem _⟩
            have hxc := (hel.below hB (World.block_lt_of_cell? w _ (hel j x hx).1)) j x hx
            have hyc := (hel'.below hB (World.block_lt_of_cell? w _ (hel' j y hy).1)) j y hy
            have Hx := Lib.hid hx
            have Hy := Lib.hid hy
            have hltt : j < ys.length := by omega
            clear hx hy hel hel'
            by_cases hxy : x = y
            · have hs1 : same ⟨x.k, x.t, x.n⟩ ⟨y.k, y.t, y.n⟩ = true := same_iff.2 (by rw [hxy])
              have Hxy := Lib.hid hxy
              clear hxy
              go_wp2_with fail
              go_quiet (fail)
              go_wp2_with fail
              go_roundg (xs.length - (j + 1))
              case measure => rw [Hm.out.1]; omega
              case rel =>
                exact ⟨j + 1, by go_num, by omega, Lib.hid ⟨rfl, by rw [List.take_add_one, List.take_add_one, Hx.out, Hy.out, Hm.out.2, Hxy.out]⟩, hB.trans (below_drewN _ _ _)⟩
            · have hs1 : same ⟨x.k, x.t, x.n⟩ ⟨y.k, y.t, y.n⟩ = false := by
                have : ¬ same x y = true := fun h => hxy (same_iff.1 h)
                simpa using this
              have Hxy := Lib.hid hxy
              clear hxy
              go_wp2_with fail
              go_quiet (fail)
              go_wp2_with fail
              go_ret
              refine ⟨⟨false, rfl, ?_⟩, hB.trans (below_drewN _ _ _)⟩
              have : xs ≠ ys := by
                rintro rfl
                have := Hx.out.symm.trans Hy.out
                cases this
                exact Hxy.out rfl
              simp [this]
      · obtain rfl : j = xs.length := by omega
        go_wp2_with fail
        go_ret
        refine ⟨⟨true, rfl, ?_⟩, hB⟩
        have := Hm.out.2
        rw [List.take_length, Hl.out, List.take_length] at this
        simp [this]
  · have hl1 : ((xs.length : Int) != ys.length) = true := by simpa using fun e => hl (by omega)
    have Hl := Lib.hid hl
    clear hl
    go_enter Try.func22, Try.ntmps22
    go_wp2_with fail
    go_ret
    refine ⟨⟨false, rfl, ?_⟩, Below.refl _ _⟩
    have : xs ≠ ys := fun e => Hl.out (by rw [e])
    simp [this]

end Go.Proofs.Ytfgpkbbbohipcaa.S

namespace Go.Proofs.Ytfgpkbbbohipcaa
open Go Go.RowKit Go.ChangeShapes Go.WideShapes Go.ChangeAt Go.Deep

/-- Are all six fields the same? -/
def sameE (x y : ElmV) : Bool := same x.id y.id && (same x.attr y.attr && (same x.val y.val && (x.acc == y.acc && (x.goal == y.goal && x.tag == y.tag))))

theorem sameE_iff {x y : ElmV} : sameE x y = true ↔ x = y := by
  simp only [sameE, Bool.and_eq_true, beq_iff_eq, same_iff]
  constructor
  · rintro ⟨h1, h2, h3, h4, h5, h6⟩
    cases x; cases y; simp_all
  · rintro rfl; simp

theorem sym_equalD (d : Nat) (x y : SymV) (w : World) : (Op.equalIn (d + 2) 26 (.agg #[.int .i64 x.k, .string x.t, .int .i64 x.n]) (.agg #[.int .i64 y.k, .string y.t, .int .i64 y.n])).run Try.prog w = .ok (same x y) w := by
  rw [run_equalIn_struct _ (d + 1) _ _ _ sym_under sym_held]
  simp only [Program.fieldsOf, Try.underlying26]
  simp [go_sem, Op.eqFields]
  by_cases h1 : x.k = y.k <;> by_cases h2 : x.t.toList = y.t.toList <;> by_cases h3 : x.n = y.n <;> simp [same, h1, h2, h3]

theorem elm_under : Try.prog.underlying 67 = some (.struct (Try.prog.fieldsOf 67)) := by kernel_rfl
theorem elm_held : Try.prog.stoodInHeld 67 = false := by kernel_rfl
theorem elm_guard : Try.prog.eqGuardType Try.prog.depth 67 = false := by kernel_rfl

set_option maxHeartbeats 800000 in
theorem elm_equal (x y : ElmV) (w : World) : (Op.equalIn 10000 67 (.agg #[.int .i64 x.id.k, .string x.id.t, .int .i64 x.id.n, .int .i64 x.attr.k, .string x.attr.t, .int .i64 x.attr.n, .int .i64 x.val.k, .string x.val.t, .int .i64 x.val.n, .bool x.acc, .bool x.goal, .int .i64 x.tag]) (.agg #[.int .i64 y.id.k, .string y.id.t, .int .i64 y.id.n, .int .i64 y.attr.k, .string y.attr.t, .int .i64 y.attr.n, .int .i64 y.val.k, .string y.val.t, .int .i64 y.val.n, .bool y.acc, .bool y.goal, .int .i64 y.tag])).run Try.prog w = .ok (sameE x y) w := by
  have hs := fun (x y : SymV) w => sym_equalD 9997 x y w
  rw [run_equalIn_struct _ 9999 _ _ _ elm_under elm_held]
  simp only [Program.fieldsOf, Try.underlying67]
  cases h1 : same x.id y.id
  · simp [go_sem, Op.eqFields, hs, h1, sameE]
  cases h2 : same x.attr y.attr
  · simp [go_sem, Op.eqFields, hs, h1, h2, sameE]
  cases h3 : same x.val y.val
  · simp [go_sem, Op.eqFields, hs, h1, h2, h3, sameE]
  cases h4 : x.acc == y.acc
  · simp [go_sem, Op.eqFields, hs, h1, h2, h3, h4, sameE]
  cases h5 : x.goal == y.goal
  · simp [go_sem, Op.eqFields, hs, h1, h2, h3, h4, h5, sameE]
  cases h6 : x.tag == y.tag <;> simp [go_sem, Op.eqFields, hs, h1, h2, h3, h4, h5, h6, sameE]

theorem elm_equal' (a : Int) (b : ByteArray) (c : Int) (d : Int) (e : ByteArray) (f : Int) (g : Int) (h : ByteArray) (i : Int) (j l : Bool) (o : Int) (a' : Int) (b' : ByteArray) (c' : Int) (d' : Int) (e' : ByteArray) (f' : Int) (g' : Int) (h' : ByteArray) (i' : Int) (j' l' : Bool) (o' : Int) (w : World) :
    (Op.equalIn 10000 67 (.agg #[.int .i64 a, .string b, .int .i64 c, .int .i64 d, .string e, .int .i64 f, .int .i64 g, .string h, .int .i64 i, .bool j, .bool l, .int .i64 o]) (.agg #[.int .i64 a', .string b', .int .i64 c', .int .i64 d', .string e', .int .i64 f', .int .i64 g', .string h', .int .i64 i', .bool j', .bool l', .int .i64 o'])).run Try.prog w =
      .ok (sameE ⟨⟨a, b, c⟩, ⟨d, e, f⟩, ⟨g, h, i⟩, j, l, o⟩ ⟨⟨a', b', c'⟩, ⟨d', e', f'⟩, ⟨g', h', i'⟩, j', l', o'⟩) w := elm_equal ⟨⟨a, b, c⟩, ⟨d, e, f⟩, ⟨g, h, i⟩, j, l, o⟩ ⟨⟨a', b', c'⟩, ⟨d', e', f'⟩, ⟨g', h', i'⟩, j', l', o'⟩ w

theorem elmCmp_zero {x y : ElmV} : elmCmp x y = 0 ↔ x.id = y.id ∧ x.attr = y.attr ∧ x.val = y.val ∧ x.acc = y.acc := by
  have hb : ∀ a b, bcmp a b = 0 ↔ a = b := by decide
  have hs := fun a b => S.symCmp_exact a b
  unfold elmCmp lex
  constructor
  · intro h
    split at h
    · rename_i h1; exact absurd h h1
    · rename_i h1
      split at h
      · rename_i h2; exact absurd h h2
      · rename_i h2
        split at h
        · rename_i h3; exact absurd h h3
        · rename_i h3
          exact ⟨(hs _ _).1 (by simpa using h1), (hs _ _).1 (by simpa using h2), (hs _ _).1 (by simpa using h3), (hb _ _).1 h⟩
  · rintro ⟨h1, h2, h3, h4⟩
    rw [if_neg (by simpa using (hs _ _).2 h1), if_neg (by simpa using (hs _ _).2 h2), if_neg (by simpa using (hs _ _).2 h3)]
    exact (hb _ _).2 h4

namespace O

noncomputable def fld (i : Nat) : Field := (Try.prog.fieldsOf 67)[i]!
theorem fld_under : Try.prog.underlying 67 = some (.struct #[fld 0, fld 1, fld 2, fld 3, fld 4, fld 5]) := by kernel_rfl
theorem fld_offs : ((fld 0).offset, (fld 1).offset, (fld 2).offset, (fld 3).offset, (fld 4).offset, (fld 5).offset) = (0, 3, 6, 9, 10, 11) := by kernel_rfl
theorem fld_cells : (Try.prog.cellsOf (fld 0).type, Try.prog.cellsOf (fld 1).type, Try.prog.cellsOf (fld 2).type, Try.prog.cellsOf (fld 3).type, Try.prog.cellsOf (fld 4).type, Try.prog.cellsOf (fld 5).type) = (3, 3, 3, 1, 1, 1) := by kernel_rfl
theorem fld_t : ((fld 0).type, (fld 1).type, (fld 2).type) = (26, 26, 26) := by kernel_rfl
theorem fld_t3 : Try.prog.underlying (fld 3).type = some .bool := by kernel_rfl
theorem fld_t4 : Try.prog.underlying (fld 4).type = some .bool := by kernel_rfl
theorem fld_t5 : Try.prog.underlying (fld 5).type = some (.int .i64) := by kernel_rfl
theorem cells_elm : Try.prog.cellsOf 67 = 12 := by kernel_rfl

set_option maxRecDepth 100000 in
/-- Three cells that read as a symbol are one. -/
theorem sym_cells {H : Type} {enc : TypeId × Value → H} {W : World} {base : Nat} {sp : Nat → Bool} {hd : Bool} {n : Nat} {cs : List Value} {x : DataW H × List MemPlace}
    (h2 : DataW.trod enc Try.prog W base sp hd n 26 cs = some x) (hlen : cs.length = 3) : ∃ y : SymV, cs = [.int .i64 y.k, .string y.t, .int .i64 y.n] := by
  obtain ⟨xs, k, hk, hxy, _, hxl, hf⟩ := DataW.trod_struct S.fld_under h2
  have ho := S.fld_offs
  have hc := S.fld_cells
  simp only [Prod.mk.injEq] at ho hc
  match xs, hxl, cs, hlen with
  | [y0, y1, y2], _, [v0, v1, v2], _ =>
    have g0 := hf 0 (S.fld 0) rfl
    have g1 := hf 1 (S.fld 1) rfl
    have g2 := hf 2 (S.fld 2) rfl
    simp [ho.1, ho.2.1, ho.2.2, hc.1, hc.2.1, hc.2.2] at g0 g1 g2
    obtain ⟨z0, q0, -⟩ := DataW.trod_int S.fld_t0 g0
    obtain ⟨z1, q1, -⟩ := DataW.trod_string S.fld_t1 g1
    obtain ⟨z2, q2, -⟩ := DataW.trod_int S.fld_t2 g2
    simp only [List.cons.injEq, and_true] at q0 q1 q2
    subst q0 q1 q2
    exact ⟨⟨z0, z1, z2⟩, rfl⟩

set_option maxRecDepth 100000 in
theorem open_elm {H : Type} {enc : TypeId × Value → H} {W : World} {base : Nat} {sp : Nat → Bool} {hd : Bool} {n : Nat} {cs : List Value} {x : DataW H × List MemPlace}
    (h2 : DataW.trod enc Try.prog W base sp hd n 67 cs = some x) (hlen : cs.length = 12) : ∃ y : ElmV, cs = [.int .i64 y.id.k, .string y.id.t, .int .i64 y.id.n, .int .i64 y.attr.k, .string y.attr.t, .int .i64 y.attr.n, .int .i64 y.val.k, .string y.val.t, .int .i64 y.val.n, .bool y.acc, .bool y.goal, .int .i64 y.tag] := by
  obtain ⟨xs, k, hk, hxy, _, hxl, hf⟩ := DataW.trod_struct fld_under h2
  have ho := fld_offs
  have hc := fld_cells
  have ht := fld_t
  simp only [Prod.mk.injEq] at ho hc ht
  match xs, hxl, cs, hlen with
  | [y0, y1, y2, y3, y4, y5], _, [v0, v1, v2, v3, v4, v5, v6, v7, v8, v9, v10, v11], _ =>
    have g0 := hf 0 (fld 0) rfl
    have g1 := hf 1 (fld 1) rfl
    have g2 := hf 2 (fld 2) rfl
    have g3 := hf 3 (fld 3) rfl
    have g4 := hf 4 (fld 4) rfl
    have g5 := hf 5 (fld 5) rfl
    simp [ho.1, ho.2.1, ho.2.2.1, ho.2.2.2.1, ho.2.2.2.2.1, ho.2.2.2.2.2, hc.1, hc.2.1, hc.2.2.1, hc.2.2.2.1, hc.2.2.2.2.1, hc.2.2.2.2.2] at g0 g1 g2 g3 g4 g5
    rw [ht.1] at g0
    rw [ht.2.1] at g1
    rw [ht.2.2] at g2
    obtain ⟨z0, q0⟩ := sym_cells g0 rfl
    obtain ⟨z1, q1⟩ := sym_cells g1 rfl
    obtain ⟨z2, q2⟩ := sym_cells g2 rfl
    obtain ⟨z3, q3, -⟩ := DataW.trod_bool fld_t3 g3
    obtain ⟨z4, q4, -⟩ := DataW.trod_bool fld_t4 g4
    obtain ⟨z5, q5, -⟩ := DataW.trod_int fld_t5 g5
    simp only [List.cons.injEq, and_true] at q0 q1 q2 q3 q4 q5
    obtain ⟨rfl, rfl, rfl⟩ := q0
    obtain ⟨rfl, rfl, rfl⟩ := q1
    obtain ⟨rfl, rfl, rfl⟩ := q2
    subst q3 q4 q5
    exact ⟨⟨z0, z1, z2, z3, z4, z5⟩, rfl⟩

set_option maxRecDepth 100000 in
theorem open_elms {H : Type} {enc : TypeId × Value → H} {W : World} {v : Value} {d : DataW H} {ps : List MemPlace} (hval : Value.okWide Try.prog W .any 0 63 v)
    (h : DataW.Trod enc Try.prog W 0 (fun _ => true) true 63 v d ps) : ∃ xs, SliceOf W v xs ∧ ∀ a n c, v = .slice a n c → n ≤ c := by
  obtain ⟨a0, len, cap, rfl⟩ := okWide_slice Try.underlying63 hval
  obtain ⟨fuel, hf⟩ := h
  rcases open_slice Try.underlying63 hf with ⟨hcs, -⟩ | ⟨a, len', cap', m, n, D, Pl, hcs, _, hl, -, hm, -, hx⟩
  · simp [Value.cells] at hcs
    obtain ⟨rfl, rfl, rfl⟩ := hcs
    exact ⟨[], ⟨none, 0, rfl, .inl rfl⟩, by rintro a n c e; cases e; exact Nat.le_refl _⟩
  · simp [Value.cells] at hcs
    obtain ⟨rfl, rfl, rfl⟩ := hcs
    simp only [if_true] at hm
    subst hm
    rw [cells_elm] at hx
    have each : ∀ i, i < m → ∃ y : ElmV, W.cells? 0 (a.add (i * 12)) 12 = some [.int .i64 y.id.k, .string y.id.t, .int .i64 y.id.n, .int .i64 y.attr.k, .string y.attr.t, .int .i64 y.attr.n, .int .i64 y.val.k, .string y.val.t, .int .i64 y.val.n, .bool y.acc, .bool y.goal, .int .i64 y.tag] := fun i hi => by
      obtain ⟨cs', h1, h2⟩ := hx i hi
      obtain ⟨_, hlen, _⟩ := World.cells?_some h1
      obtain ⟨y, rfl⟩ := open_elm h2 hlen
      exact ⟨y, h1⟩
    haveI : Inhabited ElmV := ⟨⟨⟨0, ⟨#[]⟩, 0⟩, ⟨0, ⟨#[]⟩, 0⟩, ⟨0, ⟨#[]⟩, 0⟩, false, false, 0⟩⟩
    obtain ⟨q, hq⟩ := choose_lt each
    have hlen : ((List.range len).map q).length = len := by simp
    refine ⟨(List.range len).map q, ⟨some a, m, by rw [hlen], ?_⟩, by rintro a n c e; cases e; exact hl⟩
    by_cases h0 : len = 0
    · exact .inl (by subst h0; simp)
    · obtain ⟨b, off, spot⟩ := a
      obtain ⟨_, _, hc0⟩ := World.cells?_some (hq 0 (by omega))
      obtain rfl : spot = none := by simpa [Addr.add] using World.cell?_spot (hc0 0 (by simp))
      refine .inr ⟨b, off, rfl, fun i x hx => ?_⟩
      have hi : i < len := by have := (List.getElem?_eq_some_iff.1 hx).1; simpa using this
      have e := hq i (by omega)
      rw [show q i = x by simpa [List.getElem?_map, List.getElem?_range hi] using hx] at e
      obtain ⟨_, _, hc⟩ := World.cells?_some e
      have key : ∀ j u, ([.int .i64 x.id.k, .string x.id.t, .int .i64 x.id.n, .int .i64 x.attr.k, .string x.attr.t, .int .i64 x.attr.n, .int .i64 x.val.k, .string x.val.t, .int .i64 x.val.n, .bool x.acc, .bool x.goal, .int .i64 x.tag] : List Value)[j]? = some u → W.cell? ⟨b, off + i * 12 + j, none⟩ = some u := fun j u hu => by
        have hj := (List.getElem?_eq_some_iff.1 hu).1
        have := hc j (by simpa using hj)
        rw [add_plain, add_plain] at this
        rw [this, ← hu]
      exact ⟨key 0 _ rfl, key 1 _ rfl, key 2 _ rfl, key 3 _ rfl, key 4 _ rfl, key 5 _ rfl, key 6 _ rfl, key 7 _ rfl, key 8 _ rfl, key 9 _ rfl, key 10 _ rfl, key 11 _ rfl⟩

end O
end Go.Proofs.Ytfgpkbbbohipcaa
