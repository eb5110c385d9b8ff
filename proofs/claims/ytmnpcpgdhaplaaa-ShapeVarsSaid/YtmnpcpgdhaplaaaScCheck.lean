/- What survey and Check answer. Conditions: the production lies in memory; at most 50000 conditions, 1000 actions, 3900 variables and tests. -/
import Derived.Test.YtmnpcpgdhaplaaaMg26
import Derived.Deep.MidRow
import Derived.Deep.WholeRow
namespace Go.Proofs.Ytmnpcpgdhaplaaa
open Go Go.RowKit

/-- A store of a whole row into the box that was made last. -/
theorem wpList_store_new {P : Program} {ops : Array Oper} {rest : List Oper} {op : Oper} {a : Act} {w : World} {Q : Exit → Act → World → Prop} (hgd : op.guard = none) (ty : TypeId) (x y : Operand) (ho : op.op = .store ty x y) (hd : op.dst = none)
    (w0 : World) (old cells : Array Value) (hx : a.eval x = .pointer (some ⟨w0.heap.size, 0, none⟩)) (hy : a.eval y = .agg cells) (hw : w = w0.alloc (.cells old ty))
    (hi : (P.info? ty).map (·.size) = some cells.size) (hold : old.size = cells.size) (h1 : cells.all (·.oneCell') = true)
    (h : wpList P ops Q rest a (w0.alloc (.cells cells ty))) : wpList P ops Q (op :: rest) a w := by
  subst hw
  refine wpList_plain hgd fun K hK' => ?_
  unfold Oper.wp execOp
  simp only [ho, hx, hy, Instr.storeAt, Instr.sureAddr, Sem.run_bind, Sem.run_pure, Result.andThen_ok, run_storeVar_new w0 ty old cells hi hold h1]
  exact hK' _ _ (by rw [hd]; exact h)

def badSuff (K : List ByteArray) (l : List ActV) : Option Nat := l.findIdx? (fun a => !sufficesB K a)
/-- What is known behind all conditions, the place, the error. -/
def surveyP (p : ProdV) : List ByteArray × Int × Int :=
  if (shapeP p).2 != 0 then ([], (shapeP p).1, (shapeP p).2)
  else if (p.cs.head?.map fun c => c.h.kind) != some 1 then ([], 0, 9)
  else if (passL [] 0 p.cs).2.2 then
    (match badSuff (passL [] 0 p.cs).1 p.xs with
    | some i => ((passL [] 0 p.cs).1, (passL [] 0 p.cs).2.1 + i, 6)
    | none => ((passL [] 0 p.cs).1, -1, 0))
  else ((passL [] 0 p.cs).1, (passL [] 0 p.cs).2.1, 6)

theorem shape_whole {p : ProdV} (h : (shapeP p).2 = 0) : wholeE p = 0 := by
  unfold shapeP at h
  split at h
  · exact h
  · rename_i h1; simpa using h1

theorem whole_cs {p : ProdV} (h : wholeE p = 0) : p.cs ≠ [] := by
  intro e
  unfold wholeE at h
  rw [e] at h
  split at h
  · cases h
  · simp at h

theorem one_set {W : World} {b : Nat} {x : Value} {T : TypeId} (h1 : W.heap[b]? = some (.cells #[x] T (0, 0))) (u : Value) : (W.setCell ⟨b, 0, none⟩ u).heap[b]? = some (.cells #[u] T (0, 0)) := by
  have := V.set_block (o := 0) h1 u
  simpa using this

theorem prod_cells {W : World} {b : Nat} {n : ByteArray} {u v : Value} (h : W.heap[b]? = some (.cells #[.string n, u, v] 25 (0, 0))) : W.cell? ⟨b, 0, none⟩ = some (.string n) ∧ W.cell? ⟨b, 1, none⟩ = some u ∧ W.cell? ⟨b, 2, none⟩ = some v := by simp [World.cell?, h]

set_option pp.deepTerms true
set_option pp.maxSteps 1000000
set_option maxRecDepth 100000 in
set_option maxHeartbeats 3200000 in
theorem survey_T (w : World) (lo hi : Nat) (p : ProdV) (h : ProdOk lo hi w p) (hhi : hi ≤ w.heap.size) (hs : sizeL p.cs ≤ 50000) (hx : p.xs.length ≤ 1000) (hw : wtL p.cs ≤ 3900) :
    Calls Try.prog 48 #[.agg #[.string p.name, .slice p.conds.a p.conds.n p.conds.c, .slice p.acts.a p.acts.n p.acts.c]] w fun e w' => ∃ s, e = .returned (.tuple #[.agg #[.pointer (some ⟨s, 0, none⟩)], .int .i64 (surveyP p).2.1, .int .i64 (surveyP p).2.2]) ∧ w.heap.size ≤ s ∧ Sc w' s (surveyP p).1 ∧ Below w.heap.size w w' := by
  have na : p.acts.n = p.xs.length := h.2.1
  have nc : p.conds.n = p.cs.length := h.1.1.1
  obtain ⟨aa, haa⟩ : ∃ a, p.acts.a = a := ⟨_, rfl⟩
  obtain ⟨ca, hca⟩ : ∃ a, p.conds.a = a := ⟨_, rfl⟩
  have hsh : ∀ W, Below w.heap.size w W → Calls Try.prog 13 #[.agg #[.string p.name, .slice ca p.cs.length p.conds.c, .slice aa p.xs.length p.acts.c]] W fun e w' => e = .returned (.tuple #[.int .i64 (shapeP p).1, .int .i64 (shapeP p).2]) ∧ Below W.heap.size W w' := fun W hW => by
    have := shape_T W lo hi p (h.keep (KeepIn.of_below hW hhi)) (Nat.le_trans hhi hW.size) hs hx
    rw [na, nc, haa, hca] at this
    exact this
  have hrowC : ∀ W, Below w.heap.size w W → CondsOk lo hi W ⟨ca, p.cs.length, p.conds.c⟩ p.cs := fun W hW => by
    have := h.1.keep (KeepIn.of_below hW hhi)
    rw [← hca, ← nc]; exact this
  have hrowA : ∀ W, Below w.heap.size w W → RowIn lo hi 19 actCells W ⟨aa, p.xs.length, p.acts.c⟩ p.xs := fun W hW => by
    have := h.2.keep (KeepIn.of_below hW hhi)
    rw [← haa, ← na]; exact this
  have Hsh := Lib.hid hsh
  have HC := Lib.hid hrowC
  have HA := Lib.hid hrowA
  rw [na, nc, haa, hca]
  clear hsh hrowC hrowA na nc haa hca h
  have hB0 : Below w.heap.size w ((w.alloc (.cells #[.string p.name, .slice ca p.cs.length p.conds.c, .slice aa p.xs.length p.acts.c] 25)).alloc (.cells #[.pointer none] 85)) := ((Below.refl _ w).alloc (Nat.le_refl _) _).alloc (by simp) _
  have hp0 : ((w.alloc (.cells #[.string p.name, .slice ca p.cs.length p.conds.c, .slice aa p.xs.length p.acts.c] 25)).alloc (.cells #[.pointer none] 85)).heap[w.heap.size]? = some (.cells #[.string p.name, .slice ca p.cs.length p.conds.c, .slice aa p.xs.length p.acts.c] 25 (0, 0)) := (Below.heap_alloc _ _ _ (by simp)).trans (heap_alloc_new w _)
  have hr0 := heap_alloc_new (w.alloc (.cells #[.string p.name, .slice ca p.cs.length p.conds.c, .slice aa p.xs.length p.acts.c] 25)) (.cells #[.pointer none] 85)
  rw [World.size_alloc] at hr0
  go_enter Try.func48, Try.ntmps48
  go_wp2_with fail
  generalize ((w.alloc (.cells #[.string p.name, .slice ca p.cs.length p.conds.c, .slice aa p.xs.length p.acts.c] 25)).alloc (.cells #[.pointer none] 85)) = W0 at hB0 hp0 hr0 ⊢
  refine (newScope_T W0).mono ?_
  rintro e w1 ⟨s, rfl, hss, hS1, hB1⟩
  have hBx : Below w1.heap.size w1 (w1.alloc (.cells #[.pointer (some ⟨s, 0, none⟩)] 85)) := boxSc w1 s
  have hbx := heap_alloc_new w1 (.cells #[.pointer (some ⟨s, 0, none⟩)] 85)
  have hp1 := (hBx.block _ (by have := lt_of_block hp0; have := hB1.size; omega)).trans ((hB1.block _ (lt_of_block hp0)).trans hp0)
  have hr1 := (hBx.block _ (by have := lt_of_block hr0; have := hB1.size; omega)).trans ((hB1.block _ (lt_of_block hr0)).trans hr0)
  have hS1x := hS1.below hBx
  have hC1 := hB0.trans (hB1.mono hB0.size)
  have hC1x := hC1.trans (hBx.mono hC1.size)
  have hlr := lt_of_block hr0
  have hlx := lt_of_block hbx
  have hsl := hS1.lt
  have hcall := Hsh.out _ hC1x
  have g : (w1.alloc (.cells #[.pointer (some ⟨s, 0, none⟩)] 85)).cell? ⟨w.heap.size, 0, none⟩ = some (.string p.name) ∧ (w1.alloc (.cells #[.pointer (some ⟨s, 0, none⟩)] 85)).cell? ⟨w.heap.size, 1, none⟩ = some (.slice ca p.cs.length p.conds.c) ∧ (w1.alloc (.cells #[.pointer (some ⟨s, 0, none⟩)] 85)).cell? ⟨w.heap.size, 2, none⟩ = some (.slice aa p.xs.length p.acts.c) := prod_cells hp1
  obtain ⟨g0, g1, g2⟩ := g
  clear hp0 hr0
  go_wp2_with fail
  generalize hWx : (w1.alloc (.cells #[.pointer (some ⟨s, 0, none⟩)] 85)) = Wx at hBx hbx hp1 hr1 hS1x hC1x hcall g0 g1 g2 hlx ⊢
  have hszw : w1.heap.size < Wx.heap.size := hlx
  clear hWx
  refine hcall.mono ?_
  rintro e w2 ⟨rfl, hB2⟩
  have hp2 := (hB2.block _ (lt_of_block hp1)).trans hp1
  have hr2 := (hB2.block _ (lt_of_block hr1)).trans hr1
  have hb2 := (hB2.block _ (lt_of_block hbx)).trans hbx
  have hS2 := hS1x.below hB2
  have hC2 := hC1x.trans (hB2.mono hC1x.size)
  have hsw : s < w1.heap.size := hsl
  have hne1 : w.heap.size + 1 ≠ s := by omega
  clear g0 g1 g2 hcall
  -- the end: the scope goes into the result's box
  have fin : ∀ (W : World) (K : List ByteArray), W.heap[w.heap.size + 1]? = some (.cells #[.pointer none] 85 (0, 0)) → Sc W s K → Below w.heap.size w W →
      (W.setCell ⟨w.heap.size + 1, 0, none⟩ (.pointer (some ⟨s, 0, none⟩))).cell? ⟨w.heap.size + 1, 0, none⟩ = some (.pointer (some ⟨s, 0, none⟩)) ∧ Sc (W.setCell ⟨w.heap.size + 1, 0, none⟩ (.pointer (some ⟨s, 0, none⟩))) s K ∧ Below w.heap.size w (W.setCell ⟨w.heap.size + 1, 0, none⟩ (.pointer (some ⟨s, 0, none⟩))) := by
    intro W K hr hS hC
    have hb : But (w.heap.size + 1) W (W.setCell ⟨w.heap.size + 1, 0, none⟩ (.pointer (some ⟨s, 0, none⟩))) := (But.refl _ _).setCell 0 _
    exact ⟨cell_of_one (one_set hr _), ⟨hS.1.but hb hne1 hr (by decide), hS.2⟩, V.below_but hC hb (Nat.le_succ _) hC.size⟩
  have Fin := Lib.hid fin
  clear fin
  have hss0 : w.heap.size ≤ s := Nat.le_trans hB0.size hss
  cases hE : ((shapeP p).2 != 0)
  case true =>
    have HE := Lib.hid hE
    obtain ⟨f0, f1, f2⟩ := Fin.out w2 [] hr2 hS2 hC2
    have F0 := Lib.hid f0
    have F1 := Lib.hid f1
    have F2 := Lib.hid f2
    have q0 := cell_of_one hr2
    have q1 := free_of_one hr2
    have q2 := cell_of_one hb2
    clear f0 f1 f2
    go_wp2_with fail
    have f0 := F0.out
    have e1 : surveyP p = ([], (shapeP p).1, (shapeP p).2) := by unfold surveyP; rw [HE.out]; rfl
    exact bodyPost_ret (v := .tuple #[.agg #[.pointer (some ⟨s, 0, none⟩)], .int .i64 (shapeP p).1, .int .i64 (shapeP p).2]) (by simp [results, Try.results48, go_sem, f0]) rfl ⟨s, by rw [e1], hss0, by rw [e1]; exact F1.out, F2.out⟩
  have HE := Lib.hid hE
  have hE0 : (shapeP p).2 = 0 := by simpa using hE
  have hnil := whole_cs (shape_whole hE0)
  have Hnil := Lib.hid hnil
  obtain ⟨c0, hc0⟩ : ∃ c, p.cs[0]? = some c := by
    cases hcs : p.cs with
    | nil => exact absurd hcs hnil
    | cons c cs => exact ⟨c, rfl⟩
  have hhead : (p.cs.head?.map fun c => c.h.kind) = some c0.h.kind := by rw [List.head?_eq_getElem?, hc0]; rfl
  have hpos : 0 < p.cs.length := (List.getElem?_eq_some_iff.1 hc0).1
  obtain ⟨cb, cf, -, -, hca2, hcell⟩ := (HC.out w2 hC2).1.at hc0
  replace hca2 : ca = some ⟨cb, cf, none⟩ := hca2
  subst hca2
  have hk0 : w2.cell? ⟨cb, cf, none⟩ = some (.int .i64 c0.h.kind) := by have := hcell 0 _ rfl; simpa using this
  obtain ⟨g0, g1, g2⟩ := prod_cells hp2
  have Hhead := Lib.hid hhead
  clear hcell hE0 hnil hhead hc0
  by_cases hk1 : c0.h.kind = 1
  case neg =>
    have k1 : (c0.h.kind != 1) = true := by simp [hk1]
    have K1 := Lib.hid hk1
    obtain ⟨f0, f1, f2⟩ := Fin.out w2 [] hr2 hS2 hC2
    have F0 := Lib.hid f0
    have F1 := Lib.hid f1
    have F2 := Lib.hid f2
    have q0 := cell_of_one hr2
    have q1 := free_of_one hr2
    have q2 := cell_of_one hb2
    clear f0 f1 f2 hk1
    go_wp2_with fail
    have f0 := F0.out
    have e1 : surveyP p = ([], 0, 9) := by
      unfold surveyP
      rw [HE.out, Hhead.out]
      simp [K1.out]
    exact bodyPost_ret (v := .tuple #[.agg #[.pointer (some ⟨s, 0, none⟩)], .int .i64 0, .int .i64 9]) (by simp [results, Try.results48, go_sem, f0]) rfl ⟨s, by rw [e1], hss0, by rw [e1]; exact F1.out, F2.out⟩
  have k1 : (c0.h.kind != 1) = false := by simp [hk1]
  have K1 := Lib.hid hk1
  clear hk1
  have q2 := cell_of_one hb2
  have hpass := passAll_T lo hi (sizeL p.cs) p.cs (Nat.le_refl _) w2 s [] ⟨some ⟨cb, cf, none⟩, p.cs.length, p.conds.c⟩ 0 hS2 (by simp; omega) (HC.out w2 hC2) (by omega) (by omega) (by omega)
  have hplace := pass_place (sizeL p.cs) p.cs (Nat.le_refl _) [] 0
  have hK := passL_le [] 0 p.cs
  have e0 : surveyP p = (if (passL [] 0 p.cs).2.2 then (match badSuff (passL [] 0 p.cs).1 p.xs with
    | some i => ((passL [] 0 p.cs).1, (passL [] 0 p.cs).2.1 + (i : Int), (6 : Int))
    | none => ((passL [] 0 p.cs).1, (-1 : Int), (0 : Int))) else ((passL [] 0 p.cs).1, (passL [] 0 p.cs).2.1, (6 : Int)) : List ByteArray × Int × Int) := by
    unfold surveyP
    rw [HE.out, Hhead.out]
    have k2 : ((some c0.h.kind != some (1 : Int)) = true) = False := by
      have := K1.out
      simp at this ⊢
      exact this
    simp only [k2, if_false, Bool.false_eq_true]
  have E0 := Lib.hid e0
  clear e0
  unfold PassPost at hpass
  generalize passL [] 0 p.cs = r at hpass hplace hK E0
  obtain ⟨K, z, ok⟩ := r
  simp only at hpass hplace hK E0
  have hp2' := Lib.hid hp2
  cases ok
  case false =>
    go_wp2_with fail
    refine hpass.mono ?_
    rintro e w3 ⟨rfl, hS3, hb3⟩
    have hC3 := But.below hC2 hb3 hss0 hC2.size
    have hr3 := (hb3.block _ (lt_of_block hr2) hne1).trans hr2
    have hbx3 := (hb3.block _ (lt_of_block hb2) (by omega)).trans hb2
    obtain ⟨f0, f1, f2⟩ := Fin.out w3 K hr3 hS3 hC3
    have F0 := Lib.hid f0
    have F1 := Lib.hid f1
    have F2 := Lib.hid f2
    have u0 := cell_of_one hr3
    have u1 := free_of_one hr3
    have u2 := cell_of_one hbx3
    clear f0 f1 f2 q2
    go_wp2_with fail
    have f0 := F0.out
    have e1 : surveyP p = (K, z, 6) := by rw [E0.out]; rfl
    exact bodyPost_ret (v := .tuple #[.agg #[.pointer (some ⟨s, 0, none⟩)], .int .i64 z, .int .i64 6]) (by simp [results, Try.results48, go_sem, f0]) rfl ⟨s, by rw [e1], hss0, by rw [e1]; exact F1.out, F2.out⟩
  go_wp2_with fail
  refine hpass.mono ?_
  rintro e w3 ⟨rfl, hS3, hb3⟩
  have hC3 := But.below hC2 hb3 hss0 hC2.size
  have hr3 := (hb3.block _ (lt_of_block hr2) hne1).trans hr2
  have hbx3 := (hb3.block _ (lt_of_block hb2) (by omega)).trans hb2
  have hp3 := (hb3.block _ (lt_of_block hp2) (by omega)).trans hp2
  have Hfacts := Lib.hid (fun W (hW : Below w3.heap.size w3 W) => (⟨(hW.block _ (lt_of_block hr3)).trans hr3, (hW.block _ (lt_of_block hbx3)).trans hbx3, hS3.below hW, hC3.trans (hW.mono hC3.size)⟩ : W.heap[w.heap.size + 1]? = some (.cells #[.pointer none] 85 (0, 0)) ∧ W.heap[w1.heap.size]? = some (.cells #[.pointer (some ⟨s, 0, none⟩)] 85 (0, 0)) ∧ Sc W s K ∧ Below w.heap.size w W))
  clear g0 g1 g2 q2 hk0
  obtain ⟨g0, g1, g2⟩ := prod_cells hp3
  go_wp2_with fail
  go_loopg [44] p.xs.length (fun k iv wr => ∃ j : Nat, iv = .int .i64 j ∧ j ≤ p.xs.length ∧ Hid (k = p.xs.length - j ∧ ∀ a ∈ p.xs.take j, sufficesB K a = true) ∧ Below w3.heap.size w3 wr)
  case atStart => exact ⟨0, rfl, by omega, Lib.hid ⟨rfl, by simp⟩, Below.refl _ _⟩
  case round =>
    obtain ⟨j, rfl, hj, Hm, hBr⟩ := hrel
    obtain ⟨hr4, hbx4, hS4, hC4⟩ := Hfacts.out wr hBr
    by_cases hlt : j < p.xs.length
    · obtain ⟨a, ha⟩ : ∃ a, p.xs[j]? = some a := ⟨p.xs[j], by simp [hlt]⟩
      obtain ⟨b, off, -, -, haa2, hcell⟩ := (HA.out wr hC4).at ha
      replace haa2 : aa = some ⟨b, off, none⟩ := haa2
      subst haa2
      have Hrange : Hid (wr.rangeAt b (off + j * 19) (actCells a)) := Lib.hid hcell
      have hBa : Below wr.heap.size wr (wr.alloc (.cells #[.string a.id, .string a.attr.var, .int .i64 a.attr.sym.k, .string a.attr.sym.t, .int .i64 a.attr.sym.n, .int .i64 a.value.op, .string a.value.a.var, .int .i64 a.value.a.sym.k, .string a.value.a.sym.t, .int .i64 a.value.a.sym.n, .string a.value.b.var, .int .i64 a.value.b.sym.k, .string a.value.b.sym.t, .int .i64 a.value.b.sym.n, .int .i64 a.pref, .string a.other.var, .int .i64 a.other.sym.k, .string a.other.sym.t, .int .i64 a.other.sym.n] 59)) := below2 _ _ _
      have Hnb := Lib.hid (heap_alloc_new wr (.cells #[.string a.id, .string a.attr.var, .int .i64 a.attr.sym.k, .string a.attr.sym.t, .int .i64 a.attr.sym.n, .int .i64 a.value.op, .string a.value.a.var, .int .i64 a.value.a.sym.k, .string a.value.a.sym.t, .int .i64 a.value.a.sym.n, .string a.value.b.var, .int .i64 a.value.b.sym.k, .string a.value.b.sym.t, .int .i64 a.value.b.sym.n, .int .i64 a.pref, .string a.other.var, .int .i64 a.other.sym.k, .string a.other.sym.t, .int .i64 a.other.sym.n] 59))
      have hBra := hBr.trans (hBa.mono hBr.size)
      obtain ⟨hr5, hbx5, hS5, hC5⟩ := Hfacts.out _ hBra
      have v0 := cell_of_one hbx5
      have hsuf := suffices_T (wr.alloc (.cells #[.string a.id, .string a.attr.var, .int .i64 a.attr.sym.k, .string a.attr.sym.t, .int .i64 a.attr.sym.n, .int .i64 a.value.op, .string a.value.a.var, .int .i64 a.value.a.sym.k, .string a.value.a.sym.t, .int .i64 a.value.a.sym.n, .string a.value.b.var, .int .i64 a.value.b.sym.k, .string a.value.b.sym.t, .int .i64 a.value.b.sym.n, .int .i64 a.pref, .string a.other.var, .int .i64 a.other.sym.k, .string a.other.sym.t, .int .i64 a.other.sym.n] 59)) s K a hS5 (by simp at hK; omega)
      have Ha := Lib.hid ha
      have hlw : w1.heap.size < wr.heap.size := by have := lt_of_block hbx4; omega
      clear hcell ha hr5 hbx5
      go_wp2_with (first
        | refine wpList_load_mid rfl 59 _ rfl b (off + j * 19) rfl _ _ Hrange.out Try.underlying59 rfl (by kernel_rfl) ?_
        | refine wpList_store_new rfl 59 _ _ rfl rfl wr _ #[.string a.id, .string a.attr.var, .int .i64 a.attr.sym.k, .string a.attr.sym.t, .int .i64 a.attr.sym.n, .int .i64 a.value.op, .string a.value.a.var, .int .i64 a.value.a.sym.k, .string a.value.a.sym.t, .int .i64 a.value.a.sym.n, .string a.value.b.var, .int .i64 a.value.b.sym.k, .string a.value.b.sym.t, .int .i64 a.value.b.sym.n, .int .i64 a.pref, .string a.other.var, .int .i64 a.other.sym.k, .string a.other.sym.t, .int .i64 a.other.sym.n] rfl rfl rfl (by kernel_rfl) rfl (act_one a) ?_
        | refine wpList_load_row rfl 59 _ rfl wr.heap.size rfl _ _ _ _ Hnb.out Try.underlying59 rfl (by kernel_rfl) ?_)
      refine hsuf.mono ?_
      rintro e w5 ⟨rfl, hB5⟩
      have hBr5 := hBra.trans (hB5.mono hBra.size)
      obtain ⟨hr6, hbx6, hS6, hC6⟩ := Hfacts.out w5 hBr5
      cases hact : sufficesB K a
      · have Hact := Lib.hid hact
        obtain ⟨f0, f1, f2⟩ := Fin.out w5 K hr6 hS6 hC6
        have F0 := Lib.hid f0
        have F1 := Lib.hid f1
        have F2 := Lib.hid f2
        have u0 := cell_of_one hr6
        have u1 := free_of_one hr6
        have u2 := cell_of_one hbx6
        have wr1 : IntKind.i64.wrap (z + (j : Int)) = z + j := IntWalk.i64_in _ (by omega)
        clear f0 f1 f2 v0
        go_wp2_with fail
        have f0 := F0.out
        have hidx : badSuff K p.xs = some j := by
          unfold badSuff
          rw [List.findIdx?_eq_some_iff_getElem]
          obtain ⟨h1, h2⟩ := List.getElem?_eq_some_iff.1 Ha.out
          refine ⟨h1, by rw [h2, Hact.out]; rfl, fun i hi => ?_⟩
          have h3 : p.xs[i] ∈ p.xs.take j := List.mem_of_getElem? (i := i) (by rw [List.getElem?_take_of_lt hi]; exact List.getElem?_eq_getElem _)
          rw [Hm.out.2 _ h3]; simp
        have e1 : surveyP p = (K, z + j, 6) := by rw [E0.out, hidx]; rfl
        exact bodyPost_ret (v := .tuple #[.agg #[.pointer (some ⟨s, 0, none⟩)], .int .i64 (z + j), .int .i64 6]) (by simp [results, Try.results48, go_sem, f0]) rfl ⟨s, by rw [e1], hss0, by rw [e1]; exact F1.out, F2.out⟩
      · have Hact := Lib.hid hact
        go_wp2_with fail
        go_roundg (p.xs.length - (j + 1))
        case measure => rw [Hm.out.1]; omega
        case rel =>
          refine ⟨j + 1, by go_num, by omega, Lib.hid ⟨rfl, fun y hy => ?_⟩, hBr5⟩
          rw [List.take_add_one, Ha.out] at hy
          rcases List.mem_append.1 hy with hy | hy
          · exact Hm.out.2 y hy
          · obtain rfl : y = a := by simpa using hy
            exact Hact.out
    · obtain rfl : j = p.xs.length := by omega
      obtain ⟨f0, f1, f2⟩ := Fin.out wr K hr4 hS4 hC4
      have F0 := Lib.hid f0
      have F1 := Lib.hid f1
      have F2 := Lib.hid f2
      have u0 := cell_of_one hr4
      have u1 := free_of_one hr4
      have u2 := cell_of_one hbx4
      clear f0 f1 f2
      go_wp2_with fail
      have f0 := F0.out
      have hidx : badSuff K p.xs = none := by
        unfold badSuff
        rw [List.findIdx?_eq_none_iff]
        intro x hx
        have h3 := Hm.out.2 x (by rw [List.take_length]; exact hx)
        rw [h3]; rfl
      have e1 : surveyP p = (K, -1, 0) := by rw [E0.out, hidx]; rfl
      exact bodyPost_ret (v := .tuple #[.agg #[.pointer (some ⟨s, 0, none⟩)], .int .i64 (-1), .int .i64 0]) (by simp [results, Try.results48, go_sem, f0]) rfl ⟨s, by rw [e1], hss0, by rw [e1]; exact F1.out, F2.out⟩

theorem check_T (w : World) (lo hi : Nat) (p : ProdV) (h : ProdOk lo hi w p) (hhi : hi ≤ w.heap.size) (hs : sizeL p.cs ≤ 50000) (hx : p.xs.length ≤ 1000) (hw : wtL p.cs ≤ 3900) :
    Calls Try.prog 16 #[.agg #[.string p.name, .slice p.conds.a p.conds.n p.conds.c, .slice p.acts.a p.acts.n p.acts.c]] w fun e w' => e = .returned (.tuple #[.int .i64 (surveyP p).2.1, .int .i64 (surveyP p).2.2]) ∧ Below w.heap.size w w' := by
  have hB0 := below2 w #[.string p.name, .slice p.conds.a p.conds.n p.conds.c, .slice p.acts.a p.acts.n p.acts.c] 25
  have hsv := survey_T (w.alloc (.cells #[.string p.name, .slice p.conds.a p.conds.n p.conds.c, .slice p.acts.a p.acts.n p.acts.c] 25)) lo hi p (h.keep (KeepIn.of_below hB0 hhi)) (Nat.le_trans hhi hB0.size) hs hx hw
  clear h
  go_enter Try.func16, Try.ntmps16
  go_wp2_with fail
  refine hsv.mono ?_
  rintro e w1 ⟨s, rfl, -, -, hB1⟩
  have hC := hB0.trans (hB1.mono hB0.size)
  go_wp2_with fail
  go_ret2
  exact ⟨rfl, hC.alloc hC.size _⟩

end Go.Proofs.Ytmnpcpgdhaplaaa
