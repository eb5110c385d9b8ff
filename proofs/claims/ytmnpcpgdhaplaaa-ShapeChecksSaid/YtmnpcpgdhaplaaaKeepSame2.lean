/- What the statements' own Cond, Conds, Acts, Prod answer: whether two are the same, wherever they lie. Conditions: they lie in memory. -/
import Derived.Test.YtmnpcpgdhaplaaaMg35
namespace Go.Proofs.Ytmnpcpgdhaplaaa
open Go Go.RowKit

set_option pp.deepTerms true
set_option pp.maxSteps 1000000

/-! ### Conditions -/

theorem bareL_cons (c : CondV) (cs : List CondV) : bareL (c :: cs) = bareC c :: bareL cs := rfl
theorem bareC_iff {x y : CondV} : bareC x = bareC y ↔ x.h.kind = y.h.kind ∧ x.h.goal = y.h.goal ∧ x.h.id = y.h.id ∧ x.h.acc = y.h.acc ∧ x.h.attrs.map bareT = y.h.attrs.map bareT ∧ x.h.values.map bareT = y.h.values.map bareT ∧ bareL x.inner = bareL y.inner := by
  cases x; cases y
  simp only [bareC, CondV.h, CondV.inner, CondV.mk.injEq, CondH.mk.injEq, true_and, and_true]
  constructor
  · rintro ⟨⟨h1, h2, h3, h4, h5, h6⟩, h7⟩; exact ⟨h1, h2, h3, h6, h4, h5, h7⟩
  · rintro ⟨h1, h2, h3, h6, h4, h5, h7⟩; exact ⟨⟨h1, h2, h3, h4, h5, h6⟩, h7⟩

def CondSmall (c : CondV) : Prop := c.h.attrs.length ≤ 100000 ∧ c.h.values.length ≤ 100000 ∧ (∀ t ∈ c.h.attrs, t.syms.length ≤ 100000) ∧ ∀ t ∈ c.h.values, t.syms.length ≤ 100000
theorem CondLight.small {c : CondV} (h : CondLight c) : CondSmall c := by
  obtain ⟨-, h1, h2, h3, h4⟩ := h
  exact ⟨by omega, by omega, fun t ht => by have := (h3 t ht).1; omega, fun t ht => by have := (h4 t ht).1; omega⟩

set_option maxRecDepth 100000 in
set_option maxHeartbeats 3200000 in
theorem keepcond_T (w : World) (lo hi lo' hi' : Nat) (x y : CondV) (h : CondOk lo hi w x) (hhi : hi ≤ w.heap.size) (h' : CondOk lo' hi' w y) (hhi' : hi' ≤ w.heap.size) (hl : CondSmall x)
    (hrec : ∀ W, Below w.heap.size w W → Calls Try.prog 25 #[.slice x.h.conds.a x.h.conds.n x.h.conds.c, .slice y.h.conds.a y.h.conds.n y.h.conds.c] W fun e w' => e = .returned (.bool (decB (bareL x.inner = bareL y.inner))) ∧ Below W.heap.size W w') :
    Calls Try.prog 55 #[.agg #[.int .i64 x.h.kind, .bool x.h.goal, .string x.h.id, .slice x.h.attr.a x.h.attr.n x.h.attr.c, .slice x.h.value.a x.h.value.n x.h.value.c, .bool x.h.acc, .slice x.h.conds.a x.h.conds.n x.h.conds.c], .agg #[.int .i64 y.h.kind, .bool y.h.goal, .string y.h.id, .slice y.h.attr.a y.h.attr.n y.h.attr.c, .slice y.h.value.a y.h.value.n y.h.value.c, .bool y.h.acc, .slice y.h.conds.a y.h.conds.n y.h.conds.c]] w fun e w' => e = .returned (.bool (decB (bareC x = bareC y))) ∧ Below w.heap.size w w' := by
  obtain ⟨oxa, oxv, -⟩ := condOk_iff.1 h
  obtain ⟨oya, oyv, -⟩ := condOk_iff.1 h'
  obtain ⟨l1, l2, l3, l4⟩ := hl
  have hta : ∀ W, Below w.heap.size w W → Calls Try.prog 84 #[.slice x.h.attr.a x.h.attr.n x.h.attr.c, .slice y.h.attr.a y.h.attr.n y.h.attr.c] W fun e w' => e = .returned (.bool (decB (x.h.attrs.map bareT = y.h.attrs.map bareT))) ∧ ∃ n, w' = W.drewN n := fun W hW =>
    keeptests_T W lo hi lo' hi' x.h.attr y.h.attr x.h.attrs y.h.attrs (oxa.keep (KeepIn.of_below hW hhi)) (oya.keep (KeepIn.of_below hW hhi')) l1 l3
  have htv : ∀ W, Below w.heap.size w W → Calls Try.prog 84 #[.slice x.h.value.a x.h.value.n x.h.value.c, .slice y.h.value.a y.h.value.n y.h.value.c] W fun e w' => e = .returned (.bool (decB (x.h.values.map bareT = y.h.values.map bareT))) ∧ ∃ n, w' = W.drewN n := fun W hW =>
    keeptests_T W lo hi lo' hi' x.h.value y.h.value x.h.values y.h.values (oxv.keep (KeepIn.of_below hW hhi)) (oyv.keep (KeepIn.of_below hW hhi')) l2 l4
  have Hta := Lib.hid hta
  have Htv := Lib.hid htv
  have Hrec := Lib.hid hrec
  have hB0 : Below w.heap.size w ((w.alloc (.cells #[.int .i64 x.h.kind, .bool x.h.goal, .string x.h.id, .slice x.h.attr.a x.h.attr.n x.h.attr.c, .slice x.h.value.a x.h.value.n x.h.value.c, .bool x.h.acc, .slice x.h.conds.a x.h.conds.n x.h.conds.c] 64)).alloc (.cells #[.int .i64 y.h.kind, .bool y.h.goal, .string y.h.id, .slice y.h.attr.a y.h.attr.n y.h.attr.c, .slice y.h.value.a y.h.value.n y.h.value.c, .bool y.h.acc, .slice y.h.conds.a y.h.conds.n y.h.conds.c] 64)) := ((Below.refl _ w).alloc (Nat.le_refl _) _).alloc (by simp) _
  have hb0 : ((w.alloc (.cells #[.int .i64 x.h.kind, .bool x.h.goal, .string x.h.id, .slice x.h.attr.a x.h.attr.n x.h.attr.c, .slice x.h.value.a x.h.value.n x.h.value.c, .bool x.h.acc, .slice x.h.conds.a x.h.conds.n x.h.conds.c] 64)).alloc (.cells #[.int .i64 y.h.kind, .bool y.h.goal, .string y.h.id, .slice y.h.attr.a y.h.attr.n y.h.attr.c, .slice y.h.value.a y.h.value.n y.h.value.c, .bool y.h.acc, .slice y.h.conds.a y.h.conds.n y.h.conds.c] 64)).heap[w.heap.size]? = some (.cells #[.int .i64 x.h.kind, .bool x.h.goal, .string x.h.id, .slice x.h.attr.a x.h.attr.n x.h.attr.c, .slice x.h.value.a x.h.value.n x.h.value.c, .bool x.h.acc, .slice x.h.conds.a x.h.conds.n x.h.conds.c] 64 (0, 0)) := (Below.heap_alloc _ _ _ (by simp)).trans (heap_alloc_new w _)
  have hz0 : ((w.alloc (.cells #[.int .i64 x.h.kind, .bool x.h.goal, .string x.h.id, .slice x.h.attr.a x.h.attr.n x.h.attr.c, .slice x.h.value.a x.h.value.n x.h.value.c, .bool x.h.acc, .slice x.h.conds.a x.h.conds.n x.h.conds.c] 64)).alloc (.cells #[.int .i64 y.h.kind, .bool y.h.goal, .string y.h.id, .slice y.h.attr.a y.h.attr.n y.h.attr.c, .slice y.h.value.a y.h.value.n y.h.value.c, .bool y.h.acc, .slice y.h.conds.a y.h.conds.n y.h.conds.c] 64)).heap[w.heap.size + 1]? = some (.cells #[.int .i64 y.h.kind, .bool y.h.goal, .string y.h.id, .slice y.h.attr.a y.h.attr.n y.h.attr.c, .slice y.h.value.a y.h.value.n y.h.value.c, .bool y.h.acc, .slice y.h.conds.a y.h.conds.n y.h.conds.c] 64 (0, 0)) := by
    have := heap_alloc_new (w.alloc (.cells #[.int .i64 x.h.kind, .bool x.h.goal, .string x.h.id, .slice x.h.attr.a x.h.attr.n x.h.attr.c, .slice x.h.value.a x.h.value.n x.h.value.c, .bool x.h.acc, .slice x.h.conds.a x.h.conds.n x.h.conds.c] 64)) (.cells #[.int .i64 y.h.kind, .bool y.h.goal, .string y.h.id, .slice y.h.attr.a y.h.attr.n y.h.attr.c, .slice y.h.value.a y.h.value.n y.h.value.c, .bool y.h.acc, .slice y.h.conds.a y.h.conds.n y.h.conds.c] 64)
    simpa using this
  clear hta htv hrec h h' oxa oxv oya oyv l1 l2 l3 l4
  by_cases e1 : x.h.kind = y.h.kind
  case neg =>
    have f1 := eqG _ _ e1
    have f2 : (x.h.kind = y.h.kind) = False := eq_false e1
    have Hne : Hid (bareC x ≠ bareC y) := Lib.hid fun e => e1 (bareC_iff.1 e).1
    clear e1
    go_enter Try.func55, Try.ntmps55
    go_wp2_with fail
    go_ret
    exact ⟨by rw [decB_f Hne.out]; rfl, hB0⟩
  have f1 : (x.h.kind == y.h.kind) = true := by simp [e1]
  have E1 := Lib.hid e1
  clear e1
  by_cases e2 : x.h.goal = y.h.goal
  case neg =>
    have f3 : (x.h.goal == y.h.goal) = false := by simp [e2]
    have f2 : (x.h.goal = y.h.goal) = False := eq_false e2
    have Hne : Hid (bareC x ≠ bareC y) := Lib.hid fun e => e2 (bareC_iff.1 e).2.1
    clear e2
    go_enter Try.func55, Try.ntmps55
    go_wp2_with fail
    go_ret
    exact ⟨by rw [decB_f Hne.out]; rfl, hB0⟩
  have f3 : (x.h.goal == y.h.goal) = true := by simp [e2]
  have E2 := Lib.hid e2
  clear e2
  by_cases e3 : x.h.id = y.h.id
  case neg =>
    obtain ⟨f5, f6⟩ := eqB _ _ e3
    have Hne : Hid (bareC x ≠ bareC y) := Lib.hid fun e => e3 (bareC_iff.1 e).2.2.1
    clear e3
    go_enter Try.func55, Try.ntmps55
    go_wp2_with fail
    go_ret
    exact ⟨by rw [decB_f Hne.out]; rfl, hB0⟩
  have f5 : (x.h.id.toList == y.h.id.toList) = true := by simp [e3]
  have E3 := Lib.hid e3
  clear e3
  by_cases e4 : x.h.acc = y.h.acc
  case neg =>
    have f7 : (x.h.acc == y.h.acc) = false := by simp [e4]
    have f8 : (x.h.acc = y.h.acc) = False := eq_false e4
    have Hne : Hid (bareC x ≠ bareC y) := Lib.hid fun e => e4 (bareC_iff.1 e).2.2.2.1
    clear e4
    go_enter Try.func55, Try.ntmps55
    go_wp2_with fail
    go_ret
    exact ⟨by rw [decB_f Hne.out]; rfl, hB0⟩
  have f7 : (x.h.acc == y.h.acc) = true := by simp [e4]
  have E4 := Lib.hid e4
  clear e4
  go_enter Try.func55, Try.ntmps55
  go_wp2_with fail
  generalize ((w.alloc (.cells #[.int .i64 x.h.kind, .bool x.h.goal, .string x.h.id, .slice x.h.attr.a x.h.attr.n x.h.attr.c, .slice x.h.value.a x.h.value.n x.h.value.c, .bool x.h.acc, .slice x.h.conds.a x.h.conds.n x.h.conds.c] 64)).alloc (.cells #[.int .i64 y.h.kind, .bool y.h.goal, .string y.h.id, .slice y.h.attr.a y.h.attr.n y.h.attr.c, .slice y.h.value.a y.h.value.n y.h.value.c, .bool y.h.acc, .slice y.h.conds.a y.h.conds.n y.h.conds.c] 64)) = W0 at hB0 hb0 hz0 ⊢
  refine (Hta.out W0 hB0).mono ?_
  rintro e w1 ⟨rfl, n1, hw1⟩
  have hB1 : Below w.heap.size w w1 := by rw [hw1]; exact hB0.trans (below_drewN _ _ _)
  have hb1 : w1.heap[w.heap.size]? = some (.cells #[.int .i64 x.h.kind, .bool x.h.goal, .string x.h.id, .slice x.h.attr.a x.h.attr.n x.h.attr.c, .slice x.h.value.a x.h.value.n x.h.value.c, .bool x.h.acc, .slice x.h.conds.a x.h.conds.n x.h.conds.c] 64 (0, 0)) := by rw [hw1]; exact hb0
  have hz1 : w1.heap[w.heap.size + 1]? = some (.cells #[.int .i64 y.h.kind, .bool y.h.goal, .string y.h.id, .slice y.h.attr.a y.h.attr.n y.h.attr.c, .slice y.h.value.a y.h.value.n y.h.value.c, .bool y.h.acc, .slice y.h.conds.a y.h.conds.n y.h.conds.c] 64 (0, 0)) := by rw [hw1]; exact hz0
  clear hw1 hB0 hb0 hz0
  obtain ⟨⟨-, -, -, -, m4, -, m6⟩, -⟩ := row7_all hb1
  obtain ⟨⟨-, -, -, -, k4, -, k6⟩, -⟩ := row7_all hz1
  by_cases e5 : x.h.attrs.map bareT = y.h.attrs.map bareT
  case neg =>
    rw [decB_f e5]
    have Hne : Hid (bareC x ≠ bareC y) := Lib.hid fun e => e5 (bareC_iff.1 e).2.2.2.2.1
    clear e5
    go_wp2_with fail
    go_ret
    exact ⟨by rw [decB_f Hne.out]; rfl, hB1⟩
  rw [decB_t e5]
  have E5 := Lib.hid e5
  clear e5
  go_wp2_with fail
  refine (Htv.out w1 hB1).mono ?_
  rintro e w2 ⟨rfl, n2, hw2⟩
  have hB2 : Below w.heap.size w w2 := by rw [hw2]; exact hB1.trans (below_drewN _ _ _)
  have hb2 : w2.heap[w.heap.size]? = some (.cells #[.int .i64 x.h.kind, .bool x.h.goal, .string x.h.id, .slice x.h.attr.a x.h.attr.n x.h.attr.c, .slice x.h.value.a x.h.value.n x.h.value.c, .bool x.h.acc, .slice x.h.conds.a x.h.conds.n x.h.conds.c] 64 (0, 0)) := by rw [hw2]; exact hb1
  have hz2 : w2.heap[w.heap.size + 1]? = some (.cells #[.int .i64 y.h.kind, .bool y.h.goal, .string y.h.id, .slice y.h.attr.a y.h.attr.n y.h.attr.c, .slice y.h.value.a y.h.value.n y.h.value.c, .bool y.h.acc, .slice y.h.conds.a y.h.conds.n y.h.conds.c] 64 (0, 0)) := by rw [hw2]; exact hz1
  clear hw2 hB1 hb1 hz1 m4 m6 k4 k6
  obtain ⟨⟨-, -, -, -, m4, -, m6⟩, -⟩ := row7_all hb2
  obtain ⟨⟨-, -, -, -, k4, -, k6⟩, -⟩ := row7_all hz2
  by_cases e6 : x.h.values.map bareT = y.h.values.map bareT
  case neg =>
    rw [decB_f e6]
    have Hne : Hid (bareC x ≠ bareC y) := Lib.hid fun e => e6 (bareC_iff.1 e).2.2.2.2.2.1
    clear e6
    go_wp2_with fail
    go_ret
    exact ⟨by rw [decB_f Hne.out]; rfl, hB2⟩
  rw [decB_t e6]
  have E6 := Lib.hid e6
  clear e6
  go_wp2_with fail
  refine (Hrec.out w2 hB2).mono ?_
  rintro e w3 ⟨rfl, hB3⟩
  have hfin := hB2.trans (hB3.mono hB2.size)
  by_cases e7 : bareL x.inner = bareL y.inner
  · rw [decB_t e7]
    have Heq : Hid (bareC x = bareC y) := Lib.hid (bareC_iff.2 ⟨E1.out, E2.out, E3.out, E4.out, E5.out, E6.out, e7⟩)
    clear e7
    go_wp2_with fail
    go_ret
    exact ⟨by rw [decB_t Heq.out]; rfl, hfin⟩
  · rw [decB_f e7]
    have Hne : Hid (bareC x ≠ bareC y) := Lib.hid fun e => e7 (bareC_iff.1 e).2.2.2.2.2.2
    clear e7
    go_wp2_with fail
    go_ret
    exact ⟨by rw [decB_f Hne.out]; rfl, hfin⟩

end Go.Proofs.Ytmnpcpgdhaplaaa
