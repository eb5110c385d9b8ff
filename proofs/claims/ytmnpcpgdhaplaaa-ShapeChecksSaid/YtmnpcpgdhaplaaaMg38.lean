/- What the statements' own Prod answers: whether two productions are the same, wherever they lie. Conditions: they lie in memory.
ShapeChecks answers true. Conditions: the production lies in memory, its texts are no longer than may be.
How a law's row follows from its walk: the call answers true and leaves all that was there. Conditions: the law answers one bool; its parameters can be read. -/
import Derived.Test.YtmnpcpgdhaplaaaMg37
import Derived.Test.YtmnpcpgdhaplaaaRefCheck
import Derived.Test.YtmnpcpgdhaplaaaMg35
import Derived.Test.YtmnpcpgdhaplaaaMg1
import Derived.ProofKit
import Derived.OpenShut
import Derived.JoinedOf
import Derived.JoinedAt
import Derived.ChangeSame
import Derived.Carry
import Derived.WideKeyArgs
import Derived.ReadAgain
import Derived.ChangeSlices
namespace Go.Proofs.Ytmnpcpgdhaplaaa
open Go Go.RowKit

theorem bareP_iff {p q : ProdV} : bareP p = bareP q ↔ p.name = q.name ∧ bareL p.cs = bareL q.cs ∧ p.xs = q.xs := by
  simp [bareP]

set_option pp.deepTerms true
set_option pp.maxSteps 1000000
set_option maxRecDepth 100000 in
set_option maxHeartbeats 3200000 in
theorem keepprod_T (w : World) (lo hi lo' hi' : Nat) (p q : ProdV) (h : ProdOk lo hi w p) (hhi : hi ≤ w.heap.size) (h' : ProdOk lo' hi' w q) (hhi' : hi' ≤ w.heap.size) (hl : Light p) :
    Calls Try.prog 18 #[.agg #[.string p.name, .slice p.conds.a p.conds.n p.conds.c, .slice p.acts.a p.acts.n p.acts.c], .agg #[.string q.name, .slice q.conds.a q.conds.n q.conds.c, .slice q.acts.a q.acts.n q.acts.c]] w fun e w' => e = .returned (.bool (decB (bareP p = bareP q))) ∧ Below w.heap.size w w' := by
  obtain ⟨l1, l2, l3, l4⟩ := hl
  have hc : ∀ W, Below w.heap.size w W → Calls Try.prog 25 #[.slice p.conds.a p.conds.n p.conds.c, .slice q.conds.a q.conds.n q.conds.c] W fun e w' => e = .returned (.bool (decB (bareL p.cs = bareL q.cs))) ∧ Below W.heap.size W w' := fun W hW =>
    keepconds_T _ p.cs (Nat.le_refl _) W lo hi lo' hi' p.conds q.conds q.cs (h.1.keep (KeepIn.of_below hW hhi)) (Nat.le_trans hhi hW.size) (h'.1.keep (KeepIn.of_below hW hhi')) (Nat.le_trans hhi' hW.size) (by omega) (light_small _ _ (Nat.le_refl _) l4)
  have ha : ∀ W, Below w.heap.size w W → Calls Try.prog 51 #[.slice p.acts.a p.acts.n p.acts.c, .slice q.acts.a q.acts.n q.acts.c] W fun e w' => e = .returned (.bool (decB (p.xs = q.xs))) ∧ ∃ n, w' = W.drewN n := fun W hW =>
    keepacts_T W lo hi lo' hi' p.acts q.acts p.xs q.xs (h.2.keep (KeepIn.of_below hW hhi)) (h'.2.keep (KeepIn.of_below hW hhi')) (by omega)
  have Hc := Lib.hid hc
  have Ha := Lib.hid ha
  have hB0 : Below w.heap.size w ((w.alloc (.cells #[.string p.name, .slice p.conds.a p.conds.n p.conds.c, .slice p.acts.a p.acts.n p.acts.c] 25)).alloc (.cells #[.string q.name, .slice q.conds.a q.conds.n q.conds.c, .slice q.acts.a q.acts.n q.acts.c] 25)) := ((Below.refl _ w).alloc (Nat.le_refl _) _).alloc (by simp) _
  have hb0 : ((w.alloc (.cells #[.string p.name, .slice p.conds.a p.conds.n p.conds.c, .slice p.acts.a p.acts.n p.acts.c] 25)).alloc (.cells #[.string q.name, .slice q.conds.a q.conds.n q.conds.c, .slice q.acts.a q.acts.n q.acts.c] 25)).heap[w.heap.size]? = some (.cells #[.string p.name, .slice p.conds.a p.conds.n p.conds.c, .slice p.acts.a p.acts.n p.acts.c] 25 (0, 0)) := (Below.heap_alloc _ _ _ (by simp)).trans (heap_alloc_new w _)
  have hz0 : ((w.alloc (.cells #[.string p.name, .slice p.conds.a p.conds.n p.conds.c, .slice p.acts.a p.acts.n p.acts.c] 25)).alloc (.cells #[.string q.name, .slice q.conds.a q.conds.n q.conds.c, .slice q.acts.a q.acts.n q.acts.c] 25)).heap[w.heap.size + 1]? = some (.cells #[.string q.name, .slice q.conds.a q.conds.n q.conds.c, .slice q.acts.a q.acts.n q.acts.c] 25 (0, 0)) := by
    have := heap_alloc_new (w.alloc (.cells #[.string p.name, .slice p.conds.a p.conds.n p.conds.c, .slice p.acts.a p.acts.n p.acts.c] 25)) (.cells #[.string q.name, .slice q.conds.a q.conds.n q.conds.c, .slice q.acts.a q.acts.n q.acts.c] 25)
    simpa using this
  clear hc ha h h' l1 l2 l3 l4
  by_cases e1 : p.name = q.name
  case neg =>
    obtain ⟨f5, f6⟩ := eqB _ _ e1
    have Hne : Hid (bareP p ≠ bareP q) := Lib.hid fun e => e1 (bareP_iff.1 e).1
    clear e1
    go_enter Try.func18, Try.ntmps18
    go_wp2_with fail
    go_ret
    exact ⟨by rw [decB_f Hne.out]; rfl, hB0⟩
  have f5 : (p.name.toList == q.name.toList) = true := by simp [e1]
  have E1 := Lib.hid e1
  clear e1
  go_enter Try.func18, Try.ntmps18
  go_wp2_with fail
  generalize ((w.alloc (.cells #[.string p.name, .slice p.conds.a p.conds.n p.conds.c, .slice p.acts.a p.acts.n p.acts.c] 25)).alloc (.cells #[.string q.name, .slice q.conds.a q.conds.n q.conds.c, .slice q.acts.a q.acts.n q.acts.c] 25)) = W0 at hB0 hb0 hz0 ⊢
  refine (Hc.out W0 hB0).mono ?_
  rintro e w1 ⟨rfl, hB1⟩
  have hC1 := hB0.trans (hB1.mono hB0.size)
  obtain ⟨-, -, m2⟩ := prod_cells ((hB1.block _ (lt_of_block hb0)).trans hb0)
  obtain ⟨-, -, k2⟩ := prod_cells ((hB1.block _ (lt_of_block hz0)).trans hz0)
  by_cases e2 : bareL p.cs = bareL q.cs
  case neg =>
    rw [decB_f e2]
    have Hne : Hid (bareP p ≠ bareP q) := Lib.hid fun e => e2 (bareP_iff.1 e).2.1
    clear e2
    go_wp2_with fail
    go_ret
    exact ⟨by rw [decB_f Hne.out]; rfl, hC1⟩
  rw [decB_t e2]
  have E2 := Lib.hid e2
  clear e2
  go_wp2_with fail
  refine (Ha.out w1 hC1).mono ?_
  rintro e w2 ⟨rfl, n2, hw2⟩
  have hC2 : Below w.heap.size w w2 := by rw [hw2]; exact hC1.trans (below_drewN _ _ _)
  clear hw2
  by_cases e3 : p.xs = q.xs
  · rw [decB_t e3]
    have Heq : Hid (bareP p = bareP q) := Lib.hid (bareP_iff.2 ⟨E1.out, E2.out, e3⟩)
    clear e3
    go_wp2_with fail
    go_ret
    exact ⟨by rw [decB_t Heq.out]; rfl, hC2⟩
  · rw [decB_f e3]
    have Hne : Hid (bareP p ≠ bareP q) := Lib.hid fun e => e3 (bareP_iff.1 e).2.2
    clear e3
    go_wp2_with fail
    go_ret
    exact ⟨by rw [decB_f Hne.out]; rfl, hC2⟩

end Go.Proofs.Ytmnpcpgdhaplaaa

namespace Go.Proofs.Ytmnpcpgdhaplaaa
open Go Go.RowKit

set_option pp.deepTerms true
set_option pp.maxSteps 1000000
set_option maxRecDepth 100000 in
set_option maxHeartbeats 1600000 in
theorem checks_T (w : World) (p : ProdV) (h : ProdOk 0 w.heap.size w p) (hf : ProdFit p) :
    Calls Try.prog 4 #[.agg #[.string p.name, .slice p.conds.a p.conds.n p.conds.c, .slice p.acts.a p.acts.n p.acts.c]] w fun e w' => e = .returned (.bool true) ∧ Below w.heap.size w w' := by
  have hP0 := pbox w p
  have Hh := Lib.hid h
  have Hf := Lib.hid hf
  clear h hf
  go_enter Try.func4, Try.ntmps4
  go_wp2_with fail
  generalize (w.alloc (.cells #[.string p.name, .slice p.conds.a p.conds.n p.conds.c, .slice p.acts.a p.acts.n p.acts.c] 25)) = W0 at hP0 ⊢
  refine (heavy_T W0 0 w.heap.size p (Hh.out.keep (KeepIn.of_below hP0.below (Nat.le_refl _))) hP0.below.size).mono ?_
  rintro e w1 ⟨⟨b, rfl, hb⟩, hB1⟩
  have hP1 := hP0.next hB1
  have Hb := Lib.hid hb
  clear hb
  cases b
  case true =>
    go_wp2_with fail
    refine (wakes_T w1).mono ?_
    rintro e w2 ⟨rfl, hB2⟩
    go_wp2_with fail
    go_ret
    exact ⟨rfl, (hP1.next hB2).below⟩
  have hl := Hb.out (by trivial)
  obtain ⟨c0, c1, c2⟩ := hP1.cells
  go_wp2_with fail
  refine (copyprod_T w1 0 w.heap.size p (Hh.out.keep (KeepIn.of_below hP1.below (Nat.le_refl _))) hP1.below.size hl).mono ?_
  rintro e w2 ⟨q, rfl, hq, hqp, hB2⟩
  have hP2 := hP1.next hB2
  have Hq := Lib.hid hq
  have Hqp := Lib.hid hqp
  clear c0 c1 c2 hq hqp
  have hQ2 := pbox w2 q
  have hP2' := hP2.next hQ2.below
  obtain ⟨d0, d1, d2⟩ := hQ2.cells
  go_wp2_with fail
  generalize (w2.alloc (.cells #[.string q.name, .slice q.conds.a q.conds.n q.conds.c, .slice q.acts.a q.acts.n q.acts.c] 25)) = W2 at hQ2 hP2' d0 d1 d2 ⊢
  obtain ⟨sq1, sq2, sq3⟩ := sizes_same Hqp.out hl
  refine (check_T W2 w1.heap.size w2.heap.size q (Hq.out.keep (KeepIn.of_below hQ2.below (Nat.le_refl _))) hQ2.below.size sq1 sq2 sq3).mono ?_
  rintro e w3 ⟨rfl, hB3⟩
  have hP3 := hP2'.next hB3
  have hQ3 := hQ2.next hB3
  clear d0 d1 d2
  obtain ⟨c0, c1, c2⟩ := hP3.cells
  go_wp2_with fail
  refine (refcheck_T w3 0 w.heap.size p (Hh.out.keep (KeepIn.of_below hP3.below (Nat.le_refl _))) hP3.below.size hl Hf.out).mono ?_
  rintro e w4 ⟨rfl, hB4⟩
  have hP4 := hP3.next hB4
  have hQ4 := hQ3.next hB4
  clear c0 c1 c2
  obtain ⟨c0, c1, c2⟩ := hP4.cells
  obtain ⟨d0, d1, d2⟩ := hQ4.cells
  rw [survey_same Hqp.out]
  go_wp2_with fail
  refine (keepprod_T w4 0 w.heap.size w1.heap.size w2.heap.size p q (Hh.out.keep (KeepIn.of_below hP4.below (Nat.le_refl _))) hP4.below.size (Hq.out.keep (KeepIn.of_below hQ4.below (Nat.le_refl _))) hQ4.below.size hl).mono ?_
  rintro e w5 ⟨rfl, hB5⟩
  rw [decB_t Hqp.out.symm]
  go_wp2_with fail
  refine (wakes_T w5).mono ?_
  rintro e w6 ⟨rfl, hB6⟩
  go_wp2_with fail
  go_ret
  exact ⟨rfl, ((hP4.next hB5).next hB6).below⟩

end Go.Proofs.Ytmnpcpgdhaplaaa

namespace Go.Proofs.Ytmnpcpgdhaplaaa
open Go Go.RowKit Go.ChangeShapes Go.WideShapes Go.ChangeAt

section
variable {H : Type} {enc : TypeId × Value → H} {P : Program}

theorem trodAll_stays (hl : laidOutB P = true) {W W' : World} {sp : Nat → Bool} : ∀ {ts : List TypeId} {vs : List Value} {ds : List (DataW H)} {ps : List MemPlace},
    (∀ t ∈ ts, P.readableRec t = true ∧ t < P.types.size) → DataW.TrodAll enc P W 0 (fun _ => true) true ts vs ds ps → (∀ p ∈ ps, W.sameAt W' p) → (∀ p ∈ ps, sp p.block = true) → DataW.TrodAll enc P W' 0 sp true ts vs ds ps
  | [], _, _, _, _, h, _, _ => by
    obtain ⟨rfl, rfl, rfl⟩ := trodAll_nil h
    exact trodAll_mk0
  | t :: ts, _, _, _, hr, h, hsame, hs => by
    obtain ⟨v, vs, d, ds, p, q, rfl, rfl, rfl, h0, h1⟩ := trodAll_cons h
    exact trodAll_cons_mk (WideElems.Trod_stays hl (hr t (by simp)).1 (hr t (by simp)).2 h0 (fun x hx => hsame x (by simp [hx])) (fun x hx => hs x (by simp [hx])))
      (trodAll_stays hl (fun t' ht' => hr t' (by simp [ht'])) h1 (fun x hx => hsame x (by simp [hx])) (fun x hx => hs x (by simp [hx])))

/-- What the row asks behind the call. -/
theorem law_post {f : Func} {s : ChangeSpec} {W W' : World} {args : Array Value} {ds gs : List (DataW H)} {before : List MemPlace} {tb : TypeId}
    (hl : laidOutB P = true) (hrd : ∀ t ∈ f.params.toList, P.readableRec t = true ∧ t < P.types.size) (hr : f.resultTypes = #[tb]) (htb : P.underlying tb = some .bool) (hvars : s.vars = [])
    (hW : DataW.Whole enc P f.params.toList s.vars false W args.toList ds gs before) (hs : s.fn H (ds ++ gs) = { results := [.lit (.bool true)], args := ds }) (hB : Below W.heap.size W W') :
    s.post enc P f false true false false W args (.bool true) W' := by
  have hlt : ∀ p ∈ before, p.block < W.heap.size := fun p hp => hW.lt p hp
  have hW' := hW
  obtain ⟨p, q, hA, hV, rfl, -, -⟩ := hW
  rw [hvars] at hV
  obtain ⟨rfl, rfl⟩ := trodVars_none hV
  refine ⟨ds, [], p ++ [], [], p, [], hW', ?_, ?_, ?_, ?_, fun h => by cases h⟩
  · rw [hs, hr]
    exact ⟨[], [], ⟨1, by simp [DataW.trod, Value.cells, htb]⟩, rfl, rfl⟩
  · rw [hs]
    exact trodAll_stays hl hrd hA (fun x hx => hB.same (hlt x (by simp [hx]))) (fun x hx => by simpa using hlt x (by simp [hx]))
  · rw [hs, hvars]
    rfl
  · exact World.keptBut_mono (fun x hx => ⟨hx, .inr (.inl (by simpa using hx))⟩) (hB.frame (· ∈ p ++ []))
end

theorem own : ownKnob Try.prog.godebug = none := by kernel_rfl
theorem laidOut : laidOutB Try.prog = true := by kernel_rfl

end Go.Proofs.Ytmnpcpgdhaplaaa
