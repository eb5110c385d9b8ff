/- RowAll returns true, whatever it is given. Conditions: none but that the list lies in memory. -/
import Derived.Test.YtckdojneogeblaaRowClones
import Derived.Test.YtckdojneogeblaaNearQ
import Derived.Test.YtckdojneogeblaaQLoop
import Derived.RecoverIn
import Derived.Stop.RegionWithIn
namespace Go.Proofs.Ytckdojneogeblaa
open Go Go.RowKit Go.Shelf QI

attribute [local go_sem] Oper.semAt_some

theorem IntsOf.cell0 {w : World} {a : Option Addr} {n cap : Nat} {xs : List Int} (h : IntsOf w (.slice a n cap) xs) : ∀ j x, xs[j]? = some x → ∃ g off, a = some ⟨g, off, none⟩ ∧ w.cell? ⟨g, off + j, none⟩ = some (.int .i64 x) := by
  obtain ⟨a', cap', e, -, hno, h⟩ := h
  simp only [Value.slice.injEq] at e
  obtain ⟨rfl, -, rfl⟩ := e
  exact h

theorem IntsOf.form2 {w : World} {v : Value} {xs : List Int} (h : IntsOf w v xs) : ∃ a cap, v = .slice a xs.length cap ∧ xs.length ≤ cap := by
  obtain ⟨a, cap, rfl, hc, -⟩ := h
  exact ⟨a, cap, rfl, hc⟩

/-- First of All. -/
theorem QI.first_all (w : World) (Bn s : Nat) (a : Option Addr) (cap : Nat) (xs : List Int) (k : Nat) (hB : w.heap[Bn]? = some (.cells #[.pointer (some ⟨s, 0, none⟩)] 23 (0, 0))) (h : w.cell? ⟨s, 0, none⟩ = some (.slice a xs.length cap)) (h5 : xs.length ≤ 65536) (hx : IntsOf w (.slice a xs.length cap) xs) (hk : k ≤ 100000) :
    Calls Try.prog 20 #[.func (.func 30) #[] #[.pointer (some ⟨Bn, 0, none⟩)], .int .i64 k] w fun e w' => ∃ v, e = .returned v ∧ IntsOf w' v (xs.take k) ∧ Below w.heap.size w w' := by
  obtain ⟨a', cap', e, -, hno, hx⟩ := hx
  simp only [Value.slice.injEq] at e
  obtain ⟨rfl, -, rfl⟩ := e
  obtain ⟨r, hr, hr2⟩ : ∃ r : Option (Nat × Nat), (xs ≠ [] → r = endOf (.slice a xs.length cap)) ∧ ∀ g l, r = some (g, l) → g < w.heap.size := by
    cases xs with
    | nil => exact ⟨none, fun h => absurd rfl h, fun _ _ e => by cases e⟩
    | cons x xs =>
      obtain ⟨g', off, rfl, hc⟩ := hx 0 x rfl
      refine ⟨_, fun _ => rfl, fun g l e => ?_⟩
      have := World.block_lt_of_cell? w _ hc
      simp [endOf] at e
      simp at this
      omega
  refine (first_M _ _ xs k w (enters_of Try.func30 (by kernel_rfl) rfl) (all_stops 2 Bn w s a cap xs hB h h5 r hr hx) (host_all w _ (by omega) r _ _ hr2) (Below.refl _ _) (by omega) hk).mono ?_
  rintro e w' ⟨v, rfl, hR, hB⟩
  exact ⟨v, rfl, Rw.ints hR, hB⟩

set_option pp.deepTerms true
set_option pp.maxSteps 1000000
set_option maxRecDepth 100000 in
set_option maxHeartbeats 4000000 in
theorem all_walk (w : World) (v : Value) (xs : List Int) (z : Int) (hv : IntsOf w v xs) (hx : xs.length ≤ 100) :
    Calls Try.prog 4 #[v, .int .i64 z] w fun e w' => e = .returned (.bool true) ∧ Below w.heap.size w w' := by
  obtain ⟨a, cap, rfl, hxc⟩ := hv.form2
  have Hv := Lib.hid hv
  clear hv
  obtain ⟨i0, hi, hz0, hz1, hz2⟩ := info_parts' infoT
  refine (callsIn_wide (n := 4)).1 ?_
  refine callsIn_of_wp_marks Try.func4 rfl trivial ?_ rfl
  simp only [Try.ntmps4, List.size_toArray, List.length_cons, List.length_nil, Nat.reduceAdd, Nat.reduceSub, Array.replicate_succ, Array.replicate_zero, List.push_toArray, List.append_toArray, List.nil_append, List.cons_append]
  gi_wp2_with fail
  have bR := heap_alloc_new w (.cells #[.bool false] 4)
  have hB0 : Below w.heap.size w (w.alloc (.cells #[.bool false] 4)) := (Below.refl _ w).alloc (Nat.le_refl _) _
  have hsz0 : (w.alloc (.cells #[.bool false] 4)).heap.size = w.heap.size + 1 := by simp
  generalize w.alloc (.cells #[.bool false] 4) = W0 at bR hB0 hsz0 ⊢
  refine ⟨trivial, ?_⟩
  refine (callsIn_wide.2 (made_T W0 _ xs (Hv.out.below hB0) (by omega))).mono ?_
  rintro e w1 ⟨rfl, ⟨u, hQ1⟩, hB1⟩
  rw [hsz0] at hQ1 hB1 ⊢
  obtain ⟨s, hs⟩ : ∃ s, w.heap.size + 1 = s := ⟨_, rfl⟩
  rw [hs] at hQ1 hB1 hsz0 ⊢
  have HQ1 := Lib.hid hQ1
  have hR1 := (hB1.block w.heap.size (by omega)).trans bR
  have hB01 := hB0.trans (hB1.mono (by omega))
  have hs1 := hQ1.lt
  clear hQ1 bR
  gi_wp2_with fail
  have bQ := heap_alloc_new w1 (.cells #[.pointer (some ⟨s, 0, none⟩)] 23)
  have hB2 : Below w1.heap.size w1 (w1.alloc (.cells #[.pointer (some ⟨s, 0, none⟩)] 23)) := (Below.refl _ w1).alloc (Nat.le_refl _) _
  obtain ⟨Bq, hBq⟩ : ∃ Bq, w1.heap.size = Bq := ⟨_, rfl⟩
  have hsz2 : (w1.alloc (.cells #[.pointer (some ⟨s, 0, none⟩)] 23)).heap.size = Bq + 1 := by simp [hBq]
  rw [hBq] at bQ hB2 hs1 ⊢
  generalize w1.alloc (.cells #[.pointer (some ⟨s, 0, none⟩)] 23) = w2 at bQ hB2 hsz2 ⊢
  have HQ2 := Lib.hid (HQ1.out.below (hBq.symm ▸ hB2))
  have hR2 := (hB2.block w.heap.size (by omega)).trans hR1
  have hB02 : Below w.heap.size w w2 := hB01.trans (hB2.mono (by omega))
  have HbQ := Lib.hid bQ
  have HR2 := Lib.hid hR2
  clear hR1 hR2 bQ HQ1 hB2 hB01
  refine ⟨trivial, ?_⟩
  refine (callsIn_wide.2 (within_any w2 z (xs.length + 1) (by omega) (by omega))).mono ?_
  rintro e w3 ⟨⟨k, rfl, hk⟩, rfl⟩
  have hk2 : k ≤ xs.length := by omega
  have hk3 : k ≤ cap := by omega
  have Hsz2 := Lib.hid hsz2
  clear hk hsz2
  have hBd : Below w3.heap.size w3 w3.drew := (Below.refl _ w3).drew
  have hqc : w3.drew.cell? ⟨Bq, 0, none⟩ = some (.pointer (some ⟨s, 0, none⟩)) := cell_of_heap (w := w3) HbQ.out (i := 0) rfl
  obtain ⟨a4, cap4, e4⟩ := (Rw.ints HQ2.out.2.1).form
  have hAll : CallsIn Fence.wide 3 Try.prog 18 #[.pointer (some ⟨s, 0, none⟩)] w3.drew fun e w' => e = .returned (.func (.func 30) #[] #[.pointer (some ⟨w3.heap.size, 0, none⟩)]) ∧ Hid (Below w3.heap.size w3 w' ∧ w'.heap[w3.heap.size]? = some (.cells #[.pointer (some ⟨s, 0, none⟩)] 23 (0, 0))) :=
    (callsIn_wide.2 (all_T w3.drew (some ⟨s, 0, none⟩))).mono fun e w' h => ⟨h.1, Lib.hid ⟨by rw [h.2]; exact hBd.alloc (Nat.le_refl _) _, by rw [h.2]; exact heap_alloc_new w3.drew _⟩⟩
  have hFirst : ∀ w4, Hid (Below w3.heap.size w3 w4 ∧ w4.heap[w3.heap.size]? = some (.cells #[.pointer (some ⟨s, 0, none⟩)] 23 (0, 0))) → CallsIn Fence.wide 3 Try.prog 20 #[.func (.func 30) #[] #[.pointer (some ⟨w3.heap.size, 0, none⟩)], .int .i64 k] w4 fun e w' => ∃ v, e = .returned v ∧ Hid (IntsOf w' v (xs.take k) ∧ Below w3.heap.size w3 w') := by
    intro w4 h4
    have hQ := HQ2.out.below h4.out.1
    subst e4
    refine (callsIn_wide.2 (first_all w4 w3.heap.size s a4 cap4 xs k h4.out.2 (cell_of_heap hQ.1 (i := 0) rfl) (by omega) (Rw.ints hQ.2.1) (by omega))).mono ?_
    rintro e w' ⟨v, rfl, hI, hB⟩
    exact ⟨v, rfl, Lib.hid ⟨hI, h4.out.1.trans (hB.mono h4.out.1.size)⟩⟩
  have hInts : ∀ w5 v5, Hid (IntsOf w5 v5 (xs.take k) ∧ Below w3.heap.size w3 w5) → CallsIn Fence.wide 3 Try.prog 16 #[v5, .slice a k cap] w5 fun e w' => e = .returned (.bool true) ∧ Hid (Below w3.heap.size w3 w') := by
    intro w5 v5 h5
    have hB5 := hB02.trans (h5.out.2.mono hB02.size)
    refine (callsIn_wide.2 (ints_T w5 v5 (.slice a k cap) (xs.take k) h5.out.1 ((Hv.out.below hB5).take hk2) (by simp; omega))).mono ?_
    rintro e w' ⟨rfl, hB⟩
    exact ⟨rfl, Lib.hid (h5.out.2.trans (hB.mono h5.out.2.size))⟩
  gi_wp2_with fail
  refine wpIn_near _ ?_ (fun _ _ h => h)
  gi_region_with (first
      | (refine ⟨trivial, ?_⟩; (with_reducible refine hAll.mono ?_); rintro e w4 ⟨rfl, h4⟩)
      | (refine ⟨trivial, ?_⟩; (with_reducible refine (hFirst w4 h4).mono ?_); rintro e w5 ⟨v5, rfl, h5⟩)
      | (refine ⟨trivial, ?_⟩; (with_reducible refine (hInts w5 v5 h5).mono ?_); rintro e w6 ⟨rfl, h6⟩))
  dsimp only [Near]
  have hB6 := h6.out
  have hw6 := hB6.size
  have hB06 := hB02.trans (hB6.mono hB02.size)
  have HQ6 := Lib.hid (HQ2.out.below hB6)
  have hqc6 : (w6.alloc (.cells #[.slice none 0 0] 28)).cell? ⟨Bq, 0, none⟩ = some (.pointer (some ⟨s, 0, none⟩)) := cell_of_heap ((Below.heap_alloc _ _ _ (by have := lt_of_block HbQ.out; omega)).trans ((hB6.block Bq (lt_of_block HbQ.out)).trans HbQ.out)) (i := 0) rfl
  have HbQ6 := Lib.hid ((hB6.block Bq (lt_of_block HbQ.out)).trans HbQ.out)
  have HR6 := Lib.hid ((hB6.block w.heap.size (lt_of_block HR2.out)).trans HR2.out)
  clear hAll hFirst hInts h4 h5 h6 hqc e4
  have Hqc6 := Lib.hid hqc6
  gi_wp2_with fail
  clear hqc6
  obtain ⟨O, hO⟩ : ∃ O, w6.heap.size = O := ⟨_, rfl⟩
  have hB7 : Below w6.heap.size w6 (w6.alloc (.cells #[.slice none 0 0] 28)) := (Below.refl _ w6).alloc (Nat.le_refl _) _
  have bO7 := heap_alloc_new w6 (.cells #[.slice none 0 0] 28)
  have hsz7 : (w6.alloc (.cells #[.slice none 0 0] 28)).heap.size = O + 1 := by simp [hO]
  rw [hO] at hB7 bO7
  generalize w6.alloc (.cells #[.slice none 0 0] 28) = w7 at Hqc6 hB7 bO7 hsz7 ⊢
  have Hsz7 := Lib.hid hsz7
  have hOs := Hsz2.out
  clear hsz7
  refine ⟨trivial, ?_⟩
  refine (callsIn_wide.2 (all_T w7 (some ⟨s, 0, none⟩))).mono ?_
  rintro e w8 ⟨rfl, hw8⟩
  have hB8 : Below w7.heap.size w7 w8 := by rw [hw8]; exact (Below.refl _ w7).alloc (Nat.le_refl _) _
  have hbx : w8.heap[w7.heap.size]? = some (.cells #[.pointer (some ⟨s, 0, none⟩)] 23 (0, 0)) := by rw [hw8]; exact heap_alloc_new w7 _
  clear hw8
  have hB68 : Below O w6 w8 := hB7.trans (hB8.mono (by rw [Hsz7.out]; omega))
  have HQ8 := Lib.hid (HQ6.out.below (hO.symm ▸ hB68))
  have bO8 := (hB8.block O (by rw [Hsz7.out]; omega)).trans bO7
  have HbQ8 := Lib.hid ((hB68.block Bq (by have := lt_of_block HbQ6.out; omega)).trans HbQ6.out)
  have HR8 := Lib.hid ((hB68.block w.heap.size (by have := lt_of_block HR6.out; omega)).trans HR6.out)
  have hB08 := hB06.trans (hB68.mono (by omega))
  have hqe := eq_nilFunc 30 #[.pointer (some ⟨w7.heap.size, 0, none⟩)]
  have Hbx := Lib.hid hbx
  have HO8 := Lib.hid bO8
  clear hbx bO7 bO8
  gi_wp2_with fail
  obtain ⟨a8, cap8, rfl⟩ := (Rw.ints HQ8.out.2.1).form
  have hx8 := Rw.ints HQ8.out.2.1
  obtain ⟨a', cap', e, -, hno, hx8⟩ := hx8
  simp only [Value.slice.injEq] at e
  obtain ⟨rfl, -, rfl⟩ := e
  have hsO : s < O := by have := HQ6.out.lt; omega
  have hBO : Bq < O := by have := lt_of_block HbQ6.out; omega
  have hsB : s < Bq := by omega
  have hO8 : O < w8.heap.size := lt_of_block HO8.out
  obtain ⟨r, hr, hr2⟩ : ∃ r : Option (Nat × Nat), (xs ≠ [] → r = endOf (.slice a8 xs.length cap8)) ∧ ∀ g l, r = some (g, l) → g < O ∧ g ≠ s ∧ endOf (.slice a8 xs.length cap8) = some (g, l) := by
    by_cases hx0 : xs = []
    · exact ⟨none, fun h => absurd hx0 h, fun _ _ e => by cases e⟩
    · refine ⟨_, fun _ => rfl, fun g l e => ⟨?_, HQ8.out.ne g l e, e⟩⟩
      have := (HQ6.out.2.1.end_ge g l e).2.1
      omega
  have own : OwnFrom w8.heap.size (fun pre W => (∃ v uq pp qs, AllQ w8.heap.size s O Bq w.heap.size r v uq pp qs pre W ∧ qs.length = xs.length + pre.length) ∧ Below w.heap.size w W) := by
    intro pre A C row ⟨⟨v, uq, pp, qs, h, hl⟩, hb⟩ hg hrow
    exact ⟨⟨v, uq, pp, qs, h.grow hg (fun q e => (hrow q e).2), hl⟩, hb.grown hg (by have := hB08.size; have := h.sz; omega) (fun q e => by have := (hrow q e).1; have := hB08.size; omega)⟩
  refine wpIn_rangeM rfl (by omega) (gf := 30) (lb := #[.pointer (some ⟨w7.heap.size, 0, none⟩)]) rfl trivial (enters_of Try.func30 (by kernel_rfl) rfl)
    (all_stops 3 w7.heap.size w8 s a8 cap8 xs Hbx.out (cell_of_heap HQ8.out.1 (i := 0) rfl) (by omega) r hr hx8) (fun h k => h.trans k) (fun W l o o' h hc => KpE.putObj W l o o' h hc) (Below.refl _ _) (fun _ => rfl)
    (fun pre W => (∃ v uq pp qs, AllQ w8.heap.size s O Bq w.heap.size r v uq pp qs pre W ∧ qs.length = xs.length + pre.length) ∧ Below w.heap.size w W)
    (fun pre _ W => (∃ v uq pp qs, AllQ w8.heap.size s O Bq w.heap.size r v uq pp qs pre W ∧ qs.length = xs.length + pre.length) ∧ Below w.heap.size w W)
    (fun _ _ _ => False) own (fun _ => own) (fun _ _ _ _ _ hs _ _ => hs)
    ⟨⟨_, _, _, xs, ⟨Nat.le_refl _, HR8.out, HbQ8.out, HO8.out, Rw.nil _, HQ8.out, fun g l e e2 => by simp [ob, endOf] at e2, fun g l e l0 e0 => by rw [(hr2 g l0 e0).2.2] at e; cases e; exact Nat.le_refl _⟩, rfl⟩, hB08⟩
    (fun _ _ _ => trivial) (fun pre x W1 W2 h e _ => by subst e; exact h) (fun pre W1 W2 _ h e _ => by subst e; exact h) (fun _ _ _ _ e => by subst e; exact KeepsFrom.refl _ _) (fun _ _ _ e => by subst e; exact KeepsFrom.refl _ _)
    (fun pre x a' W => a' = { tmps := #[.slice a xs.length cap, .int .i64 (k : Int), undef, undef, .pointer (some ⟨w.heap.size, 0, none⟩), .pointer (some ⟨Bq, 0, none⟩), .pointer (some ⟨O, 0, none⟩), .func (.func 30) #[] #[.pointer (some ⟨w7.heap.size, 0, none⟩)], .int .i64 x, .slice a xs.length cap, .int .i64 (xs.length : Int), .bool (decide (100 < (xs.length : Int))), undef, .slice a xs.length cap, .pointer (some ⟨s, 0, none⟩), .pointer (some ⟨s, 0, none⟩), .bool false, .int .i64 z, .slice a xs.length cap, .int .i64 (xs.length : Int), .int .i64 ((xs.length : Int) + 1), .int .i64 (k : Int), .pointer (some ⟨s, 0, none⟩), .func (.func 30) #[] #[.pointer (some ⟨Bq + 1, 0, none⟩)], .int .i64 (k : Int), v5, .slice a xs.length cap, .int .i64 (k : Int), .slice a k cap, .bool true, .bool false, .pointer (some ⟨s, 0, none⟩), .func (.func 30) #[] #[.pointer (some ⟨w7.heap.size, 0, none⟩)], .func (.func 30) #[] #[.pointer (some ⟨w7.heap.size, 0, none⟩)], .bool false, .func (.func 30) #[] #[.pointer (some ⟨w7.heap.size, 0, none⟩)], .int .i64 x, undef, undef, undef, undef, undef, undef, undef, undef, undef, undef, undef, undef, undef, undef, undef, undef, undef, undef, undef, undef, undef, undef, undef, undef, undef, undef, undef, undef], defers := [] } ∧ (∃ v uq pp qs, AllQ w8.heap.size s O Bq w.heap.size r v uq pp qs pre W ∧ qs.length = xs.length + pre.length) ∧ Below w.heap.size w W)
    (fun pre x a' _ A B row hs hg hr => ⟨hs.1, own pre A B row hs.2 hg hr⟩)
    ?assign ?body ?done ?stop
  case assign =>
    intro l pre x W K hm hK
    gi_wp2
    exact hK _ _ (KeepsFrom.refl _ _) (KpE.refl _ _) ⟨rfl, hm⟩
  case body =>
    rintro l pre x a' W hl ⟨r0, hr0⟩ ⟨rfl, ⟨v, uq, pp, qs, hA, hql⟩, hBW⟩ hpre
    have hlen : pre.length < xs.length := by have := hpre.length_le; simp at this; omega
    obtain ⟨y, ys, rfl⟩ : ∃ y ys, qs = y :: ys := by
      cases qs with
      | nil => simp at hql; omega
      | cons y ys => exact ⟨y, ys, rfl⟩
    have hB0s := HQ8.out.2.2
    have hyl : ys.length + 1 = xs.length + pre.length := by simpa using hql
    have HA := Lib.hid hA
    have hcq : W.cell? ⟨Bq, 0, none⟩ = some (.pointer (some ⟨s, 0, none⟩)) := cell_of_heap hA.bq (i := 0) rfl
    have hsW : s ≤ W.heap.size := by have := hA.q.lt; omega
    clear hA hql hpre
    gi_wp2_with fail
    refine ⟨trivial, ?_⟩
    refine (CallsIn.inRound l (callsIn_wide.2 (pop_some s W s 1000 uq pp y ys HA.out.q hsW))).mono ?_
    rintro e wa ⟨rfl, u1, ⟨p1, hQ1⟩, hF1, hE1⟩
    have HAa := Lib.hid (HA.out.pop (by omega) (by omega) hsO (fun g l e => by have := (hr2 g l e).1; omega) hQ1 hF1 hE1)
    have Hka : Hid (KeepsFrom 0 W wa ∧ KpE r W wa ∧ Below w.heap.size W wa) := Lib.hid ⟨FrQ.keeps hF1 HA.out.q.1 (fun g l e => by cases e), KpE.of_frq hF1 (fun g l e => ⟨(hr2 g l e).2.1, fun l' e' => by cases e'⟩), hF1.below (by omega) (fun g l e => by cases e) (by omega)⟩
    have hcq1 : wa.cell? ⟨Bq, 0, none⟩ = some (.pointer (some ⟨s, 0, none⟩)) := cell_of_heap HAa.out.bq (i := 0) rfl
    have hsa : s ≤ wa.heap.size := by have := hF1.size; omega
    clear hQ1 hF1 hE1 hcq
    gi_wp2_with fail
    have hBb : Below wa.heap.size wa (wa.alloc (.cells #[.int .i64 (wrap64 (-x)), .int .i64 7] 3)) := (Below.refl _ wa).alloc (Nat.le_refl _) _
    have hnb := heap_alloc_new wa (.cells #[.int .i64 (wrap64 (-x)), .int .i64 7] 3)
    obtain ⟨nb, hnb0⟩ : ∃ nb, wa.heap.size = nb := ⟨_, rfl⟩
    rw [hnb0] at hnb ⊢
    generalize wa.alloc (.cells #[.int .i64 (wrap64 (-x)), .int .i64 7] 3) = wb at hBb hnb ⊢
    have HAb := Lib.hid (HAa.out.below hBb)
    have hsrc : Src1 en wb (some ⟨nb, 0, none⟩) 2 [wrap64 (-x), 7] := .inr ⟨_, rfl, fun j y hy => by
      match j, hy with
      | 0, hy => cases hy; exact cell_of_heap hnb (i := 0) rfl
      | 1, hy => cases hy; exact cell_of_heap hnb (i := 1) rfl
      | j + 2, hy => simp at hy⟩
    have hsb : s ≤ wb.heap.size := by have := hBb.size; omega
    refine ⟨trivial, ?_⟩
    refine (CallsIn.inRound l (callsIn_wide.2 (push_yes s wb s 1000 u1 p1 ys HAb.out.q _ 2 2 [wrap64 (-x), 7] rfl hsrc hsb (by omega)))).mono ?_
    rintro e wc ⟨rfl, u2, hQ2, hF2, hE2⟩
    have hKp2 : KpE r wb wc := KpE.of_frq hF2 (fun g l e => ⟨(hr2 g l e).2.1, fun l' e' => HAb.out.far g l' e' l e⟩)
    have hKe2 := FrQ.keeps hF2 HAb.out.q.1 (Rw.cells HAb.out.q.2.1)
    have hBc := hF2.below (B := w.heap.size) (by omega) (fun g l e => by have := (HAb.out.q.2.1.end_ge g l e).1; omega) (by omega)
    have HAc := Lib.hid (HAb.out.push (by omega) (by omega) hsO (fun g l e => by have := (hr2 g l e).1; omega) hQ2 hF2 hE2)
    have Hkc : Hid (KeepsFrom 0 W wc ∧ KpE r W wc ∧ Below w.heap.size W wc) := Lib.hid ⟨(Hka.out.1.trans ⟨hBb.size, fun k o _ hk _ => (hBb.block k (lt_of_get hk)).trans hk⟩).trans hKe2,
      (Hka.out.2.1.trans (KpE.of_below hBb (fun g l e => by have := (hr2 g l e).1; have := HAa.out.sz; omega))).trans hKp2, (Hka.out.2.2.trans (hBb.mono (by omega))).trans hBc⟩
    clear hQ2 hF2 hE2 hKp2 hKe2 hBc hsrc hcq1 Hka hBb hnb
    have hsc := HAc.out.sz
    obtain ⟨av, cv, rfl, -, -, -⟩ := HAc.out.row.src
    have hco : wc.cell? ⟨O, 0, none⟩ = some (.slice av pre.length cv) := cell_of_heap HAc.out.bo (i := 0) rfl
    have ha : Below wc.heap.size wc (wc.alloc (.cells #[.int .i64 x] 3)) := (Below.refl _ wc).alloc (Nat.le_refl _) _
    have hn := heap_alloc_new wc (.cells #[.int .i64 x] 3)
    have hsx : Src1 en (wc.alloc (.cells #[.int .i64 x] 3)) (some ⟨wc.heap.size, 0, none⟩) 1 [x] := .inr ⟨_, rfl, fun j y hy => by
      cases j with
      | zero => cases hy; exact cell_of_heap hn (i := 0) rfl
      | succ j => simp at hy⟩
    clear hn
    gi_wp2_with (gi_at_builtin; refine wpListIn_append_rw (B := O + 1) one rfl _ _ 28 rfl Try.underlying28 hi hz0 hz1 hz2 rfl (.slice av pre.length cv) pre rfl (HAc.out.row.below ha) _ 1 1 [x] rfl rfl hsx (by simp; omega) (by simp; omega) (by have := ha.size; omega) ?_; intro v' w1 hR hF hE hN; obtain ⟨hS1, hS2, hS3⟩ := HAc.out.step (by omega) hBO hsO hF hE hR; have hb1 := (hF.block O (by have := ha.size; omega) (fun g l e => by have := (HAc.out.row.end_ge g l e).1; omega)).trans ((ha.block _ (by omega)).trans HAc.out.bo); have hc1 : w1.cell? ⟨O, 0, none⟩ = some (.slice av pre.length cv) := cell_of_heap hb1 (i := 0) rfl; have hf1 := frozen_of_heap hb1 0; clear hE hN hR hF; obtain ⟨a', cap', rfl, -, -, -⟩ := hS1.row.src; simp only [List.length_append, List.length_cons, List.length_nil, Nat.zero_add] at hS1 hS2 hS3; have hoc : (w1.setCell ⟨O, 0, none⟩ (.slice a' (pre.length + 1) cap')).cell? ⟨O, 0, none⟩ = some (.slice a' (pre.length + 1) cap') := cell_of_heap hS1.bo (i := 0) rfl)
    have hk4 := Hkc.out.1.trans hS2
    exact ⟨⟨hk4.size, fun k o _ => hk4.same k o (Nat.zero_le _)⟩, Hkc.out.2.1.trans (KpE.of_below hS3 (fun g l e => (hr2 g l e).1)), ⟨_, _, _, _, hS1, by simp; omega⟩, (hBW.trans Hkc.out.2.2).trans (hS3.mono (by omega))⟩
  case done =>
    rintro D Z W hD hZ ⟨⟨v, uq, pp, qs, hA, hql⟩, hBW⟩ hK
    have hZ' : Z = xs := hZ
    rw [hZ'] at hA hql
    clear hZ hZ' own hr hx8
    have HA := Lib.hid hA
    have Hql := Lib.hid hql
    have HK := Lib.hid hK
    obtain ⟨av, cv, rfl, -, -, -⟩ := hA.row.src
    have hco : W.cell? ⟨O, 0, none⟩ = some (.slice av xs.length cv) := cell_of_heap hA.bo (i := 0) rfl
    have hDW := lt_of_get hK
    have hin := callsIn_wide (n := 3).2 (ints_T W (.slice av xs.length cv) (.slice a xs.length cap) xs hA.row.ints (Hv.out.below hBW) (by omega))
    clear hA hql hK
    gi_wp2_with fail
    refine ⟨trivial, ?_⟩
    refine hin.mono ?_
    rintro e wa ⟨rfl, hBa⟩
    clear hin hco
    have hcq : wa.cell? ⟨Bq, 0, none⟩ = some (.pointer (some ⟨s, 0, none⟩)) := cell_of_heap (HA.out.below hBa).bq (i := 0) rfl
    gi_wp2_with fail
    refine ⟨trivial, ?_⟩
    refine (callsIn_wide.2 (len_T s wa s 1000 uq pp qs (HA.out.below hBa).q)).mono ?_
    rintro e wb ⟨rfl, rfl⟩
    rw [Hql.out]
    have f2 : (((xs.length + xs.length : Nat) : Int) = 2 * (xs.length : Int)) = True := eq_true (by omega)
    gi_wp2_with fail
    refine ⟨trivial, ?_⟩
    refine (callsIn_wide.2 (wakes_T wb)).mono ?_
    rintro e wc ⟨rfl, hBc⟩
    have hBWc := hBa.trans (hBc.mono hBa.size)
    have hrc := (HA.out.below hBWc).rb
    have hDc := (hBWc.block D hDW).trans HK.out
    have hCc := hBW.trans (hBWc.mono hBW.size)
    have hcc := cell_of_one hrc
    have hff := free_of_one hrc
    gi_wp2
    have hK' := (KeepsOthers.setCell wc ⟨w.heap.size, 0, none⟩ (.bool true)).same D _ hDc rfl
    refine ⟨by simp, .inl ⟨_, _, rfl, run_takeDeferred hK', ?_⟩⟩
    have hc5 := cell_kept (World.cell?_setCell_same' wc ⟨w.heap.size, 0, none⟩ (.bool true) (by rw [hcc]; rfl)) (grownBy_putObj' _ D (.deferred none)) (fun r e => by cases e; exact ⟨_, hK', rfl⟩)
    refine ⟨.bool true, ?_, rfl, ?_⟩
    · simp [results, Try.results4, go_sem, hc5]
    · exact (hCc.setCell (Nat.le_refl _) (.bool true)).trans (belowK_b (w := w) (Nat.le_refl _) _ D _ _ (by have := hB08.size; omega) hK' rfl rfl)
  case stop =>
    rintro D c pre W _ _ h _
    exact h.elim

theorem all_any (w : World) (v : Value) (xs : List Int) (hv : IntsOf w v xs) (z : Int) :
    Calls Try.prog 4 #[v, .int .i64 z] w fun e w' => e = .returned (.bool true) ∧ Below w.heap.size w w' := by
  by_cases h : xs.length ≤ 100
  · exact all_walk w v xs z hv h
  · obtain ⟨a, cap, rfl⟩ := hv.form
    clear hv
    have f1 : ((100 : Int) < (xs.length : Int)) = True := eq_true (by omega)
    clear h
    have bR := heap_alloc_new w (.cells #[.bool false] 4)
    have hB0 : Below w.heap.size w (w.alloc (.cells #[.bool false] 4)) := (Below.refl _ w).alloc (Nat.le_refl _) _
    refine (callsIn_wide (n := 4)).1 ?_
    refine callsIn_of_wp_marks Try.func4 rfl trivial ?_ rfl
    simp only [Try.ntmps4, List.size_toArray, List.length_cons, List.length_nil, Nat.reduceAdd, Nat.reduceSub, Array.replicate_succ, Array.replicate_zero, List.push_toArray, List.append_toArray, List.nil_append, List.cons_append]
    gi_wp2_with fail
    refine ⟨trivial, ?_⟩
    refine (callsIn_wide.2 (wakes_T _)).mono ?_
    rintro e w1 ⟨rfl, hb⟩
    have h1 := (hb.block _ (lt_of_block bR)).trans bR
    have h2 := hB0.trans (hb.mono hB0.size)
    have hcc := cell_of_one h1
    have hff := free_of_one h1
    gi_wp2_with fail
    have hc5 := World.cell?_setCell_same' w1 ⟨w.heap.size, 0, none⟩ (.bool true) (by rw [hcc]; rfl)
    refine ⟨.bool true, ?_, rfl, ?_⟩
    · simp [results, Try.results4, go_sem, hc5]
    · exact h2.setCell (Nat.le_refl _) _

end Go.Proofs.Ytckdojneogeblaa
