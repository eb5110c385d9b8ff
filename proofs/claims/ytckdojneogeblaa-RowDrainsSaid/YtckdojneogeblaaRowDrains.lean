/- RowDrains returns true, whatever it is given. Conditions: none but that the list lies in memory. -/
import Derived.Test.YtckdojneogeblaaRowAll
import Derived.Test.YtckdojneogeblaaQDrain
namespace Go.Proofs.Ytckdojneogeblaa
open Go Go.RowKit Go.Shelf QI

attribute [local go_sem] Oper.semAt_some

theorem IntsOf.drop {w : World} {a : Option Addr} {xs : List Int} {cap n : Nat} (h : IntsOf w (.slice a xs.length cap) xs) (hn : n ≤ xs.length) (a' : Option Addr) (cap' : Nat) (ha : ∀ b off, a = some ⟨b, off, none⟩ → n < xs.length → a' = some ⟨b, off + n, none⟩) (hc : xs.length - n ≤ cap') (hno : a' = none → xs.drop n = []) : IntsOf w (.slice a' (xs.length - n) cap') (xs.drop n) := by
  refine ⟨a', cap', by simp, by simpa using hc, hno, fun i z hz => ?_⟩
  rw [List.getElem?_drop] at hz
  obtain ⟨b, off, e, hz'⟩ := h.cell0 (n + i) z hz
  have hi := (List.getElem?_eq_some_iff.1 hz).1
  exact ⟨b, off + n, ha b off e (by omega), by rw [Nat.add_assoc]; exact hz'⟩

set_option maxHeartbeats 800000 in
theorem copy_T (w : World) (v : Value) (xs : List Int) (h : IntsOf w v xs) (hs : xs.length ≤ 100000) (h0 : xs ≠ []) :
    Calls Try.prog 22 #[v] w fun e w' => ∃ v', e = .returned v' ∧ Rw en 3 w.heap.size w' v' xs ∧ Below w.heap.size w w' := by
  obtain ⟨i0, hi, hz0, hz1, hz2⟩ := info_parts' infoT
  obtain ⟨a, cap, rfl⟩ := h.form
  have hs1 := h.src
  go_enter Try.func22, Try.ntmps22
  go_wp2_with (at_builtin; refine wpList_append_rw (B := w.heap.size) one rfl _ _ 28 rfl Try.underlying28 hi hz0 hz1 hz2 rfl (.slice none 0 0) [] rfl (Rw.nil _) a xs.length cap xs rfl rfl hs1 (by simp; omega) (by simp; omega) (Nat.le_refl _) ?_; intro v1 w5 hR1 hF1 hE1 hN1)
  go_ret
  exact ⟨_, rfl, by simpa using hR1, hF1.below (fun g l e => by cases e) (Nat.le_refl _)⟩

/-- A slice expression, not laid open. -/
noncomputable def sliceS (t : TypeId) (x : Value) (lo hi mx : Option Value) : Sem Value := Instr.sliceAt t x lo hi mx

theorem slice_fold (t : TypeId) (x : Value) (lo hi mx : Option Value) : Instr.sliceAt t x lo hi mx = sliceS t x lo hi mx := rfl

theorem run_take (a : Option Addr) (n cap k : Nat) (hk : k ≤ n) (hn : n ≤ cap) (h5 : n ≤ 100000) (W : World) : (sliceS 28 (.slice a n cap) none (some (.int .i64 k)) none).run Try.prog W = .ok (.slice a k cap) W := by
  have h1 : 0 ≤ (k : Int) := by omega
  have h2 : (k : Int) ≤ cap := by omega
  unfold sliceS
  cases a <;> go_simp

theorem run_from (a : Option Addr) (n cap k : Nat) (hk : k ≤ n) (hn : n ≤ cap) (h5 : n ≤ 100000) (W : World) : (sliceS 28 (.slice a n cap) (some (.int .i64 k)) none none).run Try.prog W = .ok (.slice (if cap = k then a else a.map (·.add k)) (n - k) (cap - k)) W := by
  have h1 : 0 ≤ (k : Int) := by omega
  have h2 : (k : Int) ≤ n := by omega
  unfold sliceS
  cases a <;> go_simp

theorem IntsOf.from {w : World} {a : Option Addr} {xs : List Int} {cap k : Nat} (h : IntsOf w (.slice a xs.length cap) xs) (hk : k ≤ xs.length) (hc : xs.length ≤ cap) : IntsOf w (.slice (if cap = k then a else a.map (·.add k)) (xs.length - k) (cap - k)) (xs.drop k) := by
  obtain ⟨a', cap', e, -, hno, h0⟩ := h
  simp only [Value.slice.injEq] at e
  obtain ⟨rfl, -, rfl⟩ := e
  refine IntsOf.drop ⟨a, cap, rfl, hc, hno, h0⟩ hk _ _ (fun b off e hlt => ?_) (by omega) (fun e => ?_)
  · subst e
    rw [if_neg (by omega), Option.map_some, Addr.add_lit]
  · split at e
    · rw [hno e]; simp
    · rw [Option.map_eq_none_iff] at e; rw [hno e]; simp

attribute [local go_sem ↓] slice_fold

set_option pp.deepTerms true
set_option pp.maxSteps 1000000
set_option maxRecDepth 100000 in
set_option maxHeartbeats 4000000 in
theorem drains_walk (w : World) (v : Value) (xs : List Int) (z1 z2 : Int) (hv : IntsOf w v xs) (hx : xs.length ≤ 100) :
    Calls Try.prog 5 #[v, .int .i64 z1, .int .i64 z2] w fun e w' => e = .returned (.bool true) ∧ Below w.heap.size w w' := by
  obtain ⟨a, cap, rfl, hxc⟩ := hv.form2
  have Hv := Lib.hid hv
  clear hv
  obtain ⟨i0, hi, hz0, hz1, hz2⟩ := info_parts' infoT
  refine (callsIn_wide (n := 4)).1 ?_
  refine callsIn_of_wp_marks Try.func5 rfl trivial ?_ rfl
  simp only [Try.ntmps5, List.size_toArray, List.length_cons, List.length_nil, Nat.reduceAdd, Nat.reduceSub, Array.replicate_succ, Array.replicate_zero, List.push_toArray, List.append_toArray, List.nil_append, List.cons_append]
  have hq1 := eq_nilFunc
  gi_wp2_with fail
  have hB0 : Below w.heap.size w ((w.alloc (.cells #[.int .i64 z2] 3)).alloc (.cells #[.bool false] 4)) := ((Below.refl _ w).alloc (Nat.le_refl _) _).alloc (by simp) _
  have bM : ((w.alloc (.cells #[.int .i64 z2] 3)).alloc (.cells #[.bool false] 4)).heap[w.heap.size]? = some (.cells #[.int .i64 z2] 3 (0, 0)) := (Below.heap_alloc _ _ _ (by simp)).trans (heap_alloc_new w (.cells #[.int .i64 z2] 3))
  have bR : ((w.alloc (.cells #[.int .i64 z2] 3)).alloc (.cells #[.bool false] 4)).heap[w.heap.size + 1]? = some (.cells #[.bool false] 4 (0, 0)) := by
    have := heap_alloc_new (w.alloc (.cells #[.int .i64 z2] 3)) (.cells #[.bool false] 4)
    simpa only [World.size_alloc] using this
  have hsz0 : ((w.alloc (.cells #[.int .i64 z2] 3)).alloc (.cells #[.bool false] 4)).heap.size = w.heap.size + 2 := by simp
  generalize (w.alloc (.cells #[.int .i64 z2] 3)).alloc (.cells #[.bool false] 4) = W0 at hB0 bM bR hsz0 ⊢
  refine ⟨trivial, ?_⟩
  refine (callsIn_wide.2 (made_T W0 _ xs (Hv.out.below hB0) (by omega))).mono ?_
  rintro e w1 ⟨rfl, ⟨u, hQ1⟩, hB1⟩
  rw [hsz0] at hQ1 hB1 ⊢
  obtain ⟨s, hs⟩ : ∃ s, w.heap.size + 2 = s := ⟨_, rfl⟩
  rw [hs] at hQ1 hB1 hsz0 ⊢
  have Hs := Lib.hid hs
  have HQ1 := Lib.hid hQ1
  have HR1 := Lib.hid ((hB1.block (w.heap.size + 1) (by omega)).trans bR)
  have HM1 := Lib.hid ((hB1.block w.heap.size (by omega)).trans bM)
  have hB01 := hB0.trans (hB1.mono (by omega))
  have hs1 := hQ1.lt
  clear hQ1 bR bM hs
  gi_wp2_with fail
  have bQ := heap_alloc_new w1 (.cells #[.pointer (some ⟨s, 0, none⟩)] 23)
  have hB2 : Below w1.heap.size w1 (w1.alloc (.cells #[.pointer (some ⟨s, 0, none⟩)] 23)) := (Below.refl _ w1).alloc (Nat.le_refl _) _
  obtain ⟨Bq, hBq⟩ : ∃ Bq, w1.heap.size = Bq := ⟨_, rfl⟩
  have hsz2 : (w1.alloc (.cells #[.pointer (some ⟨s, 0, none⟩)] 23)).heap.size = Bq + 1 := by simp [hBq]
  rw [hBq] at bQ hB2 hs1 ⊢
  generalize w1.alloc (.cells #[.pointer (some ⟨s, 0, none⟩)] 23) = w2 at bQ hB2 hsz2 ⊢
  have hs0 := Hs.out
  have HQ2 := Lib.hid (HQ1.out.below (hBq.symm ▸ hB2))
  have HR2 := Lib.hid ((hB2.block (w.heap.size + 1) (by omega)).trans HR1.out)
  have HM2 := Lib.hid ((hB2.block w.heap.size (by omega)).trans HM1.out)
  have hB02 : Below w.heap.size w w2 := hB01.trans (hB2.mono (by omega))
  have HbQ := Lib.hid bQ
  clear bQ HQ1 hB2 hB01 HR1 HM1 hs0
  refine ⟨trivial, ?_⟩
  refine (callsIn_wide.2 (within_any w2 z1 (xs.length + 1) (by omega) (by omega))).mono ?_
  rintro e W ⟨⟨k, rfl, hk⟩, rfl⟩
  have hk2 : k ≤ xs.length := by omega
  have hk3 : k ≤ cap := by omega
  have hqc : W.drew.cell? ⟨Bq, 0, none⟩ = some (.pointer (some ⟨s, 0, none⟩)) := cell_of_heap (w := W) HbQ.out (i := 0) rfl
  have Hsz2 := Lib.hid hsz2
  clear hk hsz2
  have hBd : Below W.heap.size W W.drew := (Below.refl _ W).drew
  have hsw : w.heap.size ≤ s := by have := Hs.out; omega
  have oldB : ∀ W', FrQ s none W W' → Below w.heap.size w W' := fun W' h => hB02.trans (h.below hsw (fun g l e => by cases e) hB02.size)
  have hBQs : Bq ≠ s := by omega
  have boxB : ∀ W', FrQ s none W W' → W'.heap[Bq]? = some (.cells #[.pointer (some ⟨s, 0, none⟩)] 23 (0, 0)) := fun W' h => (h.block Bq (lt_of_block HbQ.out) hBQs (fun g l e => by cases e)).trans HbQ.out
  have hDrain : CallsIn Fence.wide 3 Try.prog 21 #[.pointer (some ⟨s, 0, none⟩)] W.drew fun e w' => e = .returned (.func (.func 31) #[] #[.pointer (some ⟨W.heap.size, 0, none⟩)]) ∧ Hid (Below W.heap.size W w' ∧ w'.heap[W.heap.size]? = some (.cells #[.pointer (some ⟨s, 0, none⟩)] 23 (0, 0))) :=
    (callsIn_wide.2 (drain_T W.drew (some ⟨s, 0, none⟩))).mono fun e w' h => ⟨h.1, Lib.hid ⟨by rw [h.2]; exact hBd.alloc (Nat.le_refl _) _, by rw [h.2]; exact heap_alloc_new W.drew _⟩⟩
  have hFirst : ∀ w4, Hid (Below W.heap.size W w4 ∧ w4.heap[W.heap.size]? = some (.cells #[.pointer (some ⟨s, 0, none⟩)] 23 (0, 0))) → CallsIn Fence.wide 3 Try.prog 20 #[.func (.func 31) #[] #[.pointer (some ⟨W.heap.size, 0, none⟩)], .int .i64 k] w4 fun e w' => ∃ v, e = .returned v ∧ Hid (IntsOf w' v (xs.take k) ∧ (∃ u pp, QAt s w' s 1000 u pp (xs.drop k)) ∧ FrQ s none W w') := by
    intro w4 h4
    refine (callsIn_wide.2 (first_drain w4 W.heap.size s 1000 u 0 xs k h4.out.2 (HQ2.out.below h4.out.1) (by omega))).mono ?_
    rintro e w' ⟨v, rfl, hI, hQ, hF⟩
    exact ⟨v, rfl, Lib.hid ⟨hI, hQ, (FrQ.of_below h4.out.1).trans hF (fun g l e => by cases e)⟩⟩
  have hInts1 : ∀ w5 v5, Hid (IntsOf w5 v5 (xs.take k) ∧ (∃ u pp, QAt s w5 s 1000 u pp (xs.drop k)) ∧ FrQ s none W w5) → CallsIn Fence.wide 3 Try.prog 16 #[v5, .slice a k cap] w5 fun e w' => e = .returned (.bool true) ∧ w'.cell? ⟨Bq, 0, none⟩ = some (.pointer (some ⟨s, 0, none⟩)) ∧ Hid ((∃ u pp, QAt s w' s 1000 u pp (xs.drop k)) ∧ FrQ s none W w') := by
    intro w5 v5 h5
    refine (callsIn_wide.2 (ints_T w5 v5 (.slice a k cap) (xs.take k) h5.out.1 ((Hv.out.below (oldB w5 h5.out.2.2)).take hk2) (by simp; omega))).mono ?_
    rintro e w' ⟨rfl, hB⟩
    have hF : FrQ s none W w' := h5.out.2.2.trans (FrQ.of_below (r := none) hB) (fun g l e => by cases e)
    obtain ⟨u, pp, hQ⟩ := h5.out.2.1
    exact ⟨rfl, cell_of_heap (boxB w' hF) (i := 0) rfl, Lib.hid ⟨⟨u, pp, hQ.below hB⟩, hF⟩⟩
  have hAll : ∀ w6, Hid ((∃ u pp, QAt s w6 s 1000 u pp (xs.drop k)) ∧ FrQ s none W w6) → CallsIn Fence.wide 3 Try.prog 18 #[.pointer (some ⟨s, 0, none⟩)] w6 fun e w' => e = .returned (.func (.func 30) #[] #[.pointer (some ⟨w6.heap.size, 0, none⟩)]) ∧ Hid (w'.heap[w6.heap.size]? = some (.cells #[.pointer (some ⟨s, 0, none⟩)] 23 (0, 0)) ∧ (∃ u pp, QAt s w' s 1000 u pp (xs.drop k)) ∧ FrQ s none W w') := by
    intro w6 h6
    refine (callsIn_wide.2 (all_T w6 (some ⟨s, 0, none⟩))).mono ?_
    rintro e w' ⟨rfl, hw⟩
    have hB : Below w6.heap.size w6 w' := by rw [hw]; exact (Below.refl _ w6).alloc (Nat.le_refl _) _
    obtain ⟨u, pp, hQ⟩ := h6.out.1
    exact ⟨rfl, Lib.hid ⟨by rw [hw]; exact heap_alloc_new w6 _, ⟨u, pp, hQ.below hB⟩, h6.out.2.trans (FrQ.of_below (r := none) hB) (fun g l e => by cases e)⟩⟩
  have hList : ∀ n6 w7, Hid (w7.heap[n6]? = some (.cells #[.pointer (some ⟨s, 0, none⟩)] 23 (0, 0)) ∧ (∃ u pp, QAt s w7 s 1000 u pp (xs.drop k)) ∧ FrQ s none W w7) → CallsIn Fence.wide 3 Try.prog 17 #[.func (.func 30) #[] #[.pointer (some ⟨n6, 0, none⟩)]] w7 fun e w' => ∃ v, e = .returned v ∧ Hid (IntsOf w' v (xs.drop k) ∧ (∃ u pp, QAt s w' s 1000 u pp (xs.drop k)) ∧ FrQ s none W w') := by
    intro n6 w7 h7
    obtain ⟨u, pp, hQ⟩ := h7.out.2.1
    obtain ⟨au, cu, rfl, -, -, -⟩ := hQ.2.1.src
    refine (callsIn_wide.2 (list_all w7 n6 s au cu (xs.drop k) h7.out.1 (cell_of_heap hQ.1 (i := 0) rfl) (by simp; omega) hQ.2.1.ints)).mono ?_
    rintro e w' ⟨v, rfl, hI, hB⟩
    exact ⟨v, rfl, Lib.hid ⟨hI, ⟨_, pp, hQ.below hB⟩, h7.out.2.2.trans (FrQ.of_below (r := none) hB) (fun g l e => by cases e)⟩⟩
  have hInts2 : ∀ w8 v8, Hid (IntsOf w8 v8 (xs.drop k) ∧ (∃ u pp, QAt s w8 s 1000 u pp (xs.drop k)) ∧ FrQ s none W w8) → CallsIn Fence.wide 3 Try.prog 16 #[v8, .slice (if cap = k then a else a.map (·.add k)) (xs.length - k) (cap - k)] w8 fun e w' => e = .returned (.bool true) ∧ Hid ((∃ u pp, QAt s w' s 1000 u pp (xs.drop k)) ∧ FrQ s none W w') := by
    intro w8 v8 h8
    refine (callsIn_wide.2 (ints_T w8 v8 _ (xs.drop k) h8.out.1 ((Hv.out.below (oldB w8 h8.out.2.2)).from hk2 hxc) (by simp; omega))).mono ?_
    rintro e w' ⟨rfl, hB⟩
    obtain ⟨u, pp, hQ⟩ := h8.out.2.1
    exact ⟨rfl, Lib.hid ⟨⟨u, pp, hQ.below hB⟩, h8.out.2.2.trans (FrQ.of_below (r := none) hB) (fun g l e => by cases e)⟩⟩
  have hsl1 := run_take a xs.length cap k hk2 hxc (by omega)
  have hsl2 := run_from a xs.length cap k hk2 hxc (by omega)
  obtain ⟨A2, hA2⟩ : ∃ A2, (if cap = k then a else a.map (·.add k)) = A2 := ⟨_, rfl⟩
  rw [hA2] at hInts2
  simp only [hA2] at hsl2
  have HA2 := Lib.hid hA2
  clear hA2
  obtain ⟨d, hd⟩ : ∃ d, xs.length - k = d := ⟨_, rfl⟩
  rw [hd] at hInts2
  simp only [hd] at hsl2
  have Hd := Lib.hid hd
  clear hd
  gi_wp2_with fail
  refine wpIn_near _ ?_ (fun _ _ h => h)
  gi_region_with (first
      | (refine ⟨trivial, ?_⟩; (with_reducible refine hDrain.mono ?_); rintro e w4 ⟨rfl, h4⟩)
      | (refine ⟨trivial, ?_⟩; (with_reducible refine (hFirst w4 h4).mono ?_); rintro e w5 ⟨v5, rfl, h5⟩)
      | (refine ⟨trivial, ?_⟩; (with_reducible refine (hInts1 w5 v5 h5).mono ?_); rintro e w6 ⟨rfl, hq6, h6⟩)
      | (refine ⟨trivial, ?_⟩; (with_reducible refine (hAll w6 h6).mono ?_); rintro e w7 ⟨rfl, h7⟩)
      | (refine ⟨trivial, ?_⟩; (with_reducible refine (hList w6.heap.size w7 h7).mono ?_); rintro e w8 ⟨v8, rfl, h8⟩)
      | (refine ⟨trivial, ?_⟩; (with_reducible refine (hInts2 w8 v8 h8).mono ?_); rintro e w9 ⟨rfl, h9⟩)
      | fail "no arm")
  dsimp only [Near]
  have hF9 := h9.out.2
  have HQ9 := Lib.hid h9.out.1
  have hB09 := oldB w9 hF9
  have hw9 := hF9.size
  have HbQ9 := Lib.hid (boxB w9 hF9)
  have HR9 := Lib.hid ((hF9.block (w.heap.size + 1) (lt_of_block HR2.out) (by have := Hs.out; omega) (fun g l e => by cases e)).trans HR2.out)
  have hM9 := (hF9.block w.heap.size (lt_of_block HM2.out) (by have := Hs.out; omega) (fun g l e => by cases e)).trans HM2.out
  have hmc9 : w9.cell? ⟨w.heap.size, 0, none⟩ = some (.int .i64 z2) := cell_of_heap hM9 (i := 0) rfl
  have hmf9 := frozen_of_heap hM9 0
  have HM9 := Lib.hid hM9
  clear hDrain hFirst hInts1 hAll hList hInts2 h4 h5 h6 h7 h8 h9 hqc hq6 hM9
  gi_wp2_with fail
  refine ⟨trivial, ?_⟩
  refine (callsIn_wide.2 (within_any w9 z2 20 (by omega) (by omega))).mono ?_
  rintro e wa ⟨⟨mm, rfl, hmm⟩, rfl⟩
  have hmm2 : mm < 20 := by omega
  clear hmm hmc9
  have hmc9 : ∃ u0, wa.cell? ⟨w.heap.size, 0, none⟩ = some u0 := ⟨_, cell_of_heap HM9.out (i := 0) rfl⟩
  obtain ⟨u0, hmc9⟩ := hmc9
  have hcqa : ((wa.setCell ⟨w.heap.size, 0, none⟩ (.int .i64 mm)).alloc (.cells #[.slice none 0 0] 28)).cell? ⟨Bq, 0, none⟩ = some (.pointer (some ⟨s, 0, none⟩)) := by
    have h1 : (wa.setCell ⟨w.heap.size, 0, none⟩ (.int .i64 mm)).heap[Bq]? = some (.cells #[.pointer (some ⟨s, 0, none⟩)] 23 (0, 0)) := (Below.heap_setCell _ _ _ _ (by show Bq ≠ w.heap.size; have := Hs.out; omega)).trans HbQ9.out
    exact cell_of_heap ((Below.heap_alloc _ _ _ (lt_of_block h1)).trans h1) (i := 0) rfl
  gi_wp2_with fail
  have hsO0 := Hs.out
  obtain ⟨u9, pp9, hQ9⟩ := HQ9.out
  have hQb : QAt s (wa.setCell ⟨w.heap.size, 0, none⟩ (.int .i64 mm)) s 1000 u9 pp9 (xs.drop k) := hQ9.setFar (by omega) (Nat.le_refl _) 0 _
  have hMb := setCell_heap (i := 0) HM9.out (.int .i64 mm)
  have hRb : (wa.setCell ⟨w.heap.size, 0, none⟩ (.int .i64 mm)).heap[w.heap.size + 1]? = some (.cells #[.bool false] 4 (0, 0)) := (Below.heap_setCell _ _ _ _ (by show w.heap.size + 1 ≠ w.heap.size; omega)).trans HR9.out
  have hbQb : (wa.setCell ⟨w.heap.size, 0, none⟩ (.int .i64 mm)).heap[Bq]? = some (.cells #[.pointer (some ⟨s, 0, none⟩)] 23 (0, 0)) := (Below.heap_setCell _ _ _ _ (by show Bq ≠ w.heap.size; omega)).trans HbQ9.out
  have hBb : Below w.heap.size w (wa.setCell ⟨w.heap.size, 0, none⟩ (.int .i64 mm)) := hB09.setCell (Nat.le_refl _) _
  have hszb : (wa.setCell ⟨w.heap.size, 0, none⟩ (.int .i64 mm)).heap.size = wa.heap.size := by simp [World.setCell]
  have hcqa2 := hcqa
  generalize wa.setCell ⟨w.heap.size, 0, none⟩ (.int .i64 mm) = Wb at hQb hMb hRb hbQb hBb hszb hcqa hcqa2 ⊢
  have bO := heap_alloc_new Wb (.cells #[.slice none 0 0] 28)
  have hBc : Below Wb.heap.size Wb (Wb.alloc (.cells #[.slice none 0 0] 28)) := (Below.refl _ Wb).alloc (Nat.le_refl _) _
  obtain ⟨O, hO⟩ : ∃ O, Wb.heap.size = O := ⟨_, rfl⟩
  have hszc : (Wb.alloc (.cells #[.slice none 0 0] 28)).heap.size = O + 1 := by simp [hO]
  have hOa : wa.heap.size = O := by omega
  rw [hO] at bO hBc
  generalize Wb.alloc (.cells #[.slice none 0 0] 28) = Wc at bO hBc hszc hcqa hcqa2 ⊢
  have Hszc := Lib.hid hszc
  clear hszc hcqa2 hszb
  refine ⟨trivial, ?_⟩
  refine (callsIn_wide.2 (drain_T Wc (some ⟨s, 0, none⟩))).mono ?_
  rintro e wd ⟨rfl, hwd⟩
  have hBd2 : Below Wc.heap.size Wc wd := by rw [hwd]; exact (Below.refl _ Wc).alloc (Nat.le_refl _) _
  have hbd : wd.heap[Wc.heap.size]? = some (.cells #[.pointer (some ⟨s, 0, none⟩)] 23 (0, 0)) := by rw [hwd]; exact heap_alloc_new Wc _
  clear hwd
  have hBbd : Below O Wb wd := hBc.trans (hBd2.mono (by rw [Hszc.out]; omega))
  have hQd : QAt s wd s 1000 u9 pp9 (xs.drop k) := hQb.below (hO.symm ▸ hBbd)
  have HMd := Lib.hid ((hBbd.block _ (by have := lt_of_block hMb; omega)).trans hMb)
  have HRd := Lib.hid ((hBbd.block _ (by have := lt_of_block hRb; omega)).trans hRb)
  have HbQd := Lib.hid ((hBbd.block _ (by have := lt_of_block hbQb; omega)).trans hbQb)
  have HOd := Lib.hid ((hBd2.block O (by rw [Hszc.out]; omega)).trans bO)
  have hB0d : Below w.heap.size w wd := hBb.trans (hBbd.mono (by have := hBb.size; omega))
  have Hbd := Lib.hid hbd
  have HQd := Lib.hid hQd
  have hsO : s < O := by have := hQb.lt; omega
  have hBO : Bq < O := by have := lt_of_block hbQb; omega
  have hOd : O < wd.heap.size := lt_of_block HOd.out
  clear hbd hQd hQb hMb hRb hbQb bO hcqa hmc9 hmf9 hQ9
  gi_wp2_with fail
  obtain ⟨left, hleft⟩ : ∃ left, xs.drop k = left := ⟨_, rfl⟩
  have Hleft := Lib.hid hleft
  rw [hleft] at HQd
  clear hleft HQ9
  have hll : left.length ≤ 100 := by rw [← Hleft.out, List.length_drop]; omega
  obtain ⟨Bd, hBdd⟩ : ∃ Bd, Wc.heap.size = Bd := ⟨_, rfl⟩
  have hBdO : O < Bd := by have := Hszc.out; omega
  rw [hBdd] at Hbd ⊢
  have hRbO : w.heap.size + 1 < O := by have := Hs.out; omega
  have hRbs : w.heap.size + 1 ≠ s := by have := Hs.out; omega
  have hMs : w.heap.size < s := by have := Hs.out; omega
  have own : OwnFrom wd.heap.size (fun pre W => (∃ v uq pp, DI wd.heap.size s O Bq (w.heap.size + 1) w.heap.size Bd mm v uq pp (dst left mm pre) pre W) ∧ Below w.heap.size w W) := by
    intro pre A C row ⟨⟨v, uq, pp, h⟩, hb⟩ hg hrow
    exact ⟨⟨v, uq, pp, h.grow hg (fun q e => (hrow q e).2)⟩, hb.grown hg (by have := hB0d.size; have := h.a.sz; omega) (fun q e => by have := (hrow q e).1; have := hB0d.size; omega)⟩
  have ownm : ∀ x, OwnFrom wd.heap.size (fun pre W => (∃ v uq pp t, DI wd.heap.size s O Bq (w.heap.size + 1) w.heap.size Bd mm v uq pp t pre W ∧ dst left mm pre = x :: t) ∧ Below w.heap.size w W) := by
    intro x pre A C row ⟨⟨v, uq, pp, t, h, ht⟩, hb⟩ hg hrow
    exact ⟨⟨v, uq, pp, t, h.grow hg (fun q e => (hrow q e).2), ht⟩, hb.grown hg (by have := hB0d.size; have := h.a.sz; omega) (fun q e => by have := (hrow q e).1; have := hB0d.size; omega)⟩
  refine wpIn_rangeM rfl (by omega) (gf := 31) (lb := #[.pointer (some ⟨Bd, 0, none⟩)]) rfl trivial (enters_of Try.func31 (by kernel_rfl) rfl)
    (drain_stops 3 Bd s 1000 wd (dT left mm) (dst left mm) (dst_head left mm) (dst_end left mm)) (fun _ _ => trivial) (fun _ _ _ _ _ _ => trivial) (Below.refl _ _) (fun _ => rfl)
    (fun pre W => (∃ v uq pp, DI wd.heap.size s O Bq (w.heap.size + 1) w.heap.size Bd mm v uq pp (dst left mm pre) pre W) ∧ Below w.heap.size w W)
    (fun pre x W => (∃ v uq pp t, DI wd.heap.size s O Bq (w.heap.size + 1) w.heap.size Bd mm v uq pp t pre W ∧ dst left mm pre = x :: t) ∧ Below w.heap.size w W)
    (fun _ _ _ => False) own ownm (fun _ _ _ _ _ hs _ _ => hs)
    ⟨⟨.slice none 0 0, u9, pp9, ⟨⟨Nat.le_refl _, HRd.out, HbQd.out, HOd.out, Rw.nil _, by rw [dst_nil]; exact HQd.out, fun g l e e2 => by simp [ob, endOf] at e2, fun g l e l0 e0 => by cases e0⟩, HMd.out, Hbd.out⟩⟩, hB0d⟩
    (fun pre W h => by obtain ⟨⟨v, uq, pp, h⟩, -⟩ := h; exact ⟨h.d, uq, pp, h.a.q⟩)
    (fun pre x W1 W2 h hm _ => by
      obtain ⟨⟨v, uq, pp, h⟩, hb⟩ := h
      obtain ⟨u', pp', u2, pp2, t, ht, hQ, hQ2, hF, hE⟩ := hm
      obtain rfl := qat_inj h.a.q hQ
      exact ⟨⟨v, u2, pp2, t, h.pop hRbs hBQs hsO hMs hBdO hQ2 hF hE, ht⟩, hb.trans (hF.below hsw (fun g l e => by cases e) (by have := hB0d.size; have := h.a.sz; omega))⟩)
    (fun pre W1 W2 _ h hB _ => by
      obtain ⟨⟨v, uq, pp, h⟩, hb⟩ := h
      exact ⟨⟨v, uq, pp, h.below hB⟩, hb.trans (hB.mono (by have := hB0d.size; have := h.a.sz; omega))⟩)
    (fun _ _ _ _ h => dmv_keeps h) (fun _ _ _ h => dme_keeps h)
    (fun pre x a' Wx => a' = { tmps := #[.slice a xs.length cap, .int .i64 (k : Int), .int .i64 z2, undef, undef, .pointer (some ⟨w.heap.size, 0, none⟩), .pointer (some ⟨w.heap.size + 1, 0, none⟩), .pointer (some ⟨Bq, 0, none⟩), .slice A2 d (cap - k), .pointer (some ⟨O, 0, none⟩), .int .i64 x, undef, undef, .slice a xs.length cap, .int .i64 (xs.length : Int), .bool (decide (100 < (xs.length : Int))), undef, .slice a xs.length cap, .pointer (some ⟨s, 0, none⟩), .pointer (some ⟨s, 0, none⟩), .bool false, .int .i64 z1, .slice a xs.length cap, .int .i64 (xs.length : Int), .int .i64 ((xs.length : Int) + 1), .int .i64 (k : Int), .pointer (some ⟨s, 0, none⟩), .func (.func 31) #[] #[.pointer (some ⟨W.heap.size, 0, none⟩)], .int .i64 (k : Int), v5, .slice a xs.length cap, .int .i64 (k : Int), .slice a k cap, .bool true, .bool false, .bool false, .pointer (some ⟨s, 0, none⟩), .func (.func 30) #[] #[.pointer (some ⟨w6.heap.size, 0, none⟩)], v8, .slice a xs.length cap, .int .i64 (k : Int), .slice A2 d (cap - k), .bool true, .bool false, .bool false, .slice a xs.length cap, .int .i64 (k : Int), .slice A2 d (cap - k), .int .i64 z2, .int .i64 (mm : Int), .pointer (some ⟨s, 0, none⟩), .func (.func 31) #[] #[.pointer (some ⟨Bd, 0, none⟩)], .int .i64 x, undef, undef, undef, undef, undef, undef, undef, undef, undef, undef, undef, undef, undef, undef, undef, undef, undef, undef, undef, undef, undef, undef, undef, undef, undef, undef, undef, undef, undef, undef, undef, undef, undef, undef, undef, undef, undef, undef, undef, undef, undef, undef, undef, undef, undef, undef, undef, undef, undef, undef, undef, undef, undef, undef], defers := [] } ∧ (∃ v uq pp t, DI wd.heap.size s O Bq (w.heap.size + 1) w.heap.size Bd mm v uq pp t pre Wx ∧ dst left mm pre = x :: t) ∧ Below w.heap.size w Wx)
    (fun pre x a' _ A B row hs hg hr => ⟨hs.1, ownm x pre A B row hs.2 hg hr⟩)
    ?assign ?body ?done ?stop
  case assign =>
    intro l pre x Wy K hm hK
    gi_wp2
    exact hK _ _ (KeepsFrom.refl _ _) trivial ⟨rfl, hm⟩
  case body =>
    rintro l pre x a' W2 hl ⟨r0, hr0⟩ ⟨rfl, ⟨v, uq, pp, t, hA, ht⟩, hBW⟩ hpre
    have hlen : pre.length < 120 := by
      have h1 := hpre.length_le
      have h2 := dT_length left mm
      simp at h1; omega
    have hdn := dst_step ht
    have hA0 := hA.a.q.2.2.2.1
    have htl : t.length + 1 ≤ 1000 := by
      have h1 : (dst left mm pre).length ≤ left.length + mm := by
        unfold dst
        rw [List.length_drop, List.length_append, pushes_length]
        omega
      rw [ht] at h1
      simp only [List.length_cons] at h1
      omega
    obtain ⟨av, cv, rfl, -, -, -⟩ := hA.a.row.src
    have HA := Lib.hid hA
    have Hdn := Lib.hid hdn
    have hco0 : W2.cell? ⟨O, 0, none⟩ = some (.slice av pre.length cv) := cell_of_heap hA.a.bo (i := 0) rfl
    have hcm : W2.cell? ⟨w.heap.size, 0, none⟩ = some (.int .i64 mm) := cell_of_heap hA.m (i := 0) rfl
    have hcq : W2.cell? ⟨Bq, 0, none⟩ = some (.pointer (some ⟨s, 0, none⟩)) := cell_of_heap hA.a.bq (i := 0) rfl
    have hsW : s < W2.heap.size := hA.a.q.lt
    have hwW : w.heap.size ≤ W2.heap.size := by have := hB0d.size; have := hA.a.sz; omega
    clear hA hdn hpre ht hA0
    by_cases hlt : pre.length < mm
    · have f1 : ((pre.length : Int) < (mm : Int)) = True := eq_true (by omega)
      have Hlt := Lib.hid hlt
      clear hlt
      gi_wp2_with fail
      have hBb2 : Below W2.heap.size W2 (W2.alloc (.cells #[.int .i64 (1000 + (pre.length : Int))] 3)) := (Below.refl _ W2).alloc (Nat.le_refl _) _
      have hnb := heap_alloc_new W2 (.cells #[.int .i64 (1000 + (pre.length : Int))] 3)
      obtain ⟨nb, hnb0⟩ : ∃ nb, W2.heap.size = nb := ⟨_, rfl⟩
      rw [hnb0] at hnb ⊢
      generalize W2.alloc (.cells #[.int .i64 (1000 + (pre.length : Int))] 3) = wb2 at hBb2 hnb ⊢
      have HAb := Lib.hid (HA.out.below hBb2)
      have hsrc : Src1 en wb2 (some ⟨nb, 0, none⟩) 1 [1000 + (pre.length : Int)] := .inr ⟨_, rfl, fun j y hy => by
        cases j with
        | zero => cases hy; exact cell_of_heap hnb (i := 0) rfl
        | succ j => simp at hy⟩
      have hsb2 : s ≤ wb2.heap.size := by have := hBb2.size; omega
      refine ⟨trivial, ?_⟩
      refine (CallsIn.inRound l (callsIn_wide.2 (push_yes s wb2 s 1000 uq pp t HAb.out.a.q _ 1 1 [1000 + (pre.length : Int)] rfl hsrc hsb2 htl))).mono ?_
      rintro e wc2 ⟨rfl, u2, hQ2, hF2, hE2⟩
      have hKe2 := FrQ.keeps hF2 HAb.out.a.q.1 (Rw.cells HAb.out.a.q.2.1)
      have hBc2 := hF2.below (B := w.heap.size) hsw (fun g l e => by have := (HAb.out.a.q.2.1.end_ge g l e).1; omega) (by omega)
      have HAc := Lib.hid (HAb.out.push hRbs hBQs hsO hMs hBdO hQ2 hF2 hE2)
      have Hkc : Hid (KeepsFrom 0 W2 wc2 ∧ Below w.heap.size W2 wc2) := Lib.hid ⟨(dme_keeps hBb2).trans hKe2, (hBb2.mono (by omega)).trans hBc2⟩
      clear hQ2 hF2 hE2 hKe2 hBc2 hsrc hBb2 hnb hco0 hcm hcq
      have hco : wc2.cell? ⟨O, 0, none⟩ = some (.slice av pre.length cv) := cell_of_heap HAc.out.a.bo (i := 0) rfl
      have ha : Below wc2.heap.size wc2 (wc2.alloc (.cells #[.int .i64 x] 3)) := (Below.refl _ wc2).alloc (Nat.le_refl _) _
      have hn := heap_alloc_new wc2 (.cells #[.int .i64 x] 3)
      have hsx : Src1 en (wc2.alloc (.cells #[.int .i64 x] 3)) (some ⟨wc2.heap.size, 0, none⟩) 1 [x] := .inr ⟨_, rfl, fun j y hy => by
        cases j with
        | zero => cases hy; exact cell_of_heap hn (i := 0) rfl
        | succ j => simp at hy⟩
      have hOW := lt_of_block HAc.out.a.bo
      clear hn
      gi_wp2_with (gi_at_builtin; refine wpListIn_append_rw (B := O + 1) one rfl _ _ 28 rfl Try.underlying28 hi hz0 hz1 hz2 rfl (.slice av pre.length cv) pre rfl (HAc.out.a.row.below ha) _ 1 1 [x] rfl rfl hsx (by simp; omega) (by simp; omega) (by have := ha.size; omega) ?_; intro v' w1 hR hF hE hN; obtain ⟨hS1, hS2, hS3⟩ := HAc.out.step hRbO hBO hsO hMs hBdO hF hE hR; have hb1 := (hF.block O (by have := ha.size; omega) (fun g l e => by have := (HAc.out.a.row.end_ge g l e).1; omega)).trans ((ha.block _ (by omega)).trans HAc.out.a.bo); have hc1 : w1.cell? ⟨O, 0, none⟩ = some (.slice av pre.length cv) := cell_of_heap hb1 (i := 0) rfl; have hf1 := frozen_of_heap hb1 0; clear hE hN hR hF; obtain ⟨a', cap', rfl, -, -, -⟩ := hS1.a.row.src; simp only [List.length_append, List.length_cons, List.length_nil, Nat.zero_add] at hS1 hS2 hS3; have hoc : (w1.setCell ⟨O, 0, none⟩ (.slice a' (pre.length + 1) cap')).cell? ⟨O, 0, none⟩ = some (.slice a' (pre.length + 1) cap') := cell_of_heap hS1.a.bo (i := 0) rfl)
      have hk4 := Hkc.out.1.trans hS2
      exact ⟨⟨hk4.size, fun q o _ hk => hk4.same q o (Nat.zero_le _) hk⟩, trivial, ⟨_, _, _, by rw [Hdn.out, if_pos Hlt.out]; exact hS1⟩, (hBW.trans Hkc.out.2).trans (hS3.mono (by omega))⟩
    · have f1 : ((pre.length : Int) < (mm : Int)) = False := eq_false (by omega)
      have Hlt := Lib.hid hlt
      clear hlt
      have hco : W2.cell? ⟨O, 0, none⟩ = some (.slice av pre.length cv) := cell_of_heap HA.out.a.bo (i := 0) rfl
      have ha : Below W2.heap.size W2 (W2.alloc (.cells #[.int .i64 x] 3)) := (Below.refl _ W2).alloc (Nat.le_refl _) _
      have hn := heap_alloc_new W2 (.cells #[.int .i64 x] 3)
      have hsx : Src1 en (W2.alloc (.cells #[.int .i64 x] 3)) (some ⟨W2.heap.size, 0, none⟩) 1 [x] := .inr ⟨_, rfl, fun j y hy => by
        cases j with
        | zero => cases hy; exact cell_of_heap hn (i := 0) rfl
        | succ j => simp at hy⟩
      have hOW := lt_of_block HA.out.a.bo
      clear hn
      gi_wp2_with (gi_at_builtin; refine wpListIn_append_rw (B := O + 1) one rfl _ _ 28 rfl Try.underlying28 hi hz0 hz1 hz2 rfl (.slice av pre.length cv) pre rfl (HA.out.a.row.below ha) _ 1 1 [x] rfl rfl hsx (by simp; omega) (by simp; omega) (by have := ha.size; omega) ?_; intro v' w1 hR hF hE hN; obtain ⟨hS1, hS2, hS3⟩ := HA.out.step hRbO hBO hsO hMs hBdO hF hE hR; have hb1 := (hF.block O (by have := ha.size; omega) (fun g l e => by have := (HA.out.a.row.end_ge g l e).1; omega)).trans ((ha.block _ (by omega)).trans HA.out.a.bo); have hc1 : w1.cell? ⟨O, 0, none⟩ = some (.slice av pre.length cv) := cell_of_heap hb1 (i := 0) rfl; have hf1 := frozen_of_heap hb1 0; clear hE hN hR hF; obtain ⟨a', cap', rfl, -, -, -⟩ := hS1.a.row.src; simp only [List.length_append, List.length_cons, List.length_nil, Nat.zero_add] at hS1 hS2 hS3; have hoc : (w1.setCell ⟨O, 0, none⟩ (.slice a' (pre.length + 1) cap')).cell? ⟨O, 0, none⟩ = some (.slice a' (pre.length + 1) cap') := cell_of_heap hS1.a.bo (i := 0) rfl)
      exact ⟨⟨hS2.size, fun q o _ hk => hS2.same q o (Nat.zero_le _) hk⟩, trivial, ⟨_, _, _, by rw [Hdn.out, if_neg Hlt.out]; exact hS1⟩, hBW.trans (hS3.mono (by omega))⟩
  case done =>
    rintro D Z W2 hD hZ ⟨⟨v, uq, pp, hA⟩, hBW⟩ hK
    have hZ' : Z = dT left mm := hZ
    rw [hZ'] at hA
    clear hZ hZ' own ownm
    have Hend := Lib.hid (dst_end left mm)
    have HA := Lib.hid hA
    have HK := Lib.hid hK
    have hDW := lt_of_get hK
    have hwW : w.heap.size ≤ W2.heap.size := hBW.size
    obtain ⟨av, cv, rfl, -, -, -⟩ := hA.a.row.src
    have hTl := dT_length left mm
    by_cases hl0 : left = []
    · have hd0 : d = 0 := by rw [← Hd.out, ← List.length_drop, Hleft.out, hl0]; rfl
      have hT0 : dT left mm = [] := by unfold dT; rw [if_pos hl0]
      subst hd0
      have hco : W2.cell? ⟨O, 0, none⟩ = some (.slice av 0 cv) := by
        have := cell_of_heap hA.a.bo (i := 0) rfl
        rw [hT0] at this
        exact this
      have HBX := Lib.hid (Below.refl W2.heap.size W2)
      clear hA hK
      have hcq : W2.cell? ⟨Bq, 0, none⟩ = some (.pointer (some ⟨s, 0, none⟩)) := cell_of_heap (HA.out.below HBX.out).a.bq (i := 0) rfl
      gi_wp2_with fail
      refine ⟨trivial, ?_⟩
      refine (callsIn_wide.2 (len_T s W2 s 1000 uq pp [] (by have h := (HA.out.below HBX.out).a.q; rwa [Hend.out] at h))).mono ?_
      rintro e wy ⟨rfl, rfl⟩
      gi_wp2_with fail
      refine ⟨trivial, ?_⟩
      refine (callsIn_wide.2 (wakes_T wy)).mono ?_
      rintro e wz ⟨rfl, hBz⟩
      have hBWc := HBX.out.trans (hBz.mono HBX.out.size)
      have hrc := (HA.out.below hBWc).a.rb
      have hDc := (hBWc.block D hDW).trans HK.out
      have hCc := hBW.trans (hBWc.mono hBW.size)
      have hcc := cell_of_one hrc
      have hff := free_of_one hrc
      gi_wp2
      have hK' := (KeepsOthers.setCell wz ⟨w.heap.size + 1, 0, none⟩ (.bool true)).same D _ hDc rfl
      refine ⟨by simp, .inl ⟨_, _, rfl, run_takeDeferred hK', ?_⟩⟩
      have hc5 := cell_kept (World.cell?_setCell_same' wz ⟨w.heap.size + 1, 0, none⟩ (.bool true) (by rw [hcc]; rfl)) (grownBy_putObj' _ D (.deferred none)) (fun r e => by cases e; exact ⟨_, hK', rfl⟩)
      refine ⟨.bool true, ?_, rfl, ?_⟩
      · simp [results, Try.results5, go_sem, hc5]
      · exact (hCc.setCell (by show w.heap.size ≤ w.heap.size + 1; omega) (.bool true)).trans (belowK_b (w := w) (Nat.le_refl _) _ D _ _ (by have := hB0d.size; omega) hK' rfl rfl)
    · have hd1 : d = left.length := by rw [← Hd.out, ← List.length_drop, Hleft.out]
      have hlpos : 0 < left.length := List.length_pos_iff.2 hl0
      have hT1 : dT left mm = left ++ pushes mm := by unfold dT; rw [if_neg hl0]
      have HT1 := Lib.hid hT1
      have hdne : ((d : Int) = 0) = False := eq_false (by omega)
      have hdnb : ((d : Int) == 0) = false := by exact beq_eq_false_iff_ne.2 (by omega)
      have hlf : IntsOf W2 (.slice A2 d (cap - k)) left := by
        have := (Hv.out.below hBW).from hk2 hxc
        rwa [HA2.out, Hd.out, Hleft.out] at this
      have Hl0 := Lib.hid hl0
      have hlL : left.length ≤ 100 := by omega
      have HD1 := Lib.hid hd1
      clear hl0 hT1 hA hK hd1 hTl
      gi_wp2_with fail
      refine ⟨trivial, ?_⟩
      refine (callsIn_wide.2 (copy_T W2 _ left hlf (by omega) Hl0.out)).mono ?_
      rintro e w3 ⟨v3, rfl, hR3, hB3⟩
      have HR3 := Lib.hid hR3
      obtain ⟨a3, c3, rfl, -, -, -⟩ := hR3.src
      clear hR3 hlf
      gi_wp2_with fail
      gi_loopg [11, 12] (mm - 0) (fun m wv i wr => ∃ q : Nat, i = .int .i64 q ∧ q ≤ mm ∧ Hid (m = mm - q) ∧ Hid (Rw en 3 W2.heap.size wr wv (left ++ pushes q)) ∧ Below W2.heap.size W2 wr)
      case atStart => exact ⟨0, rfl, by omega, Lib.hid rfl, Lib.hid (by simpa [pushes] using HR3.out), hB3⟩
      case round =>
        obtain ⟨q, rfl, hq, Hm, HRw, hBr⟩ := hrel
        obtain ⟨L, hL⟩ : ∃ L, left ++ pushes q = L := ⟨_, rfl⟩
        rw [hL] at HRw
        obtain ⟨aw, cw, rfl, -, -, -⟩ := HRw.out.src
        have hcm : wr.cell? ⟨w.heap.size, 0, none⟩ = some (.int .i64 mm) := cell_of_heap (HA.out.below hBr).m (i := 0) rfl
        have hpl : L.length ≤ 200 := by have := congrArg List.length hL; rw [List.length_append, pushes_length] at this; omega
        have HL := Lib.hid hL
        clear hL
        by_cases hlt : q < mm
        · have ha : Below wr.heap.size wr (wr.alloc (.cells #[.int .i64 (1000 + (q : Int))] 3)) := (Below.refl _ wr).alloc (Nat.le_refl _) _
          have hn := heap_alloc_new wr (.cells #[.int .i64 (1000 + (q : Int))] 3)
          have hsx : Src1 en (wr.alloc (.cells #[.int .i64 (1000 + (q : Int))] 3)) (some ⟨wr.heap.size, 0, none⟩) 1 [1000 + (q : Int)] := .inr ⟨_, rfl, fun j y hy => by
            cases j with
            | zero => cases hy; exact cell_of_heap hn (i := 0) rfl
            | succ j => simp at hy⟩
          have hBrs := hBr.size
          clear hn
          gi_wp2_with (gi_at_builtin; refine wpListIn_append_rw (B := W2.heap.size) one rfl _ _ 28 rfl Try.underlying28 hi hz0 hz1 hz2 rfl (.slice aw L.length cw) L rfl (HRw.out.below ha) _ 1 1 [1000 + (q : Int)] rfl rfl hsx (by simp; omega) (by simp; omega) (by have := ha.size; omega) ?_; intro v' w5 hR hF hE hN; have HR5 := Lib.hid hR; have HB5 := Lib.hid (hF.below (B := W2.heap.size) (fun g l e => (HRw.out.end_ge g l e).1) (by have := ha.size; omega)); clear hR hF hE hN)
          gi_roundg (mm - (q + 1))
          case measure => rw [Hm.out]; omega
          case rel => exact ⟨q + 1, by go_num, by omega, Lib.hid rfl, Lib.hid (by rw [pushes_succ, ← List.append_assoc, HL.out]; exact HR5.out), (hBr.trans (ha.mono hBrs)).trans HB5.out⟩
        · obtain rfl : q = mm := by omega
          have hTL : dT left q = L := HT1.out.trans HL.out
          have hcoO : wr.cell? ⟨O, 0, none⟩ = some (.slice av L.length cv) := by
            have h : wr.cell? ⟨O, 0, none⟩ = some (.slice av (dT left q).length cv) := cell_of_heap (HA.out.below hBr).a.bo (i := 0) rfl
            rwa [hTL] at h
          have hin := callsIn_wide (n := 3).2 (ints_T wr (.slice av L.length cv) (.slice aw L.length cw) L (by have h := (HA.out.below hBr).a.row.ints; rwa [hTL] at h) HRw.out.ints (by omega))
          clear hTL
          gi_wp2_with fail
          refine ⟨trivial, ?_⟩
          refine hin.mono ?_
          clear hin hcoO hcm
          rintro e wx ⟨rfl, hBx⟩
          have HBX := Lib.hid (hBr.trans (hBx.mono hBr.size))
          have hcq : wx.cell? ⟨Bq, 0, none⟩ = some (.pointer (some ⟨s, 0, none⟩)) := cell_of_heap (HA.out.below HBX.out).a.bq (i := 0) rfl
          gi_wp2_with fail
          refine ⟨trivial, ?_⟩
          refine (callsIn_wide.2 (len_T s wx s 1000 uq pp [] (by have h := (HA.out.below HBX.out).a.q; rwa [Hend.out] at h))).mono ?_
          rintro e wy ⟨rfl, rfl⟩
          gi_wp2_with fail
          refine ⟨trivial, ?_⟩
          refine (callsIn_wide.2 (wakes_T wy)).mono ?_
          rintro e wz ⟨rfl, hBz⟩
          have hBWc := HBX.out.trans (hBz.mono HBX.out.size)
          have hrc := (HA.out.below hBWc).a.rb
          have hDc := (hBWc.block D hDW).trans HK.out
          have hCc := hBW.trans (hBWc.mono hBW.size)
          have hcc := cell_of_one hrc
          have hff := free_of_one hrc
          gi_wp2
          have hK' := (KeepsOthers.setCell wz ⟨w.heap.size + 1, 0, none⟩ (.bool true)).same D _ hDc rfl
          refine ⟨by simp, .inl ⟨_, _, rfl, run_takeDeferred hK', ?_⟩⟩
          have hc5 := cell_kept (World.cell?_setCell_same' wz ⟨w.heap.size + 1, 0, none⟩ (.bool true) (by rw [hcc]; rfl)) (grownBy_putObj' _ D (.deferred none)) (fun r e => by cases e; exact ⟨_, hK', rfl⟩)
          refine ⟨.bool true, ?_, rfl, ?_⟩
          · simp [results, Try.results5, go_sem, hc5]
          · exact (hCc.setCell (by show w.heap.size ≤ w.heap.size + 1; omega) (.bool true)).trans (belowK_b (w := w) (Nat.le_refl _) _ D _ _ (by have := hB0d.size; omega) hK' rfl rfl)
  case stop =>
    rintro D c pre W _ _ h _
    exact h.elim

set_option maxRecDepth 100000 in
set_option maxHeartbeats 1000000 in
theorem drains_any (w : World) (v : Value) (xs : List Int) (hv : IntsOf w v xs) (z1 z2 : Int) :
    Calls Try.prog 5 #[v, .int .i64 z1, .int .i64 z2] w fun e w' => e = .returned (.bool true) ∧ Below w.heap.size w w' := by
  by_cases h : xs.length ≤ 100
  · exact drains_walk w v xs z1 z2 hv h
  · obtain ⟨a, cap, rfl⟩ := hv.form
    clear hv
    have f1 : ((100 : Int) < (xs.length : Int)) = True := eq_true (by omega)
    clear h
    refine (callsIn_wide (n := 4)).1 ?_
    refine callsIn_of_wp_marks Try.func5 rfl trivial ?_ rfl
    simp only [Try.ntmps5, List.size_toArray, List.length_cons, List.length_nil, Nat.reduceAdd, Nat.reduceSub, Array.replicate_succ, Array.replicate_zero, List.push_toArray, List.append_toArray, List.nil_append, List.cons_append]
    gi_wp2_with fail
    have hB0 : Below w.heap.size w ((w.alloc (.cells #[.int .i64 z2] 3)).alloc (.cells #[.bool false] 4)) := ((Below.refl _ w).alloc (Nat.le_refl _) _).alloc (by simp) _
    have bR : ((w.alloc (.cells #[.int .i64 z2] 3)).alloc (.cells #[.bool false] 4)).heap[w.heap.size + 1]? = some (.cells #[.bool false] 4 (0, 0)) := by
      have := heap_alloc_new (w.alloc (.cells #[.int .i64 z2] 3)) (.cells #[.bool false] 4)
      rwa [show (w.alloc (.cells #[.int .i64 z2] 3)).heap.size = w.heap.size + 1 by simp] at this
    refine ⟨trivial, ?_⟩
    refine (callsIn_wide.2 (wakes_T _)).mono ?_
    rintro e w1 ⟨rfl, hb⟩
    have h1 := (hb.block _ (lt_of_block bR)).trans bR
    have h2 := hB0.trans (hb.mono hB0.size)
    have hcc := cell_of_one h1
    have hff := free_of_one h1
    gi_wp2_with fail
    have hc5 := World.cell?_setCell_same' w1 ⟨w.heap.size + 1, 0, none⟩ (.bool true) (by rw [hcc]; rfl)
    refine ⟨.bool true, ?_, rfl, ?_⟩
    · simp [results, Try.results5, go_sem, hc5]
    · exact h2.setCell (by show w.heap.size ≤ w.heap.size + 1; omega) _

end Go.Proofs.Ytckdojneogeblaa
