/- What Pop of a queue answers. Conditions: the queue lies in memory. -/
import Derived.Test.YtckdojneogeblaaQNewQI
namespace Go.Proofs.Ytckdojneogeblaa.QI
open Go Go.RowKit

set_option maxHeartbeats 800000 in
theorem pop_none (B : Nat) (w : World) (s room : Nat) (v : Value) (pp : Nat) (h : QAt B w s room v pp []) :
    Calls Try.prog 13 #[.pointer (some ⟨s, 0, none⟩)] w fun e w' => e = .returned (.tuple #[.int .i64 (0 : Int), .bool false]) ∧ Below w.heap.size w w' := by
  obtain ⟨a, cap, rfl, -, -⟩ := h.2.1.src
  have h0 : w.cell? ⟨s, 0, none⟩ = some (.slice a 0 cap) := by simp [World.cell?, h.1]
  go_enter Try.func13, Try.ntmps13
  go_wp2_with fail
  go_ret2
  exact ⟨rfl, (Below.refl _ w).alloc (Nat.le_refl _) _⟩

set_option maxHeartbeats 800000 in
theorem pop_some (B : Nat) (w : World) (s room : Nat) (v : Value) (pp : Nat) (x : Int) (xs : List Int) (h : QAt B w s room v pp (x :: xs)) (hB : B ≤ w.heap.size) :
    Calls Try.prog 13 #[.pointer (some ⟨s, 0, none⟩)] w fun e w' => e = .returned (.tuple #[.int .i64 x, .bool true]) ∧ ∃ v', (∃ pp', QAt B w' s room v' pp' xs) ∧ FrQ s none w w' ∧ Ends w.heap.size v v' := by
  obtain ⟨i0, hi, hz0, hz1, hz2⟩ := info_parts' infoT
  obtain ⟨g, off, cap, rfl, hx0⟩ := h.2.1.cellAt 0 x rfl
  simp only [Nat.add_zero] at hx0
  have h0 : w.cell? ⟨s, 0, none⟩ = some (.slice (some ⟨g, off, none⟩) (x :: xs).length cap) := by simp [World.cell?, h.1]
  have h2 : w.cell? ⟨s, 2, none⟩ = some (.int .i64 pp) := by simp [World.cell?, h.1]
  simp only [List.length_cons] at h0
  have hf : ∀ i, w.frozen? ⟨s, i, none⟩ = false := frozen_of_heap h.1
  have hp := h.2.2.1
  have h4 := h.2.2.2.1
  have h5 := h.2.2.2.2
  simp only [List.length_cons] at hp h4
  have hrow := h.2.1
  have hs := h.1
  have hgs := h.ne g _ rfl
  have hgl := (hrow.end_ge g _ rfl).2.1
  have hBg := (hrow.end_ge g _ rfl).1
  rcases hrow with ⟨h', -⟩ | ⟨g', off', cap', cur, h', -, hg, hn, hm, hel⟩
  · cases h'
  cases h'
  simp only [List.length_cons] at hn
  clear h
  by_cases hc1 : cap = 1
  · obtain rfl : xs = [] := List.length_eq_zero_iff.1 (by omega)
    subst hc1
    have hcm : ((0 : Int) < (pp : Int) + 1) = True := eq_true (by omega)
    simp only [List.length_nil, Nat.zero_add] at *
    go_enter Try.func13, Try.ntmps13
    go_wp2_with fail
    have k1 : ((w.setCell ⟨s, 0, none⟩ (.slice (some ⟨g, off, none⟩) 0 0)).setCell ⟨s, 2, none⟩ (.int .i64 ((pp : Int) + 1))).heap[s]? = some (.cells #[.slice (some ⟨g, off, none⟩) 0 0, .int .i64 room, .int .i64 ((pp : Int) + 1)] 60 (0, 0)) := setCell_heap (i := 2) (setCell_heap (i := 0) hs (.slice (some ⟨g, off, none⟩) 0 0)) _
    have k2 : FrQ s none w ((w.setCell ⟨s, 0, none⟩ (.slice (some ⟨g, off, none⟩) 0 0)).setCell ⟨s, 2, none⟩ (.int .i64 ((pp : Int) + 1))) := ((FrQ.of_below (Below.refl _ w)).set 0 _).set 2 _
    have k3 : Rw en 3 B ((w.setCell ⟨s, 0, none⟩ (.slice (some ⟨g, off, none⟩) 0 0)).setCell ⟨s, 2, none⟩ (.int .i64 ((pp : Int) + 1))) (.slice (some ⟨g, off, none⟩) 0 0) ([] : List Int) := by
      refine .inr ⟨g, off, 0, cur, rfl, hBg, ?_, by simp, by omega, by simp⟩
      exact (Below.heap_setCell _ _ _ _ hgs).trans ((Below.heap_setCell _ _ _ _ hgs).trans hg)
    generalize ((w.setCell ⟨s, 0, none⟩ (.slice (some ⟨g, off, none⟩) 0 0)).setCell ⟨s, 2, none⟩ (.int .i64 ((pp : Int) + 1))) = W at k1 k2 k3 ⊢
    have c0 : W.cell? ⟨s, 0, none⟩ = some (.slice (some ⟨g, off, none⟩) 0 0) := cell_of_heap k1 (i := 0) rfl
    have c2 : W.cell? ⟨s, 2, none⟩ = some (.int .i64 ((pp : Int) + 1)) := cell_of_heap k1 (i := 2) rfl
    go_quiet (fail)
    have hD : Below W.heap.size W (W.drewN nq) := below_drewN _ _ _
    have K1 : (W.drewN nq).heap[s]? = _ := k1
    have K2 : FrQ s none w (W.drewN nq) := k2.trans (FrQ.of_below (r := none) hD) (fun g l e => by cases e)
    have K3 := k3.below hD
    clear c0 c2
    generalize W.drewN nq = W2 at K1 K2 K3 ⊢
    have c0 : W2.cell? ⟨s, 0, none⟩ = some (.slice (some ⟨g, off, none⟩) 0 0) := cell_of_heap K1 (i := 0) rfl
    have HK3 := Lib.hid K3
    have HK2 := Lib.hid K2
    clear k1 k2 k3 K3 hD K2
    have hf2 : ∀ i, W2.frozen? ⟨s, i, none⟩ = false := frozen_of_heap K1
    have c2 : W2.cell? ⟨s, 2, none⟩ = some (.int .i64 ((pp : Int) + 1)) := cell_of_heap K1 (i := 2) rfl
    go_wp2_with fail
    go_ret2
    refine ⟨rfl, _, ⟨0, setCell_heap (i := 2) (setCell_heap (i := 0) K1 (.slice none 0 0)) (.int .i64 0), Rw.nil _, Nat.zero_le _, by simp, h5⟩, (HK2.out.set 0 _).set 2 _, ?_⟩
    intro g l e
    simp [endOf] at e
  · by_cases hlt : xs.length < pp + 1
    · have hcm : ((xs.length : Int) < (pp : Int) + 1) = True := eq_true (by omega)
      go_enter Try.func13, Try.ntmps13
      go_wp2_with fail
      have k1 : ((w.setCell ⟨s, 0, none⟩ (.slice (some ⟨g, off + 1, none⟩) xs.length (cap - 1))).setCell ⟨s, 2, none⟩ (.int .i64 ((pp : Int) + 1))).heap[s]? = some (.cells #[.slice (some ⟨g, off + 1, none⟩) xs.length (cap - 1), .int .i64 room, .int .i64 ((pp : Int) + 1)] 60 (0, 0)) := setCell_heap (i := 2) (setCell_heap (i := 0) hs (.slice (some ⟨g, off + 1, none⟩) xs.length (cap - 1))) _
      have k2 : FrQ s none w ((w.setCell ⟨s, 0, none⟩ (.slice (some ⟨g, off + 1, none⟩) xs.length (cap - 1))).setCell ⟨s, 2, none⟩ (.int .i64 ((pp : Int) + 1))) := ((FrQ.of_below (Below.refl _ w)).set 0 _).set 2 _
      have k3 : Rw en 3 B ((w.setCell ⟨s, 0, none⟩ (.slice (some ⟨g, off + 1, none⟩) xs.length (cap - 1))).setCell ⟨s, 2, none⟩ (.int .i64 ((pp : Int) + 1))) (.slice (some ⟨g, off + 1, none⟩) xs.length (cap - 1)) xs := by
        refine .inr ⟨g, off + 1, cap - 1, cur, rfl, hBg, ?_, by omega, by omega, fun i y hy => ?_⟩
        · exact (Below.heap_setCell _ _ _ _ hgs).trans ((Below.heap_setCell _ _ _ _ hgs).trans hg)
        · have := hel (i + 1) y (by simpa using hy)
          rw [show off + 1 + i = off + (i + 1) by omega]; exact this
      generalize ((w.setCell ⟨s, 0, none⟩ (.slice (some ⟨g, off + 1, none⟩) xs.length (cap - 1))).setCell ⟨s, 2, none⟩ (.int .i64 ((pp : Int) + 1))) = W at k1 k2 k3 ⊢
      have c0 : W.cell? ⟨s, 0, none⟩ = some (.slice (some ⟨g, off + 1, none⟩) xs.length (cap - 1)) := cell_of_heap k1 (i := 0) rfl
      have c2 : W.cell? ⟨s, 2, none⟩ = some (.int .i64 ((pp : Int) + 1)) := cell_of_heap k1 (i := 2) rfl
      go_quiet (fail)
      have hD : Below W.heap.size W (W.drewN nq) := below_drewN _ _ _
      have K1 : (W.drewN nq).heap[s]? = _ := k1
      have K2 : FrQ s none w (W.drewN nq) := k2.trans (FrQ.of_below (r := none) hD) (fun g l e => by cases e)
      have K3 := k3.below hD
      clear c0 c2
      generalize W.drewN nq = W2 at K1 K2 K3 ⊢
      have c0 : W2.cell? ⟨s, 0, none⟩ = some (.slice (some ⟨g, off + 1, none⟩) xs.length (cap - 1)) := cell_of_heap K1 (i := 0) rfl
      have HK3 := Lib.hid K3
      have HK2 := Lib.hid K2
      clear k1 k2 k3 K3 hD K2
      obtain ⟨a2, cap2, e2, hsrc, -, -⟩ := HK3.out.src
      cases e2
      have Hsrc := Lib.hid hsrc
      clear hsrc
      have hsz := HK2.out.size
      have hsl : s < W2.heap.size := lt_of_block K1
      go_wp2_with (at_builtin; refine wpList_append_rw (B := W2.heap.size) one rfl _ _ 28 rfl Try.underlying28 hi hz0 hz1 hz2 rfl (.slice none 0 0) [] rfl (Rw.nil _) _ xs.length _ xs rfl rfl Hsrc.out (by simp; omega) (by simp; omega) (by omega) ?_; intro v1 w5 hR1 hF1 hE1 hN1; have hs6 := (hF1.block s hsl (fun g l e => by cases e)).trans K1; have h07 : w5.cell? ⟨s, 0, none⟩ = some (.slice (some ⟨g, off + 1, none⟩) xs.length (cap - 1)) := cell_of_heap hs6 (i := 0) rfl; have h27 : w5.cell? ⟨s, 2, none⟩ = some (.int .i64 ((pp : Int) + 1)) := cell_of_heap hs6 (i := 2) rfl; have hf7 : ∀ i, w5.frozen? ⟨s, i, none⟩ = false := frozen_of_heap hs6; obtain ⟨a1, c1, rfl, -, -, -⟩ := hR1.src)
      go_ret2
      simp only [List.nil_append] at hR1 hE1
      refine ⟨rfl, _, ⟨0, setCell_heap (i := 2) (setCell_heap (i := 0) hs6 (.slice a1 xs.length c1)) (.int .i64 0), ?_, Nat.zero_le _, by omega, h5⟩, ?_, ?_⟩
      · refine (hR1.mono (by omega)).keep fun g l e => (Below.heap_setCell _ _ _ _ ?_).trans (Below.heap_setCell _ _ _ _ ?_)
        all_goals
          have := (hR1.end_ge g l e).1
          show g ≠ s
          omega
      · exact ((HK2.out.trans (FrQ.of_fr hF1) (fun g l e => by cases e)).set 0 _).set 2 _
      · intro g l e
        have := (hR1.end_ge g l e).1
        exact .inr (by omega)
    · have hcm : ((xs.length : Int) < (pp : Int) + 1) = False := eq_false (by omega)
      go_enter Try.func13, Try.ntmps13
      go_wp2_with fail
      have k1 : ((w.setCell ⟨s, 0, none⟩ (.slice (some ⟨g, off + 1, none⟩) xs.length (cap - 1))).setCell ⟨s, 2, none⟩ (.int .i64 ((pp : Int) + 1))).heap[s]? = some (.cells #[.slice (some ⟨g, off + 1, none⟩) xs.length (cap - 1), .int .i64 room, .int .i64 ((pp : Int) + 1)] 60 (0, 0)) := setCell_heap (i := 2) (setCell_heap (i := 0) hs (.slice (some ⟨g, off + 1, none⟩) xs.length (cap - 1))) _
      have k2 : FrQ s none w ((w.setCell ⟨s, 0, none⟩ (.slice (some ⟨g, off + 1, none⟩) xs.length (cap - 1))).setCell ⟨s, 2, none⟩ (.int .i64 ((pp : Int) + 1))) := ((FrQ.of_below (Below.refl _ w)).set 0 _).set 2 _
      have k3 : Rw en 3 B ((w.setCell ⟨s, 0, none⟩ (.slice (some ⟨g, off + 1, none⟩) xs.length (cap - 1))).setCell ⟨s, 2, none⟩ (.int .i64 ((pp : Int) + 1))) (.slice (some ⟨g, off + 1, none⟩) xs.length (cap - 1)) xs := by
        refine .inr ⟨g, off + 1, cap - 1, cur, rfl, hBg, ?_, by omega, by omega, fun i y hy => ?_⟩
        · exact (Below.heap_setCell _ _ _ _ hgs).trans ((Below.heap_setCell _ _ _ _ hgs).trans hg)
        · have := hel (i + 1) y (by simpa using hy)
          rw [show off + 1 + i = off + (i + 1) by omega]; exact this
      generalize ((w.setCell ⟨s, 0, none⟩ (.slice (some ⟨g, off + 1, none⟩) xs.length (cap - 1))).setCell ⟨s, 2, none⟩ (.int .i64 ((pp : Int) + 1))) = W at k1 k2 k3 ⊢
      have c0 : W.cell? ⟨s, 0, none⟩ = some (.slice (some ⟨g, off + 1, none⟩) xs.length (cap - 1)) := cell_of_heap k1 (i := 0) rfl
      have c2 : W.cell? ⟨s, 2, none⟩ = some (.int .i64 ((pp : Int) + 1)) := cell_of_heap k1 (i := 2) rfl
      go_quiet (fail)
      have hD : Below W.heap.size W (W.drewN nq) := below_drewN _ _ _
      have K1 : (W.drewN nq).heap[s]? = _ := k1
      have K2 : FrQ s none w (W.drewN nq) := k2.trans (FrQ.of_below (r := none) hD) (fun g l e => by cases e)
      have K3 := k3.below hD
      clear c0 c2
      generalize W.drewN nq = W2 at K1 K2 K3 ⊢
      have c0 : W2.cell? ⟨s, 0, none⟩ = some (.slice (some ⟨g, off + 1, none⟩) xs.length (cap - 1)) := cell_of_heap K1 (i := 0) rfl
      have HK3 := Lib.hid K3
      have HK2 := Lib.hid K2
      clear k1 k2 k3 K3 hD K2
      go_wp2_with fail
      go_ret2
      refine ⟨rfl, _, ⟨pp + 1, K1, HK3.out, by omega, by omega, h5⟩, HK2.out, ?_⟩
      intro g' l e
      simp [endOf] at e
      obtain ⟨rfl, rfl⟩ := e
      exact .inl ⟨_, rfl, by simp; omega⟩

end Go.Proofs.Ytckdojneogeblaa.QI
