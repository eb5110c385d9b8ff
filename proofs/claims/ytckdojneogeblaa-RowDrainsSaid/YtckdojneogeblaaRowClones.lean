/- RowClones returns true, whatever it is given. Conditions: none but that the lists lie in memory. -/
import Derived.Test.YtckdojneogeblaaQFirst
namespace Go.Proofs.Ytckdojneogeblaa
open Go Go.RowKit QI

theorem IntsOf.form {w : World} {v : Value} {xs : List Int} (h : IntsOf w v xs) : ∃ a cap, v = .slice a xs.length cap := by
  obtain ⟨a, cap, rfl, -⟩ := h
  exact ⟨a, cap, rfl⟩

/-- What a queue's clone sees stays while the queue is pushed to. -/
theorem IntsOf.frq {w w' : World} {v u : Value} {xs : List Int} {s : Nat} (h : IntsOf w v xs) (hF : FrQ s (endOf u) w w') (he : endOf v = endOf u) (hs : ∀ g l, endOf u = some (g, l) → g ≠ s) : IntsOf w' v xs := by
  obtain ⟨a, cap, rfl, hc, hno, h⟩ := h
  refine ⟨a, cap, rfl, hc, hno, fun i z hz => ?_⟩
  obtain ⟨b, off, rfl, hz'⟩ := h i z hz
  have hi := (List.getElem?_eq_some_iff.1 hz).1
  have e : endOf u = some (b, off + xs.length) := he.symm
  exact ⟨b, off, rfl, hF.cell b _ e (hs b _ e) _ _ (by omega) hz'⟩

set_option maxRecDepth 100000 in
set_option maxHeartbeats 4000000 in
theorem clones_walk (w : World) (v v' : Value) (xs ys : List Int) (hv : IntsOf w v xs) (hv' : IntsOf w v' ys) (hx : xs.length ≤ 100) (hy : ys.length ≤ 100) :
    Calls Try.prog 8 #[v, v'] w fun e w' => e = .returned (.bool true) ∧ Below w.heap.size w w' := by
  obtain ⟨a, cap, rfl⟩ := hv.form
  obtain ⟨a2, cap2, rfl⟩ := hv'.form
  have Hv := Lib.hid hv
  have Hv' := Lib.hid hv'
  clear hv hv'
  go_enter Try.func8, Try.ntmps8
  go_wp2_with fail
  refine (made_T w _ xs Hv.out (by omega)).mono ?_
  rintro e w1 ⟨rfl, ⟨u, hQ1⟩, hB1⟩
  have HQ1 := Lib.hid hQ1
  clear hQ1
  go_wp2_with fail
  refine (clone_T _ w1 _ _ _ _ _ HQ1.out).mono ?_
  rintro e w2 ⟨s', u', rfl, hs', hQ2, hE2, hB2⟩
  have HC2 := Lib.hid hQ2
  have HE2 := Lib.hid hE2
  have HQ2 := Lib.hid (HQ1.out.below hB2)
  have hB02 := hB1.trans (hB2.mono hB1.size)
  have hsz1 := hB1.size
  have hsz2 := hB2.size
  clear hQ2 hE2
  go_wp2_with fail
  refine (push_yes _ w2 _ 1000 _ _ _ HQ2.out a2 ys.length cap2 ys rfl (Hv'.out.below hB02).src hB02.size (by omega)).mono ?_
  rintro e w3 ⟨rfl, u3, hQ3, hF3, hE3⟩
  have HQ3 := Lib.hid hQ3
  have hgu : ∀ g l, endOf u = some (g, l) → w.heap.size ≤ g ∧ g < w1.heap.size ∧ g ≠ w.heap.size := fun g l e => ⟨(HQ1.out.2.1.end_ge g l e).1, (HQ1.out.2.1.end_ge g l e).2.1, HQ1.out.ne g l e⟩
  have hs0 : w.heap.size < w1.heap.size := HQ1.out.lt
  have hc3 : w3.heap[s']? = w2.heap[s']? := hF3.block s' HC2.out.lt (by omega) (fun g l e => by have := hgu g l e; omega)
  have hi3 : IntsOf w3 u' xs := IntsOf.frq (Rw.ints HC2.out.2.1) hF3 HE2.out (fun g l e => (hgu g l e).2.2)
  have hB3 : Below w.heap.size w w3 := hB02.trans (hF3.below (Nat.le_refl _) (fun g l e => (hgu g l e).1) hB02.size)
  have hsz3 := hF3.size
  have Hi3 := Lib.hid hi3
  have Hc3 := Lib.hid (hc3.trans HC2.out.1)
  clear hQ3 hF3 hE3 hi3 hc3 hgu
  go_wp2_with fail
  have hI3 : ∀ w4, FrQ w.heap.size none w3 w4 → IntsOf w4 u' xs := by
    intro w4 hF
    have e1 := HE2.out
    obtain ⟨a, cap, rfl, hc, hno, h⟩ := Hi3.out
    refine ⟨a, cap, rfl, hc, hno, fun i z hz => ?_⟩
    obtain ⟨b, off, rfl, hz'⟩ := h i z hz
    refine ⟨b, off, rfl, hF.keep hz' (fun e => HQ2.out.ne b _ e1.symm e) (fun g l e => by cases e)⟩
  have tail : ∀ w4, FrQ w.heap.size none w3 w4 → w4.heap[s']? = some (.cells #[u', .int .i64 (1000 : Nat), .int .i64 (0 : Nat)] 60 (0, 0)) ∧ IntsOf w4 u' xs ∧ Below w.heap.size w w4 := fun w4 hF =>
    ⟨(hF.block s' (lt_of_block Hc3.out) (by omega) (fun g l e => by cases e)).trans Hc3.out, hI3 w4 hF, hB3.trans (hF.below (Nat.le_refl _) (fun g l e => by cases e) hB3.size)⟩
  have Htail := Lib.hid tail
  clear tail hI3
  rcases hxy : xs ++ ys with _ | ⟨x, t⟩
  · have hQ := HQ3.out
    rw [hxy] at hQ
    refine (pop_none _ w3 _ _ _ _ hQ).mono ?_
    rintro e w4 ⟨rfl, hB4⟩
    obtain ⟨hc4, hi4, hB04⟩ := Htail.out w4 (FrQ.of_below hB4)
    have Hc4 := Lib.hid hc4
    have Hi4 := Lib.hid hi4
    clear hc4 hi4 hQ
    go_wp2_with fail
    refine (all_T w4 (some ⟨s', 0, none⟩)).mono ?_
    rintro e w5 ⟨rfl, hw5⟩
    have hB5 : Below w4.heap.size w4 w5 := by rw [hw5]; exact (Below.refl _ w4).alloc (Nat.le_refl _) _
    have hbx : w5.heap[w4.heap.size]? = some (.cells #[.pointer (some ⟨s', 0, none⟩)] 23 (0, 0)) := by rw [hw5]; exact heap_alloc_new w4 _
    clear hw5
    have hB05 := hB04.trans (hB5.mono hB04.size)
    obtain ⟨a4, cap4, rfl⟩ := Hi4.out.form
    have hl := list_all w5 w4.heap.size s' a4 cap4 xs hbx (cell_of_heap ((hB5.block s' (lt_of_block Hc4.out)).trans Hc4.out) (i := 0) rfl) (by omega) (Hi4.out.below hB5)
    clear hbx
    go_wp2_with fail
    refine hl.mono ?_
    rintro e w6 ⟨v6, rfl, hi6, hB6⟩
    have hB06 := hB05.trans (hB6.mono hB05.size)
    have hin := ints_T w6 v6 (.slice a xs.length cap) xs hi6 (Hv.out.below hB06) (by omega)
    clear hl hi6
    go_wp2_with fail
    refine hin.mono ?_
    rintro e w7 ⟨rfl, hB7⟩
    clear hin
    go_wp2_with fail
    refine (wakes_T w7).mono ?_
    rintro e w8 ⟨rfl, hB8⟩
    go_wp2_with fail
    go_ret
    exact ⟨rfl, (hB06.trans (hB7.mono hB06.size)).trans (hB8.mono (Nat.le_trans hB06.size hB7.size))⟩
  · have hQ := HQ3.out
    rw [hxy] at hQ
    refine (pop_some _ w3 _ _ _ _ x t hQ hB3.size).mono ?_
    rintro e w4 ⟨rfl, u4, -, hF4, -⟩
    obtain ⟨hc4, hi4, hB04⟩ := Htail.out w4 hF4
    have Hc4 := Lib.hid hc4
    have Hi4 := Lib.hid hi4
    clear hc4 hi4 hQ hF4
    go_wp2_with fail
    refine (all_T w4 (some ⟨s', 0, none⟩)).mono ?_
    rintro e w5 ⟨rfl, hw5⟩
    have hB5 : Below w4.heap.size w4 w5 := by rw [hw5]; exact (Below.refl _ w4).alloc (Nat.le_refl _) _
    have hbx : w5.heap[w4.heap.size]? = some (.cells #[.pointer (some ⟨s', 0, none⟩)] 23 (0, 0)) := by rw [hw5]; exact heap_alloc_new w4 _
    clear hw5
    have hB05 := hB04.trans (hB5.mono hB04.size)
    obtain ⟨a4, cap4, rfl⟩ := Hi4.out.form
    have hl := list_all w5 w4.heap.size s' a4 cap4 xs hbx (cell_of_heap ((hB5.block s' (lt_of_block Hc4.out)).trans Hc4.out) (i := 0) rfl) (by omega) (Hi4.out.below hB5)
    clear hbx
    go_wp2_with fail
    refine hl.mono ?_
    rintro e w6 ⟨v6, rfl, hi6, hB6⟩
    have hB06 := hB05.trans (hB6.mono hB05.size)
    have hin := ints_T w6 v6 (.slice a xs.length cap) xs hi6 (Hv.out.below hB06) (by omega)
    clear hl hi6
    go_wp2_with fail
    refine hin.mono ?_
    rintro e w7 ⟨rfl, hB7⟩
    clear hin
    go_wp2_with fail
    refine (wakes_T w7).mono ?_
    rintro e w8 ⟨rfl, hB8⟩
    go_wp2_with fail
    go_ret
    exact ⟨rfl, (hB06.trans (hB7.mono hB06.size)).trans (hB8.mono (Nat.le_trans hB06.size hB7.size))⟩

set_option maxRecDepth 100000 in
theorem clones_any (w : World) (v : Value) (xs : List Int) (hv : IntsOf w v xs) (v' : Value) (ys : List Int) (hv' : IntsOf w v' ys) :
    Calls Try.prog 8 #[v, v'] w fun e w' => e = .returned (.bool true) ∧ Below w.heap.size w w' := by
  by_cases h : xs.length ≤ 100 ∧ ys.length ≤ 100
  · exact clones_walk w v v' xs ys hv hv' h.1 h.2
  · obtain ⟨a, cap, rfl⟩ := hv.form
    obtain ⟨a2, cap2, rfl⟩ := hv'.form
    clear hv hv'
    by_cases h1 : xs.length ≤ 100
    · have h2 : ¬ ys.length ≤ 100 := fun h2 => h ⟨h1, h2⟩
      have f1 : ((100 : Int) < (xs.length : Int)) = False := eq_false (by omega)
      have f2 : ((100 : Int) < (ys.length : Int)) = True := eq_true (by omega)
      clear h h1 h2
      go_enter Try.func8, Try.ntmps8
      go_wp2_with fail
      refine (wakes_T w).mono ?_
      rintro e w1 ⟨rfl, hb⟩
      go_wp2_with fail
      go_ret
      exact ⟨rfl, hb⟩
    · have f1 : ((100 : Int) < (xs.length : Int)) = True := eq_true (by omega)
      clear h h1
      go_enter Try.func8, Try.ntmps8
      go_wp2_with fail
      refine (wakes_T w).mono ?_
      rintro e w1 ⟨rfl, hb⟩
      go_wp2_with fail
      go_ret
      exact ⟨rfl, hb⟩

end Go.Proofs.Ytckdojneogeblaa
