/- What Same of two sets answers. Conditions: the sets lie in memory; at most 800000 members. -/
import Derived.Test.YtpkkdmhmnmjebaaAllSS
import Derived.RangeFuncBox
import Derived.Stop.RegionWithIn
import Derived.Deep.RegionHeld3
namespace Go.Proofs.Ytpkkdmhmnmjebaa.S
open Go Go.RowKit Go.Shelf

attribute [local go_sem] Oper.semAt_some

theorem mixed : Try.prog.follows .mixedOrders = true := by kernel_rfl

/-- The code is left at its end alone, with one frame and one world. -/
def OnlyAt (a0 : Act) (w0 : World) : Exit → Act → World → Prop
  | .normal, a, w => a = a0 ∧ w = w0
  | _, _, _ => False
theorem OnlyAt.imp {Q : Exit → Act → World → Prop} {a0 : Act} {w0 : World} (h : Q .normal a0 w0) : ∀ e a w, OnlyAt a0 w0 e a w → Q e a w := by
  intro e a w hq
  cases e <;> first | exact (hq : False).elim | (obtain ⟨rfl, rfl⟩ := hq; exact h)

theorem keepsFrom_below {B : Nat} {W W' : World} (h : Below W.heap.size W W') : KeepsFrom B W W' := ⟨h.size, fun k _ _ hk _ => (h.block k (lt_of_block hk)).trans hk⟩

set_option maxRecDepth 100000 in
set_option maxHeartbeats 2000000 in
theorem same_T (w : World) (s r : Nat) (L R : List SymV) (hS : SetAt w s L) (hR : SetAt w r R) (hs : L.length ≤ 800000) (hr : R.length ≤ 800000) :
    Calls Try.prog 39 #[.pointer (some ⟨s, 0, none⟩), .pointer (some ⟨r, 0, none⟩)] w fun e w' => e = .returned (.bool (L.length == R.length && L.all (has symCmp R))) ∧ Below w.heap.size w w' := by
  have hmx := mixed
  have hB0 : Below w.heap.size w ((w.alloc (.cells #[.pointer (some ⟨r, 0, none⟩)] 23)).alloc (.cells #[.bool false] 4)).drew := (((Below.refl _ w).alloc (Nat.le_refl _) _).alloc (by simp) _).drew
  have hSd := hS.below hB0
  have hRd := hR.below hB0
  by_cases hl : L.length = R.length
  · have hl1 : ((L.length : Int) != R.length) = false := by simp [hl]
    have Hl := Lib.hid hl
    have hB1 : Below w.heap.size w (((w.alloc (.cells #[.pointer (some ⟨r, 0, none⟩)] 23)).alloc (.cells #[.bool false] 4)).alloc (.cells #[.pointer (some ⟨s, 0, none⟩)] 23)).drew := ((((Below.refl _ w).alloc (Nat.le_refl _) _).alloc (by simp) _).alloc (by simp; omega) _).drew
    have hb1 : (((w.alloc (.cells #[.pointer (some ⟨r, 0, none⟩)] 23)).alloc (.cells #[.bool false] 4)).alloc (.cells #[.pointer (some ⟨s, 0, none⟩)] 23)).drew.heap[w.heap.size + 1 + 1]? = some (.cells #[.pointer (some ⟨s, 0, none⟩)] 23 (0, 0)) := by
      have := heap_alloc_new ((w.alloc (.cells #[.pointer (some ⟨r, 0, none⟩)] 23)).alloc (.cells #[.bool false] 4)) (.cells #[.pointer (some ⟨s, 0, none⟩)] 23)
      simp only [World.size_alloc] at this
      exact this
    have hS1 := hS.below hB1
    clear hl
    refine (callsIn_wide (n := 3)).1 ?_
    refine callsIn_of_wp_marks Try.func39 rfl trivial ?_ rfl
    simp only [Try.ntmps39, List.size_toArray, List.length_cons, List.length_nil, Nat.reduceAdd, Nat.reduceSub, Array.replicate_succ, Array.replicate_zero, List.push_toArray, List.append_toArray, List.nil_append, List.cons_append]
    gi_wp2_with fail
    refine wpIn_mono (Q := OnlyAt { tmps := #[.pointer (some ⟨s, 0, none⟩), .pointer (some ⟨r, 0, none⟩), undef, .pointer (some ⟨w.heap.size, 0, none⟩), .pointer (some ⟨w.heap.size + 1, 0, none⟩), undef, undef, undef, .pointer (some ⟨s, 0, none⟩), .int .i64 L.length, .pointer (some ⟨r, 0, none⟩), .int .i64 R.length, .bool false, undef, undef, undef, undef, undef, undef, undef, undef, undef, undef, undef], defers := [] } ((w.alloc (.cells #[.pointer (some ⟨r, 0, none⟩)] 23)).alloc (.cells #[.bool false] 4)).drew) ?_ (OnlyAt.imp ?_)
    · gi_region_with (refine ⟨trivial, ?_⟩; (first | refine (callsIn_wide.2 (len_T _ s L hSd)).mono ?_ | refine (callsIn_wide.2 (len_T _ r R hRd)).mono ?_); rintro e w' ⟨rfl, rfl⟩)
      all_goals exact ⟨rfl, rfl⟩
    gi_wp2_with fail
    refine ⟨trivial, ?_⟩
    refine (callsIn_wide.2 (all_T _ (some ⟨s, 0, none⟩))).mono ?_
    rintro e w1 ⟨rfl, rfl⟩
    gi_wp2_with fail
    have hpc : (((w.alloc (.cells #[.pointer (some ⟨r, 0, none⟩)] 23)).alloc (.cells #[.bool false] 4)).alloc (.cells #[.pointer (some ⟨s, 0, none⟩)] 23)).drew.cell? ⟨w.heap.size, 0, none⟩ = some (.pointer (some ⟨r, 0, none⟩)) := by go_simp
    have hbc : (((w.alloc (.cells #[.pointer (some ⟨r, 0, none⟩)] 23)).alloc (.cells #[.bool false] 4)).alloc (.cells #[.pointer (some ⟨s, 0, none⟩)] 23)).drew.cell? ⟨w.heap.size + 1, 0, none⟩ = some (.bool false) := by go_simp
    have hbf : (((w.alloc (.cells #[.pointer (some ⟨r, 0, none⟩)] 23)).alloc (.cells #[.bool false] 4)).alloc (.cells #[.pointer (some ⟨s, 0, none⟩)] 23)).drew.frozen? ⟨w.heap.size + 1, 0, none⟩ = false := by go_simp
    have hsz : (((w.alloc (.cells #[.pointer (some ⟨r, 0, none⟩)] 23)).alloc (.cells #[.bool false] 4)).alloc (.cells #[.pointer (some ⟨s, 0, none⟩)] 23)).drew.heap.size = w.heap.size + 3 := by simp
    generalize (((w.alloc (.cells #[.pointer (some ⟨r, 0, none⟩)] 23)).alloc (.cells #[.bool false] 4)).alloc (.cells #[.pointer (some ⟨s, 0, none⟩)] 23)).drew = W2 at hpc hbc hbf hsz hB1 hb1 hS1 ⊢
    refine wpIn_rangeFunc_ownH rfl (by omega) (gf := 64) (lb := #[.pointer (some ⟨w.heap.size + 1 + 1, 0, none⟩)]) rfl trivial (enters_of Try.func64 (by kernel_rfl) rfl)
      (all_stops 2 W2.heap.size _ s L W2 hb1 hS1 hs (Nat.le_refl _)) (fun h k => h.trans k) (fun W l o o' _ h hc _ => Kp.putObj W l o o' h hc) (Below.refl _ _) (fun _ => rfl)
      (fun pre W => pre.all (has symCmp R) = true ∧ Below W2.heap.size W2 W)
      (fun c pre W => c = .ret ∧ pre.all (has symCmp R) = false ∧ W.cell? ⟨w.heap.size + 1, 0, none⟩ = some (.bool false) ∧ Below w.heap.size w W)
      (fun s A B row hs hg hr => ⟨hs.1, ownFrom_below (β := Unit) (Nat.le_refl _) (Nat.le_refl _) () A B row hs.2 hg hr⟩)
      (fun c s A B row hs hg hr => ⟨hs.1, hs.2.1, cell_kept hs.2.2.1 hg (fun r e => (hr r e).2), ownFrom_below (β := Unit) (Nat.le_refl _) (by omega) () A B row hs.2.2.2 hg hr⟩)
      ⟨rfl, Below.refl _ _⟩
      (fun x a' W => ∃ Bx, w.heap.size < Bx ∧ W.heap[Bx]? = some (.cells #[.int .i64 x.k, .string x.t, .int .i64 x.n] 26 (0, 0)) ∧ a' = { tmps := #[.pointer (some ⟨s, 0, none⟩), .pointer (some ⟨r, 0, none⟩), undef, .pointer (some ⟨w.heap.size, 0, none⟩), .pointer (some ⟨w.heap.size + 1, 0, none⟩), .pointer (some ⟨Bx, 0, none⟩), undef, undef, .pointer (some ⟨s, 0, none⟩), .int .i64 L.length, .pointer (some ⟨r, 0, none⟩), .int .i64 R.length, .bool false, .pointer (some ⟨s, 0, none⟩), .func (.func 64) #[] #[.pointer (some ⟨w.heap.size + 1 + 1, 0, none⟩)], .agg #[.int .i64 x.k, .string x.t, .int .i64 x.n], undef, undef, undef, undef, undef, undef, undef, undef], defers := [] })
      (fun x a' s A B row hs hg hr => by
        obtain ⟨Bx, h1, h2, h3⟩ := hs
        refine ⟨Bx, h1, (hg.block Bx (lt_of_block h2) (fun e => ?_)).trans h2, h3⟩
        obtain ⟨-, o, ho, hc⟩ := hr Bx e.symm
        rw [h2] at ho; cases ho; cases hc)
      ?assign ?body ?done ?stop
    case assign =>
      rintro l pre x W K ⟨hp, hB⟩ hK
      gi_wp2
      exact hK _ _ ((KeepsOthers.alloc _ _).from _) (Kp.of_below ((Below.refl _ W).alloc hB.size _)) ⟨hp, hB.trans ((Below.refl _ W).alloc hB.size _)⟩ ⟨W.heap.size, by have := hB.size; omega, heap_alloc_new W _, rfl⟩
    case body =>
      rintro l pre x a' W hl ⟨q, hq⟩ ⟨hp, hB⟩ ⟨Bx, hBx, bX, rfl⟩ hlt
      have hm : W.cell? ⟨Bx, 0, none⟩ = some (.int .i64 x.k) ∧ W.cell? ⟨Bx, 1, none⟩ = some (.string x.t) ∧ W.cell? ⟨Bx, 2, none⟩ = some (.int .i64 x.n) := by simp [World.cell?, bX]
      have hpc' := (hB.cell (p := ⟨w.heap.size, 0, none⟩) (show w.heap.size < _ by omega)).trans hpc
      have hbc' := (hB.cell (p := ⟨w.heap.size + 1, 0, none⟩) (show w.heap.size + 1 < _ by omega)).trans hbc
      have hRW := hR.below (hB1.trans (hB.mono hB1.size))
      have hpl := callsIn_wide (n := 0).2 (place_T W r R x hRW hr)
      have hd : 1 ≤ 3 - 1 - 1 := by omega
      cases hh : has symCmp R x
      · rw [hh] at hpl
        gi_wp2_with fail
        refine ⟨trivial, ?_⟩
        refine (CallsIn.inRound l hpl).mono ?_
        rintro e w3 ⟨rfl, hB3⟩
        have hB4 := hB.trans (hB3.mono hB.size)
        have hbc3 := (hB4.cell (p := ⟨w.heap.size + 1, 0, none⟩) (show w.heap.size + 1 < _ by omega)).trans hbc
        have hbf3 := (hB4.frozen (p := ⟨w.heap.size + 1, 0, none⟩) (show w.heap.size + 1 < _ by omega)).trans hbf
        gi_wp2_with fail
        refine ⟨(keepsFrom_below hB3).trans ((KeepsOthers.setCell _ _ _).from _), rfl, by simp [hp, hh], World.cell?_setCell_same' _ _ _ (by rw [hbc3]; rfl), ?_⟩
        exact But.below (hB1.trans (hB4.mono hB1.size)) ((But.refl _ _).setCell 0 _) (by omega) (by have := hB4.size; omega)
      · rw [hh] at hpl
        gi_wp2_with fail
        refine ⟨trivial, ?_⟩
        refine (CallsIn.inRound l hpl).mono ?_
        rintro e w3 ⟨rfl, hB3⟩
        gi_wp2_with fail
        exact ⟨keepsFrom_below hB3, Kp.of_below (hB3.mono hB.size), by simp [hp, hh], hB.trans (hB3.mono hB.size)⟩
    case done =>
      rintro D ys W hD rfl ⟨hp, hB⟩ hK
      have hbc3 := (hB.cell (p := ⟨w.heap.size + 1, 0, none⟩) (show w.heap.size + 1 < _ by omega)).trans hbc
      have hbf3 := (hB.frozen (p := ⟨w.heap.size + 1, 0, none⟩) (show w.heap.size + 1 < _ by omega)).trans hbf
      gi_wp2
      have hK' := (KeepsOthers.setCell W ⟨w.heap.size + 1, 0, none⟩ (.bool true)).same D _ hK rfl
      refine ⟨by simp, .inl ⟨_, _, rfl, run_takeDeferred hK', ?_⟩⟩
      have hc5 := cell_kept (World.cell?_setCell_same' W ⟨w.heap.size + 1, 0, none⟩ (.bool true) (by rw [hbc3]; rfl)) (grownBy_putObj' _ D (.deferred none)) (fun r e => by cases e; exact ⟨_, hK', rfl⟩)
      refine ⟨.bool true, ?_, by rw [hp, Hl.out]; simp, ?_⟩
      · simp [results, Try.results39, go_sem, hc5]
      · have hB5 := But.below (hB1.trans (hB.mono hB1.size)) ((But.refl (w.heap.size + 1) W).setCell 0 (.bool true)) (by omega) (by have := hB.size; omega)
        exact hB5.trans (belowK_b (w := W2) (by omega) _ D _ _ hD hK' rfl rfl)
    case stop =>
      rintro D c pre W hD hpre ⟨rfl, hp, hcr, hB⟩ hK
      gi_wp2
      refine ⟨by simp, .inl ⟨_, _, rfl, run_takeDeferred hK, ?_⟩⟩
      have hc5 := cell_kept hcr (grownBy_putObj' _ D (.deferred none)) (fun r e => by cases e; exact ⟨_, hK, rfl⟩)
      refine ⟨.bool false, ?_, ?_, hB.trans (belowK_b (w := W2) (by omega) _ D _ _ hD hK rfl rfl)⟩
      · simp [results, Try.results39, go_sem, hc5]
      · have : L.all (has symCmp R) = false := by
          obtain ⟨q, rfl⟩ := hpre
          simp only [List.all_append, hp, Bool.false_and]
        rw [this, Bool.and_false]
  · have hl1 : ((L.length : Int) != R.length) = true := by simp; omega
    have hl2 : (L.length == R.length) = false := by simp [hl]
    have Hl := Lib.hid hl
    clear hl
    refine (callsIn_wide (n := 3)).1 ?_
    refine callsIn_of_wp_marks Try.func39 rfl trivial ?_ rfl
    simp only [Try.ntmps39, List.size_toArray, List.length_cons, List.length_nil, Nat.reduceAdd, Nat.reduceSub, Array.replicate_succ, Array.replicate_zero, List.push_toArray, List.append_toArray, List.nil_append, List.cons_append]
    gi_wp2_with fail
    refine wpIn_mono (Q := OnlyAt { tmps := #[.pointer (some ⟨s, 0, none⟩), .pointer (some ⟨r, 0, none⟩), undef, .pointer (some ⟨w.heap.size, 0, none⟩), .pointer (some ⟨w.heap.size + 1, 0, none⟩), undef, undef, undef, .pointer (some ⟨s, 0, none⟩), .int .i64 L.length, .pointer (some ⟨r, 0, none⟩), .int .i64 R.length, .bool true, undef, undef, undef, undef, undef, undef, undef, undef, undef, undef, undef], defers := [] } ((w.alloc (.cells #[.pointer (some ⟨r, 0, none⟩)] 23)).alloc (.cells #[.bool false] 4)).drew) ?_ (OnlyAt.imp ?_)
    · gi_region_with (refine ⟨trivial, ?_⟩; (first | refine (callsIn_wide.2 (len_T _ s L hSd)).mono ?_ | refine (callsIn_wide.2 (len_T _ r R hRd)).mono ?_); rintro e w' ⟨rfl, rfl⟩)
      all_goals exact ⟨rfl, rfl⟩
    gi_wp2_with fail
    refine ⟨.bool false, ?_, by rw [hl2, Bool.false_and], hB0⟩
    have hc5 : ((w.alloc (.cells #[.pointer (some ⟨r, 0, none⟩)] 23)).alloc (.cells #[.bool false] 4)).drew.cell? ⟨w.heap.size + 1, 0, none⟩ = some (.bool false) := by go_simp
    simp [results, Try.results39, go_sem, hc5]

end Go.Proofs.Ytpkkdmhmnmjebaa.S
