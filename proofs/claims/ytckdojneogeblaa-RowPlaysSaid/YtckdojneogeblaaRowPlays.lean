/- RowPlays returns true, whatever it is given. Conditions: none but that the calls lie in memory. -/
import Derived.Test.YtckdojneogeblaaPActs
import Derived.Test.YtckdojneogeblaaQLoop
import Derived.Test.YtckdojneogeblaaRowClones
import Derived.Deep.LoopGhost
namespace Go.Proofs.Ytckdojneogeblaa
open Go Go.RowKit QI

set_option maxHeartbeats 800000 in
theorem new_no (w : World) (z : Int) (hz : z < 1 ∨ 65536 < z) :
    Calls Try.prog 9 #[.int .i64 z] w fun e w' => e = .returned (.tuple #[.pointer none, .int .i64 1]) ∧ w' = w := by
  by_cases h : z < 1
  · have h3 : (z < 1) = True := eq_true h
    clear hz h
    go_enter Try.func9, Try.ntmps9
    go_wp2_with fail
    go_ret2
    exact ⟨rfl, rfl⟩
  · have h3 : (z < 1) = False := eq_false h
    have h4 : (65536 < z) = True := eq_true (by omega)
    clear hz h
    go_enter Try.func9, Try.ntmps9
    go_wp2_with fail
    go_ret2
    exact ⟨rfl, rfl⟩

/-- The list r and the queue q, the same values. -/
structure RQ (s room : Nat) (v uq : Value) (pp : Nat) (xs : List Int) (W : World) : Prop where
  row : Rw en 3 s W v xs
  q : QAt s W s room uq pp xs
  sep : ∀ g l, endOf uq = some (g, l) → some g ≠ ob v

theorem RQ.below {s room : Nat} {v uq : Value} {pp : Nat} {xs : List Int} {W W' : World} (h : RQ s room v uq pp xs W) (hB : Below W.heap.size W W') : RQ s room v uq pp xs W' := ⟨h.row.below hB, h.q.below hB, h.sep⟩

theorem Rw.tail0 {B : Nat} {W : World} {g off : Nat} {x : Int} (h : Rw en 3 B W (.slice (some ⟨g, off, none⟩) [x].length 1) [x]) : Rw en 3 B W (.slice (some ⟨g, off, none⟩) 0 0) [] := by
  rcases h with ⟨h, -⟩ | ⟨g', off', cap, cur, h, h1, h2, h3, h4, h5⟩
  · cases h
  · simp only [Value.slice.injEq, Option.some.injEq, Addr.mk.injEq, and_true] at h
    obtain ⟨⟨rfl, rfl⟩, -, rfl⟩ := h
    exact .inr ⟨g, off, 0, cur, rfl, h1, h2, Nat.le_refl _, by omega, by simp⟩

theorem Rw.tail1 {B : Nat} {W : World} {g off cap : Nat} {x : Int} {t : List Int} (h : Rw en 3 B W (.slice (some ⟨g, off, none⟩) (x :: t).length cap) (x :: t)) (hc : 1 ≤ cap) : Rw en 3 B W (.slice (some ⟨g, off + 1, none⟩) t.length (cap - 1)) t := by
  rcases h with ⟨h, -⟩ | ⟨g', off', cap', cur, h, h1, h2, h3, h4, h5⟩
  · cases h
  · simp only [Value.slice.injEq, Option.some.injEq, Addr.mk.injEq, and_true] at h
    obtain ⟨⟨rfl, rfl⟩, -, rfl⟩ := h
    simp only [List.length_cons] at h3
    refine .inr ⟨g, off + 1, cap - 1, cur, rfl, h1, h2, by omega, by omega, fun i y hy => ?_⟩
    have := h5 (i + 1) y (by simpa using hy)
    rw [show off + 1 + i = off + (i + 1) by omega]; exact this

theorem sep_step {B : Nat} {W : World} {v v' uq : Value} {xs : List Int} (hs : ∀ g l, endOf uq = some (g, l) → some g ≠ ob v) (hq : Rw en 3 B W uq xs) (hE : ∀ g l, endOf v' = some (g, l) → (∃ l0, endOf v = some (g, l0) ∧ l0 ≤ l) ∨ W.heap.size ≤ g) : ∀ g l, endOf uq = some (g, l) → some g ≠ ob v' := by
  intro g l e e2
  obtain ⟨⟨g', l'⟩, e3, e4⟩ := Option.map_eq_some_iff.1 e2.symm
  simp only at e4
  subst e4
  rcases hE g' l' e3 with ⟨l0, e0, -⟩ | h
  · exact hs g' l e (end_ob e0).symm
  · have := (hq.end_ge g' l e).2.1; omega

set_option maxRecDepth 100000 in
set_option maxHeartbeats 4000000 in
theorem plays_walk (w : World) (room : Nat) (v : Value) (acts : List PAct) (hv : PActs w v acts) (hr1 : 1 ≤ room) (hr2 : room ≤ 65536) (hl : acts.length ≤ 200) :
    Calls Try.prog 3 #[.int .i64 room, v] w fun e w' => e = .returned (.bool true) ∧ Below w.heap.size w w' := by
  obtain ⟨i0, hi, hz0, hz1, hz2⟩ := info_parts' infoT
  have hv0 := hv
  obtain ⟨a, cap, rfl, -⟩ := hv
  have Hv : Hid (∀ W, Below w.heap.size w W → ∀ i x, acts[i]? = some x → ∃ b off, a = some ⟨b, off, none⟩ ∧ W.cell? ⟨b, off + i * 3, none⟩ = some (.int .i64 x.d) ∧ W.cell? ⟨b, off + i * 3 + 1, none⟩ = some (.int .i64 x.n) ∧ W.cell? ⟨b, off + i * 3 + 2, none⟩ = some (.slice x.sa x.l.length x.sc) ∧ IntsOf W (.slice x.sa x.l.length x.sc) x.l) := Lib.hid (by
    intro W hB i x hx
    obtain ⟨a', cap', e, h⟩ := hv0.below hB
    simp only [Value.slice.injEq] at e
    obtain ⟨rfl, -, -⟩ := e
    exact h i x hx)
  clear hv0
  have f1 : ((room : Int) < 1) = False := eq_false (by omega)
  have f2 : ((65536 : Int) < (room : Int)) = False := eq_false (by omega)
  go_enter Try.func3, Try.ntmps3
  go_wp2_with fail
  refine (new_yes w room hr1 hr2).mono ?_
  rintro e w1 ⟨rfl, hQ1, hB1⟩
  have HQ1 := Lib.hid hQ1
  clear hQ1
  have hv1 : RQ w.heap.size room (.slice none 0 0) (.slice none 0 0) 0 [] w1 := ⟨Rw.nil _, HQ1.out, fun g l e => by simp [endOf] at e⟩
  have Hv1 := Lib.hid hv1
  clear hv1
  go_wp2_with fail
  go_loopg [7, 8] (acts.length - 0) (fun m rv i wr => ∃ j : Nat, i = .int .i64 j ∧ j ≤ acts.length ∧ Hid (m = acts.length - j) ∧ Hid (∃ uq pp xs, RQ w.heap.size room rv uq pp xs wr) ∧ Below w.heap.size w wr)
  case atStart => exact ⟨0, rfl, by omega, Lib.hid rfl, Lib.hid ⟨_, _, _, Hv1.out⟩, hB1⟩
  case round =>
    obtain ⟨j, rfl, hj, Hm, HE, hB⟩ := hrel
    obtain ⟨uq, pp, xs, hRQ⟩ := HE.out
    obtain ⟨ar, cr, rfl, -, -, hrc⟩ := hRQ.row.src
    have HR := Lib.hid hRQ
    have HB := Lib.hid hB
    have hxr := hRQ.q.2.2.2.1
    clear hRQ HE
    by_cases hlt : j < acts.length
    · obtain ⟨x, hx⟩ : ∃ x, acts[j]? = some x := ⟨acts[j], by simp [hlt]⟩
      obtain ⟨b, off, rfl, hxc0, hxc1, hxc2, hxi⟩ := Hv.out wr hB j x hx
      have Hx := Lib.hid hx
      clear hx hB
      by_cases hlen : x.l.length ≤ 100
      · go_wp2_with fail
        refine (within_any wr x.d 4 (by omega) (by omega)).mono ?_
        rintro e wk ⟨⟨k, rfl, hk⟩, rfl⟩
        obtain rfl | rfl | rfl | rfl : k = 0 ∨ k = 1 ∨ k = 2 ∨ k = 3 := by omega
        · by_cases hfit : xs.length + x.l.length ≤ room
          · have g1 : ((x.l.length : Int) ≤ (room : Int) - (xs.length : Int)) = True := eq_true (by omega)
            go_wp2_with fail
            refine (push_yes w.heap.size wk w.heap.size room uq pp xs HR.out.q x.sa x.l.length x.sc x.l rfl hxi.src (by have := HB.out.size; omega) hfit).mono ?_
            rintro e w4 ⟨rfl, u4, hQ4, hF4, hE4⟩
            have hB4 := hF4.below (B := w.heap.size) (Nat.le_refl _) (fun g l e => (HR.out.q.2.1.end_ge g l e).1) (by have := HB.out.size; omega)
            have HR4 : Hid (RQ w.heap.size room (.slice ar xs.length cr) u4 pp (xs ++ x.l) w4 ∨ True) := Lib.hid (.inr trivial)
            have hrow4 : Rw en 3 w.heap.size w4 (.slice ar xs.length cr) xs := HR.out.row.keep fun g l e => hF4.block g (HR.out.row.end_ge g l e).2.1 (by
              have h1 := Rw.ne_of HR.out.row HR.out.q.1 (by decide) g l e
              exact h1) (fun g' l' e' e2 => HR.out.sep g' l' e' (by rw [← e2, end_ob e]))
            have hsep4 : ∀ g l, endOf u4 = some (g, l) → some g ≠ ob (.slice ar xs.length cr) := by
              intro g l e e2
              rcases hE4 g l e with ⟨l0, e0, -⟩ | h
              · exact HR.out.sep g l0 e0 e2
              · have := (ob_lt HR.out.row g e2.symm).2; omega
            have HQ4 := Lib.hid hQ4
            have Hrow4 := Lib.hid hrow4
            have Hsep4 := Lib.hid hsep4
            have HB4 := Lib.hid (HB.out.trans hB4)
            obtain ⟨b', off', e4, g0, g1, g2, hxi4⟩ := Hv.out w4 HB4.out j x Hx.out
            cases e4
            have hsz4 := HB4.out.size
            clear hQ4 hF4 hE4 HR4 hrow4 hsep4 hB4 hxc0 hxc1 hxc2
            have hroom := HQ4.out.2.2.2.1
            go_wp2_with (at_builtin; refine wpList_append_rw (B := w.heap.size) one rfl _ _ 28 rfl Try.underlying28 hi hz0 hz1 hz2 rfl (.slice ar xs.length cr) xs rfl Hrow4.out x.sa x.l.length x.sc x.l rfl rfl hxi4.src (by omega) (by omega) (by omega) ?_; intro v5 w5 hR5 hF5 hE5 hN5; have hB5 := hF5.below (B := w.heap.size) (fun g l e => (Hrow4.out.end_ge g l e).1) (by omega); have hQ5 : QAt w.heap.size w5 w.heap.size room u4 pp (xs ++ x.l) := ⟨(hF5.block _ (lt_of_block HQ4.out.1) (fun g l e => (Rw.ne_of Hrow4.out HQ4.out.1 (by decide) g l e).symm)).trans HQ4.out.1, HQ4.out.2.1.keep fun g l e => hF5.block g (HQ4.out.2.1.end_ge g l e).2.1 (fun g' l' e' e2 => Hsep4.out g l e (by rw [e2, end_ob e'])), HQ4.out.2.2⟩; have HR5 : Hid (RQ w.heap.size room v5 u4 pp (xs ++ x.l) w5) := Lib.hid ⟨hR5, hQ5, sep_step Hsep4.out HQ4.out.2.1 hE5⟩; have HB5 := Lib.hid (HB4.out.trans hB5); clear hR5 hF5 hE5 hN5 hB5 hQ5; obtain ⟨a5, c5, rfl, -, -, -⟩ := HR5.out.row.src)
            go_wp2_with fail
            refine (len_T w.heap.size w5 w.heap.size room u4 pp (xs ++ x.l) HR5.out.q).mono ?_
            rintro e wz ⟨rfl, rfl⟩
            go_wp2_with fail
            go_roundg (acts.length - (j + 1))
            case measure => rw [Hm.out]; omega
            case rel => exact ⟨j + 1, rfl, by omega, Lib.hid rfl, Lib.hid ⟨_, _, _, by have h := HR5.out; rw [List.length_append] at h; exact h⟩, HB5.out⟩
          · have g1 : ((x.l.length : Int) ≤ (room : Int) - (xs.length : Int)) = False := eq_false (by omega)
            go_wp2_with fail
            refine (push_no w.heap.size wk w.heap.size room uq pp xs HR.out.q x.sa x.l.length x.sc (by omega) (by omega)).mono ?_
            rintro e w4 ⟨rfl, hB4⟩
            have HR4 := Lib.hid (HR.out.below hB4)
            have HB4 := Lib.hid (HB.out.trans (hB4.mono HB.out.size))
            clear hB4 hxc0 hxc1 hxc2
            go_wp2_with fail
            refine (len_T w.heap.size w4 w.heap.size room uq pp xs HR4.out.q).mono ?_
            rintro e wz ⟨rfl, rfl⟩
            go_wp2_with fail
            go_roundg (acts.length - (j + 1))
            case measure => rw [Hm.out]; omega
            case rel => exact ⟨j + 1, rfl, by omega, Lib.hid rfl, Lib.hid ⟨_, _, _, HR4.out⟩, HB4.out⟩
        · by_cases hfit : xs.length + x.l.length ≤ room
          · have g1 : ((x.l.length : Int) ≤ (room : Int) - (xs.length : Int)) = True := eq_true (by omega)
            go_wp2_with fail
            refine (push_yes w.heap.size wk w.heap.size room uq pp xs HR.out.q x.sa x.l.length x.sc x.l rfl hxi.src (by have := HB.out.size; omega) hfit).mono ?_
            rintro e w4 ⟨rfl, u4, hQ4, hF4, hE4⟩
            have hB4 := hF4.below (B := w.heap.size) (Nat.le_refl _) (fun g l e => (HR.out.q.2.1.end_ge g l e).1) (by have := HB.out.size; omega)
            have HR4 : Hid (RQ w.heap.size room (.slice ar xs.length cr) u4 pp (xs ++ x.l) w4 ∨ True) := Lib.hid (.inr trivial)
            have hrow4 : Rw en 3 w.heap.size w4 (.slice ar xs.length cr) xs := HR.out.row.keep fun g l e => hF4.block g (HR.out.row.end_ge g l e).2.1 (by
              have h1 := Rw.ne_of HR.out.row HR.out.q.1 (by decide) g l e
              exact h1) (fun g' l' e' e2 => HR.out.sep g' l' e' (by rw [← e2, end_ob e]))
            have hsep4 : ∀ g l, endOf u4 = some (g, l) → some g ≠ ob (.slice ar xs.length cr) := by
              intro g l e e2
              rcases hE4 g l e with ⟨l0, e0, -⟩ | h
              · exact HR.out.sep g l0 e0 e2
              · have := (ob_lt HR.out.row g e2.symm).2; omega
            have HQ4 := Lib.hid hQ4
            have Hrow4 := Lib.hid hrow4
            have Hsep4 := Lib.hid hsep4
            have HB4 := Lib.hid (HB.out.trans hB4)
            obtain ⟨b', off', e4, g0, g1, g2, hxi4⟩ := Hv.out w4 HB4.out j x Hx.out
            cases e4
            have hsz4 := HB4.out.size
            clear hQ4 hF4 hE4 HR4 hrow4 hsep4 hB4 hxc0 hxc1 hxc2
            have hroom := HQ4.out.2.2.2.1
            go_wp2_with (at_builtin; refine wpList_append_rw (B := w.heap.size) one rfl _ _ 28 rfl Try.underlying28 hi hz0 hz1 hz2 rfl (.slice ar xs.length cr) xs rfl Hrow4.out x.sa x.l.length x.sc x.l rfl rfl hxi4.src (by omega) (by omega) (by omega) ?_; intro v5 w5 hR5 hF5 hE5 hN5; have hB5 := hF5.below (B := w.heap.size) (fun g l e => (Hrow4.out.end_ge g l e).1) (by omega); have hQ5 : QAt w.heap.size w5 w.heap.size room u4 pp (xs ++ x.l) := ⟨(hF5.block _ (lt_of_block HQ4.out.1) (fun g l e => (Rw.ne_of Hrow4.out HQ4.out.1 (by decide) g l e).symm)).trans HQ4.out.1, HQ4.out.2.1.keep fun g l e => hF5.block g (HQ4.out.2.1.end_ge g l e).2.1 (fun g' l' e' e2 => Hsep4.out g l e (by rw [e2, end_ob e'])), HQ4.out.2.2⟩; have HR5 : Hid (RQ w.heap.size room v5 u4 pp (xs ++ x.l) w5) := Lib.hid ⟨hR5, hQ5, sep_step Hsep4.out HQ4.out.2.1 hE5⟩; have HB5 := Lib.hid (HB4.out.trans hB5); clear hR5 hF5 hE5 hN5 hB5 hQ5; obtain ⟨a5, c5, rfl, -, -, -⟩ := HR5.out.row.src)
            go_wp2_with fail
            refine (len_T w.heap.size w5 w.heap.size room u4 pp (xs ++ x.l) HR5.out.q).mono ?_
            rintro e wz ⟨rfl, rfl⟩
            go_wp2_with fail
            go_roundg (acts.length - (j + 1))
            case measure => rw [Hm.out]; omega
            case rel => exact ⟨j + 1, rfl, by omega, Lib.hid rfl, Lib.hid ⟨_, _, _, by have h := HR5.out; rw [List.length_append] at h; exact h⟩, HB5.out⟩
          · have g1 : ((x.l.length : Int) ≤ (room : Int) - (xs.length : Int)) = False := eq_false (by omega)
            go_wp2_with fail
            refine (push_no w.heap.size wk w.heap.size room uq pp xs HR.out.q x.sa x.l.length x.sc (by omega) (by omega)).mono ?_
            rintro e w4 ⟨rfl, hB4⟩
            have HR4 := Lib.hid (HR.out.below hB4)
            have HB4 := Lib.hid (HB.out.trans (hB4.mono HB.out.size))
            clear hB4 hxc0 hxc1 hxc2
            go_wp2_with fail
            refine (len_T w.heap.size w4 w.heap.size room uq pp xs HR4.out.q).mono ?_
            rintro e wz ⟨rfl, rfl⟩
            go_wp2_with fail
            go_roundg (acts.length - (j + 1))
            case measure => rw [Hm.out]; omega
            case rel => exact ⟨j + 1, rfl, by omega, Lib.hid rfl, Lib.hid ⟨_, _, _, HR4.out⟩, HB4.out⟩
        · rcases xs with _ | ⟨x0, t⟩
          · go_wp2_with fail
            refine (pop_none w.heap.size wk w.heap.size room uq pp HR.out.q).mono ?_
            rintro e w4 ⟨rfl, hB4⟩
            have HR4 := Lib.hid (HR.out.below hB4)
            have HB4 := Lib.hid (HB.out.trans (hB4.mono HB.out.size))
            clear hB4 hxc0 hxc1 hxc2
            go_wp2_with fail
            refine (len_T w.heap.size w4 w.heap.size room uq pp [] HR4.out.q).mono ?_
            rintro e wz ⟨rfl, rfl⟩
            go_wp2_with fail
            go_roundg (acts.length - (j + 1))
            case measure => rw [Hm.out]; omega
            case rel => exact ⟨j + 1, rfl, by omega, Lib.hid rfl, Lib.hid ⟨_, _, _, HR4.out⟩, HB4.out⟩
          · obtain ⟨g, off2, cap', e0, hc0⟩ := HR.out.row.cellAt 0 x0 rfl
            simp only [Value.slice.injEq] at e0
            obtain ⟨rfl, -, rfl⟩ := e0
            go_wp2_with fail
            refine (pop_some w.heap.size wk w.heap.size room uq pp x0 t HR.out.q (by have := HB.out.size; omega)).mono ?_
            rintro e w4 ⟨rfl, u4, ⟨p4, hQ4⟩, hF4, hE4⟩
            have hgs : g ≠ w.heap.size := Rw.ne_of HR.out.row HR.out.q.1 (by decide) g _ rfl
            have hB4 := hF4.below (B := w.heap.size) (Nat.le_refl _) (fun g l e => by cases e) (by have := HB.out.size; omega)
            have hrow4 : Rw en 3 w.heap.size w4 (.slice (some ⟨g, off2, none⟩) (x0 :: t).length cr) (x0 :: t) := HR.out.row.keep fun g' l e => hF4.block g' (HR.out.row.end_ge g' l e).2.1 (by simp [endOf] at e; omega) (fun _ _ e => by cases e)
            have hr0 : w4.cell? ⟨g, off2, none⟩ = some (.int .i64 x0) := hF4.keep (by simpa using hc0) hgs (fun _ _ e => by cases e)
            have Hsep4 : Hid (∀ g' l, endOf u4 = some (g', l) → some g' ≠ some g) := Lib.hid (by
              intro g' l e e2
              rcases hE4 g' l e with ⟨l0, e0, -⟩ | h
              · exact HR.out.sep g' l0 e0 (by simpa [ob, endOf] using e2)
              · have := (HR.out.row.end_ge g _ rfl).2.1; cases e2; omega)
            have HQ4 := Lib.hid hQ4
            have Hrow4 := Lib.hid hrow4
            have HB4 := Lib.hid (HB.out.trans hB4)
            simp only [List.length_cons] at hrc hxr
            clear hQ4 hF4 hE4 hrow4 hB4 hxc0 hxc1 hxc2 hc0
            by_cases hc1 : cr = 1
            · obtain rfl : t = [] := List.length_eq_zero_iff.1 (by omega)
              subst hc1
              have hR5 : Hid (RQ w.heap.size room (.slice (some ⟨g, off2, none⟩) 0 0) u4 p4 [] w4) := Lib.hid ⟨Hrow4.out.tail0, HQ4.out, fun g' l e e2 => Hsep4.out g' l e e2⟩
              go_wp2_with fail
              go_wp2_with fail
              refine (len_T w.heap.size w4 w.heap.size room u4 p4 [] hR5.out.q).mono ?_
              rintro e wz ⟨rfl, rfl⟩
              go_wp2_with fail
              go_roundg (acts.length - (j + 1))
              case measure => rw [Hm.out]; omega
              case rel => exact ⟨j + 1, rfl, by omega, Lib.hid rfl, Lib.hid ⟨_, _, _, hR5.out⟩, HB4.out⟩
            · have hc2 : (cr = 1) = False := eq_false hc1
              have hR5 : Hid (RQ w.heap.size room (.slice (some ⟨g, off2 + 1, none⟩) t.length (cr - 1)) u4 p4 t w4) := Lib.hid ⟨Hrow4.out.tail1 (by omega), HQ4.out, fun g' l e e2 => Hsep4.out g' l e e2⟩
              go_wp2_with fail
              go_wp2_with fail
              refine (len_T w.heap.size w4 w.heap.size room u4 p4 t hR5.out.q).mono ?_
              rintro e wz ⟨rfl, rfl⟩
              go_wp2_with fail
              go_roundg (acts.length - (j + 1))
              case measure => rw [Hm.out]; omega
              case rel => exact ⟨j + 1, rfl, by omega, Lib.hid rfl, Lib.hid ⟨_, _, _, hR5.out⟩, HB4.out⟩
        · by_cases hn : 0 ≤ x.n ∧ x.n < (xs.length : Int)
          · obtain ⟨q, hq⟩ : ∃ q : Nat, x.n = q := ⟨x.n.toNat, by omega⟩
            obtain ⟨y, hy⟩ : ∃ y, xs[q]? = some y := ⟨xs[q]'(by omega), by simp⟩
            have hql : q < xs.length := by omega
            obtain ⟨g, off2, cap', e0, hc0⟩ := HR.out.row.cellAt q y hy
            simp only [Value.slice.injEq] at e0
            obtain ⟨rfl, -, rfl⟩ := e0
            rw [hq] at hxc1
            have n1 : ((0 : Int) ≤ (q : Int)) = True := eq_true (by omega)
            have n2 : ((q : Int) < (xs.length : Int)) = True := eq_true (by omega)
            have Hq := Lib.hid hq
            have Hy := Lib.hid hy
            clear hn hq hy
            go_wp2_with fail
            refine (at_yes w.heap.size wk w.heap.size room uq pp xs HR.out.q q y Hy.out).mono ?_
            rintro e w4 ⟨rfl, hB4⟩
            obtain ⟨b', off', e4, hz0, hz1, hz2', -⟩ := Hv.out w4 (HB.out.trans (hB4.mono HB.out.size)) j x Hx.out
            cases e4
            rw [Hq.out] at hz1
            have hc4 := (hB4.cell (p := ⟨g, off2 + q, none⟩) (World.block_lt_of_cell? wk _ hc0)).trans hc0
            have HR4 := Lib.hid (HR.out.below hB4)
            have HB4 := Lib.hid (HB.out.trans (hB4.mono HB.out.size))
            clear hB4 hxc0 hxc1 hxc2 hc0
            go_wp2_with fail
            refine (len_T w.heap.size w4 w.heap.size room uq pp xs HR4.out.q).mono ?_
            rintro e wz ⟨rfl, rfl⟩
            go_wp2_with fail
            go_roundg (acts.length - (j + 1))
            case measure => rw [Hm.out]; omega
            case rel => exact ⟨j + 1, rfl, by omega, Lib.hid rfl, Lib.hid ⟨_, _, _, HR4.out⟩, HB4.out⟩
          · have hn2 : x.n < 0 ∨ (xs.length : Int) ≤ x.n := by omega
            go_wp2_with fail
            refine (at_no w.heap.size wk w.heap.size room uq pp xs HR.out.q x.n hn2).mono ?_
            rintro e w4 ⟨rfl, hB4⟩
            obtain ⟨b', off', e4, hz0, hz1, hz2', -⟩ := Hv.out w4 (HB.out.trans (hB4.mono HB.out.size)) j x Hx.out
            cases e4
            have HR4 := Lib.hid (HR.out.below hB4)
            have HB4 := Lib.hid (HB.out.trans (hB4.mono HB.out.size))
            clear hB4 hxc0 hxc1 hxc2
            by_cases hneg : 0 ≤ x.n
            · have n1 : ((0 : Int) ≤ x.n) = True := eq_true hneg
              have n2 : (x.n < (xs.length : Int)) = False := eq_false (by omega)
              clear hn hn2 hneg
              go_wp2_with fail
              refine (len_T w.heap.size w4 w.heap.size room uq pp xs HR4.out.q).mono ?_
              rintro e wz ⟨rfl, rfl⟩
              go_wp2_with fail
              go_roundg (acts.length - (j + 1))
              case measure => rw [Hm.out]; omega
              case rel => exact ⟨j + 1, rfl, by omega, Lib.hid rfl, Lib.hid ⟨_, _, _, HR4.out⟩, HB4.out⟩
            · have n1 : ((0 : Int) ≤ x.n) = False := eq_false hneg
              clear hn hn2 hneg
              go_wp2_with fail
              refine (len_T w.heap.size w4 w.heap.size room uq pp xs HR4.out.q).mono ?_
              rintro e wz ⟨rfl, rfl⟩
              go_wp2_with fail
              go_roundg (acts.length - (j + 1))
              case measure => rw [Hm.out]; omega
              case rel => exact ⟨j + 1, rfl, by omega, Lib.hid rfl, Lib.hid ⟨_, _, _, HR4.out⟩, HB4.out⟩
      · have g1 : ((100 : Int) < (x.l.length : Int)) = True := eq_true (by omega)
        go_wp2_with fail
        refine (wakes_T wr).mono ?_
        rintro e w5 ⟨rfl, hB5⟩
        go_wp2_with fail
        go_ret
        exact ⟨rfl, HB.out.trans (hB5.mono HB.out.size)⟩
    · obtain rfl : j = acts.length := by omega
      go_wp2_with fail
      refine (all_T wr (some ⟨w.heap.size, 0, none⟩)).mono ?_
      rintro e w5 ⟨rfl, hw5⟩
      have hB5 : Below wr.heap.size wr w5 := by rw [hw5]; exact (Below.refl _ wr).alloc (Nat.le_refl _) _
      have hbx : w5.heap[wr.heap.size]? = some (.cells #[.pointer (some ⟨w.heap.size, 0, none⟩)] 23 (0, 0)) := by rw [hw5]; exact heap_alloc_new wr _
      clear hw5
      have hB05 := HB.out.trans (hB5.mono HB.out.size)
      have hR5 := HR.out.below hB5
      obtain ⟨au, cu, rfl, -, -, -⟩ := hR5.q.2.1.src
      have hll := list_all w5 wr.heap.size w.heap.size au cu xs hbx (cell_of_heap hR5.q.1 (i := 0) rfl) (by omega) hR5.q.2.1.ints
      have hri := hR5.row.ints
      clear hbx hR5
      go_wp2_with fail
      refine hll.mono ?_
      rintro e w6 ⟨v6, rfl, hi6, hB6⟩
      have hB06 := hB05.trans (hB6.mono hB05.size)
      have hin := ints_T w6 v6 (.slice ar xs.length cr) xs hi6 (hri.below hB6) (by omega)
      clear hll hi6 hri
      go_wp2_with fail
      refine hin.mono ?_
      rintro e w7 ⟨rfl, hB7⟩
      clear hin
      go_wp2_with fail
      refine (wakes_T w7).mono ?_
      rintro e w8 ⟨rfl, hB8⟩
      go_wp2_with fail
      go_ret
      exact ⟨rfl, (hB06.trans (hB7.mono hB06.size)).trans (hB8.mono (Nat.le_trans hB06.size hB7.size))⟩

set_option maxRecDepth 100000 in
set_option maxHeartbeats 4000000 in
theorem plays_any (w : World) (z : Int) (v : Value) (acts : List PAct) (hv : PActs w v acts) :
    Calls Try.prog 3 #[.int .i64 z, v] w fun e w' => e = .returned (.bool true) ∧ Below w.heap.size w w' := by
  have hv0 := hv
  obtain ⟨a, cap, rfl, -⟩ := hv
  by_cases h : z < 1 ∨ 65536 < z
  · clear hv0
    by_cases h1 : z < 1
    · have f1 : (z < 1) = True := eq_true h1
      go_enter Try.func3, Try.ntmps3
      go_wp2_with fail
      refine (new_no w z h).mono ?_
      rintro e w1 ⟨rfl, rfl⟩
      clear h h1
      go_wp2_with fail
      refine (wakes_T w1).mono ?_
      rintro e w2 ⟨rfl, hB2⟩
      go_wp2_with fail
      go_ret
      exact ⟨rfl, hB2⟩
    · have f1 : (z < 1) = False := eq_false h1
      have f2 : (65536 < z) = True := eq_true (by omega)
      go_enter Try.func3, Try.ntmps3
      go_wp2_with fail
      refine (new_no w z h).mono ?_
      rintro e w1 ⟨rfl, rfl⟩
      clear h h1
      go_wp2_with fail
      refine (wakes_T w1).mono ?_
      rintro e w2 ⟨rfl, hB2⟩
      go_wp2_with fail
      go_ret
      exact ⟨rfl, hB2⟩
  · obtain ⟨room, rfl⟩ : ∃ room : Nat, z = room := ⟨z.toNat, by omega⟩
    by_cases hl : acts.length ≤ 200
    · exact plays_walk w room _ acts hv0 (by omega) (by omega) hl
    · clear hv0
      have f1 : ((room : Int) < 1) = False := eq_false (by omega)
      have f2 : ((65536 : Int) < (room : Int)) = False := eq_false (by omega)
      have f3 : ((200 : Int) < (acts.length : Int)) = True := eq_true (by omega)
      have hr : 1 ≤ room ∧ room ≤ 65536 := by omega
      clear h hl
      go_enter Try.func3, Try.ntmps3
      go_wp2_with fail
      refine (new_yes w room hr.1 hr.2).mono ?_
      rintro e w1 ⟨rfl, -, hB1⟩
      go_wp2_with fail
      refine (wakes_T w1).mono ?_
      rintro e w2 ⟨rfl, hB2⟩
      go_wp2_with fail
      go_ret
      exact ⟨rfl, hB1.trans (hB2.mono hB1.size)⟩

end Go.Proofs.Ytckdojneogeblaa
