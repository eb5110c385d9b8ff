/- SymBack returns true, whatever it is given. Conditions: strconv's table of powers and its two errors lie as the program lays them. -/
import Derived.Test.YtimeamehmefgnaaDoorWakesSS
import Derived.Test.YtimeamehmefgnaaDoorSyBackPl
namespace Go.Proofs.YtimeamehmefgnaaDoor
open Go Go.RowKit

theorem boxes2S (w : World) (x y : SymV) : Below w.heap.size w ((w.alloc (.cells #[.int .i64 x.k, .string x.t, .int .i64 x.n] 23)).alloc (.cells #[.int .i64 y.k, .string y.t, .int .i64 y.n] 23)) := ((Below.refl _ w).alloc (Nat.le_refl _) _).alloc (by simp) _

/-- Where the two arguments' boxes lie. -/
def Boxes2 (w : World) (x y : SymV) (W : World) : Prop :=
  W.heap[w.heap.size]? = some (.cells #[.int .i64 x.k, .string x.t, .int .i64 x.n] 23 (0, 0)) ∧ W.heap[w.heap.size + 1]? = some (.cells #[.int .i64 y.k, .string y.t, .int .i64 y.n] 23 (0, 0))

theorem Boxes2.start (w : World) (x y : SymV) : Boxes2 w x y ((w.alloc (.cells #[.int .i64 x.k, .string x.t, .int .i64 x.n] 23)).alloc (.cells #[.int .i64 y.k, .string y.t, .int .i64 y.n] 23)) := by
  refine ⟨?_, ?_⟩
  · rw [Below.heap_alloc _ _ _ (by simp)]; exact heap_alloc_new _ _
  · simpa using heap_alloc_new (w.alloc (.cells #[.int .i64 x.k, .string x.t, .int .i64 x.n] 23)) _

theorem Boxes2.below {w W W' : World} {x y : SymV} (h : Boxes2 w x y W) (hB : Below W.heap.size W W') : Boxes2 w x y W' :=
  ⟨(hB.block _ (lt_of_block h.1)).trans h.1, (hB.block _ (lt_of_block h.2)).trans h.2⟩

theorem Boxes2.cells {w W : World} {x y : SymV} (h : Boxes2 w x y W) : (W.cell? ⟨w.heap.size, 0, none⟩ = some (.int .i64 x.k) ∧ W.cell? ⟨w.heap.size, 1, none⟩ = some (.string x.t) ∧ W.cell? ⟨w.heap.size, 2, none⟩ = some (.int .i64 x.n)) ∧ (W.cell? ⟨(w.heap.size + 1), 0, none⟩ = some (.int .i64 y.k) ∧ W.cell? ⟨(w.heap.size + 1), 1, none⟩ = some (.string y.t) ∧ W.cell? ⟨(w.heap.size + 1), 2, none⟩ = some (.int .i64 y.n)) := by
  simp [World.cell?, h.1, h.2]

/-- The call's end: what is left of it is the example. -/
theorem symback_not (w : World) (x y : SymV) (hE : Env w) (h : 100 < x.t.size ∨ 100 < y.t.size ∨ validB x = false ∨ validB y = false) :
    Calls Tryd.prog 5 #[.agg #[.int .i64 x.k, .string x.t, .int .i64 x.n], .agg #[.int .i64 y.k, .string y.t, .int .i64 y.n]] w fun e w' => e = .returned (.bool true) ∧ Below w.heap.size w w' := by
  have hB0 := boxes2S w x y
  have hX0 := Boxes2.start w x y
  by_cases h1 : 100 < x.t.size
  · have f1 : ((100 : Int) < (x.t.size : Int)) = True := eq_true (by omega)
    clear h h1
    go_enter Tryd.func5, Tryd.ntmps5
    go_wp2_with fail
    generalize ((w.alloc (.cells #[.int .i64 x.k, .string x.t, .int .i64 x.n] 23)).alloc (.cells #[.int .i64 y.k, .string y.t, .int .i64 y.n] 23)) = W0 at hB0 hX0 ⊢
    refine (wakes_T W0 (hE.below hB0)).mono ?_
    rintro e w1 ⟨rfl, hB1⟩
    go_wp2_with fail
    go_ret
    exact ⟨rfl, hB0.trans (hB1.mono hB0.size)⟩
  · have f1 : ((100 : Int) < (x.t.size : Int)) = False := eq_false (by omega)
    by_cases h2 : 100 < y.t.size
    · have f2 : ((100 : Int) < (y.t.size : Int)) = True := eq_true (by omega)
      clear h h1 h2
      go_enter Tryd.func5, Tryd.ntmps5
      go_wp2_with fail
      generalize ((w.alloc (.cells #[.int .i64 x.k, .string x.t, .int .i64 x.n] 23)).alloc (.cells #[.int .i64 y.k, .string y.t, .int .i64 y.n] 23)) = W0 at hB0 hX0 ⊢
      refine (wakes_T W0 (hE.below hB0)).mono ?_
      rintro e w1 ⟨rfl, hB1⟩
      go_wp2_with fail
      go_ret
      exact ⟨rfl, hB0.trans (hB1.mono hB0.size)⟩
    · have f2 : ((100 : Int) < (y.t.size : Int)) = False := eq_false (by omega)
      have hm : x.t.size ≤ maxLen := by unfold maxLen; omega
      have hn : y.t.size ≤ maxLen := by unfold maxLen; omega
      have h' : validB x = false ∨ validB y = false := by rcases h with h | h | h <;> simp_all
      clear h h1 h2
      have k1 := fun w => valid_T w x hm
      have k2 := fun w => valid_T w y hn
      go_enter Tryd.func5, Tryd.ntmps5
      obtain ⟨⟨x0, x1, x2⟩, y0, y1, y2⟩ := hX0.cells
      go_wp2_with fail
      generalize ((w.alloc (.cells #[.int .i64 x.k, .string x.t, .int .i64 x.n] 23)).alloc (.cells #[.int .i64 y.k, .string y.t, .int .i64 y.n] 23)) = W0 at hB0 hX0 x0 x1 x2 y0 y1 y2 ⊢
      cases hvx : validB x
      · rw [hvx] at k1
        refine (k1 W0).mono ?_
        rintro e w1 ⟨rfl, hB1⟩
        have hC1 := hB0.trans (hB1.mono hB0.size)
        clear x0 x1 x2 y0 y1 y2
        go_wp2_with fail
        refine (wakes_T w1 (hE.below hC1)).mono ?_
        rintro e w2 ⟨rfl, hB2⟩
        go_wp2_with fail
        go_ret
        exact ⟨rfl, hC1.trans (hB2.mono hC1.size)⟩
      · have hvy : validB y = false := by rcases h' with h' | h'; rw [hvx] at h'; cases h'; exact h'
        rw [hvx] at k1
        rw [hvy] at k2
        clear h' hvx hvy
        refine (k1 W0).mono ?_
        rintro e w1 ⟨rfl, hB1⟩
        have hC1 := hB0.trans (hB1.mono hB0.size)
        have hX1 := hX0.below hB1
        clear x0 x1 x2 y0 y1 y2
        obtain ⟨⟨x0, x1, x2⟩, y0, y1, y2⟩ := hX1.cells
        go_wp2_with fail
        refine (k2 w1).mono ?_
        rintro e w2 ⟨rfl, hB2⟩
        have hC2 := hC1.trans (hB2.mono hC1.size)
        clear x0 x1 x2 y0 y1 y2
        go_wp2_with fail
        refine (wakes_T w2 (hE.below hC2)).mono ?_
        rintro e w3 ⟨rfl, hB3⟩
        go_wp2_with fail
        go_ret
        exact ⟨rfl, hC2.trans (hB3.mono hC2.size)⟩

set_option maxHeartbeats 3200000 in
theorem symback_yes (w : World) (x y : SymV) (hE : Env w) (hx : x.t.size ≤ 100) (hy : y.t.size ≤ 100) (hvx : validB x = true) (hvy : validB y = true) :
    Calls Tryd.prog 5 #[.agg #[.int .i64 x.k, .string x.t, .int .i64 x.n], .agg #[.int .i64 y.k, .string y.t, .int .i64 y.n]] w fun e w' => e = .returned (.bool true) ∧ Below w.heap.size w w' := by
  have hB0 := boxes2S w x y
  have hX0 := Boxes2.start w x y
  have f1 : ((100 : Int) < (x.t.size : Int)) = False := eq_false (by omega)
  have f2 : ((100 : Int) < (y.t.size : Int)) = False := eq_false (by omega)
  have k1 := fun w => valid_T w x (by unfold maxLen; omega)
  have k2 := fun w => valid_T w y (by unfold maxLen; omega)
  have k3 := fun w => text_T w x (by unfold maxLen; omega)
  have k4 := fun w => text_T w y (by unfold maxLen; omega)
  have k5 := fun w => parse_T w (textB x) (text_size hvx)
  rw [hvx] at k1
  rw [hvy] at k2
  obtain ⟨hpo, hpv⟩ := parse_text hvx
  rw [hpo, hpv] at k5
  have hsx : same ⟨x.k, x.t, x.n⟩ ⟨x.k, x.t, x.n⟩ = true := same_iff.2 rfl
  have hse := sym_eql
  have hue := text_uniq hvx hvy
  obtain ⟨tx, htx⟩ : ∃ t, textB x = t := ⟨_, rfl⟩
  obtain ⟨ty, hty⟩ : ∃ t, textB y = t := ⟨_, rfl⟩
  rw [htx] at k3 k5 hue
  rw [hty] at k4 hue
  clear hvx hvy hpo hpv htx hty hx hy
  go_enter Tryd.func5, Tryd.ntmps5
  obtain ⟨⟨x0, x1, x2⟩, y0, y1, y2⟩ := hX0.cells
  go_wp2_with fail
  generalize ((w.alloc (.cells #[.int .i64 x.k, .string x.t, .int .i64 x.n] 23)).alloc (.cells #[.int .i64 y.k, .string y.t, .int .i64 y.n] 23)) = W0 at hB0 hX0 x0 x1 x2 y0 y1 y2 ⊢
  refine (k1 W0).mono ?_
  rintro e w1 ⟨rfl, hB1⟩
  have hC1 := hB0.trans (hB1.mono hB0.size)
  have hX1 := hX0.below hB1
  clear x0 x1 x2 y0 y1 y2
  obtain ⟨⟨x0, x1, x2⟩, y0, y1, y2⟩ := hX1.cells
  go_wp2_with fail
  refine (k2 w1).mono ?_
  rintro e w2 ⟨rfl, hB2⟩
  have hC2 := hC1.trans (hB2.mono hC1.size)
  have hX2 := hX1.below hB2
  clear x0 x1 x2 y0 y1 y2
  obtain ⟨⟨x0, x1, x2⟩, y0, y1, y2⟩ := hX2.cells
  go_wp2_with fail
  refine (k3 w2 (hE.below hC2)).mono ?_
  rintro e w3 ⟨rfl, hB3⟩
  have hC3 := hC2.trans (hB3.mono hC2.size)
  have hX3 := hX2.below hB3
  clear x0 x1 x2 y0 y1 y2
  go_wp2_with fail
  refine (k5 w3 (hE.below hC3)).mono ?_
  rintro e w4 ⟨rfl, hB4⟩
  have hC4 := hC3.trans (hB4.mono hC3.size)
  have hX4 := hX3.below hB4
  have hB5 := box1_S w4 x
  have hb5 := heap_alloc_new w4 (.cells #[.int .i64 x.k, .string x.t, .int .i64 x.n] 23)
  have hX5 := hX4.below hB5
  have hC5 := hC4.trans (hB5.mono hC4.size)
  go_wp2_with fail
  generalize (w4.alloc (.cells #[.int .i64 x.k, .string x.t, .int .i64 x.n] 23)) = W5 at hB5 hb5 hX5 hC5 ⊢
  have hE5 := hE.below hC5
  have hmem : ∀ W, Below W5.heap.size W5 W → (W.cell? ⟨w4.heap.size, 0, none⟩ = some (.int .i64 x.k) ∧ W.cell? ⟨w4.heap.size, 1, none⟩ = some (.string x.t) ∧ W.cell? ⟨w4.heap.size, 2, none⟩ = some (.int .i64 x.n)) ∧ (W.cell? ⟨w.heap.size, 0, none⟩ = some (.int .i64 x.k) ∧ W.cell? ⟨w.heap.size, 1, none⟩ = some (.string x.t) ∧ W.cell? ⟨w.heap.size, 2, none⟩ = some (.int .i64 x.n)) ∧ (W.cell? ⟨(w.heap.size + 1), 0, none⟩ = some (.int .i64 y.k) ∧ W.cell? ⟨(w.heap.size + 1), 1, none⟩ = some (.string y.t) ∧ W.cell? ⟨(w.heap.size + 1), 2, none⟩ = some (.int .i64 y.n)) := by
    intro W hB
    have e1 := (hB.block _ (lt_of_block hb5)).trans hb5
    obtain ⟨e2, e3⟩ := (hX5.below hB).cells
    exact ⟨by simp [World.cell?, e1], e2, e3⟩
  have Hmem := Lib.hid hmem
  obtain ⟨⟨z0, z1, z2⟩, ⟨x0, x1, x2⟩, y0, y1, y2⟩ := hmem _ (Below.refl _ _)
  clear hmem hb5
  cases hq : same ⟨x.k, x.t, x.n⟩ ⟨y.k, y.t, y.n⟩
  all_goals
    rw [hq] at hue
    go_region_held3 (fun W => (W.cell? ⟨w4.heap.size, 0, none⟩ = some (.int .i64 x.k) ∧ W.cell? ⟨w4.heap.size, 1, none⟩ = some (.string x.t) ∧ W.cell? ⟨w4.heap.size, 2, none⟩ = some (.int .i64 x.n)) ∧ (W.cell? ⟨w.heap.size, 0, none⟩ = some (.int .i64 x.k) ∧ W.cell? ⟨w.heap.size, 1, none⟩ = some (.string x.t) ∧ W.cell? ⟨w.heap.size, 2, none⟩ = some (.int .i64 x.n)) ∧ (W.cell? ⟨(w.heap.size + 1), 0, none⟩ = some (.int .i64 y.k) ∧ W.cell? ⟨(w.heap.size + 1), 1, none⟩ = some (.string y.t) ∧ W.cell? ⟨(w.heap.size + 1), 2, none⟩ = some (.int .i64 y.n)))
      (first | go_keep | assumption)
      (first
        | ((with_reducible refine (k3 W5.drew (hE5.below (Below.refl _ _).drew)).mono ?_); rintro e w6 ⟨rfl, hB6⟩; have hC6 : Below W5.heap.size W5 w6 := (Below.refl _ W5).drew.trans hB6; have hm6 := Hmem.out w6 hC6; have hE6 := hE5.below hC6)
        | ((with_reducible refine (k4 w6 hE6).mono ?_); rintro e w7 ⟨rfl, hB7⟩; have hC7 := hC6.trans (hB7.mono hC6.size); have hm7 := Hmem.out w7 hC7; have hE7 := hE5.below hC7)
        | ((with_reducible refine (wakes_T w7 hE7).mono ?_); rintro e w8 ⟨rfl, hB8⟩; have hC8 := hC7.trans (hB8.mono hC7.size); have hm8 := Hmem.out w8 hC8)
        | fail "no arm")
    go_wp2_with fail
    go_ret
    exact ⟨rfl, hC5.trans (hC8.mono hC5.size)⟩

theorem symback_walk (w : World) (x y : SymV) (hE : Env w) :
    Calls Tryd.prog 5 #[.agg #[.int .i64 x.k, .string x.t, .int .i64 x.n], .agg #[.int .i64 y.k, .string y.t, .int .i64 y.n]] w fun e w' => e = .returned (.bool true) ∧ Below w.heap.size w w' := by
  by_cases h : 100 < x.t.size ∨ 100 < y.t.size ∨ validB x = false ∨ validB y = false
  · exact symback_not w x y hE h
  · exact symback_yes w x y hE (by omega) (by omega) (by cases hv : validB x <;> simp_all) (by cases hv : validB y <;> simp_all)

end Go.Proofs.YtimeamehmefgnaaDoor
