/- SymOrder returns true, whatever it is given. Conditions: strconv's table of powers and its two errors lie as the program lays them. -/
import Derived.Test.YtimeamehmefgnaaDoorWakesSS
import Derived.Test.YtimeamehmefgnaaDoorRefAS
namespace Go.Proofs.YtimeamehmefgnaaDoor
open Go Go.RowKit

theorem boxes3 (w : World) (x y z : SymV) : Below w.heap.size w (((w.alloc (.cells #[.int .i64 x.k, .string x.t, .int .i64 x.n] 23)).alloc (.cells #[.int .i64 y.k, .string y.t, .int .i64 y.n] 23)).alloc (.cells #[.int .i64 z.k, .string z.t, .int .i64 z.n] 23)) :=
  (((Below.refl _ w).alloc (Nat.le_refl _) _).alloc (by simp) _).alloc (by simp; omega) _

/-- Where the three arguments' boxes lie. -/
def Boxes3 (w : World) (x y z : SymV) (W : World) : Prop :=
  W.heap[w.heap.size]? = some (.cells #[.int .i64 x.k, .string x.t, .int .i64 x.n] 23 (0, 0)) ∧ W.heap[w.heap.size + 1]? = some (.cells #[.int .i64 y.k, .string y.t, .int .i64 y.n] 23 (0, 0)) ∧ W.heap[w.heap.size + 1 + 1]? = some (.cells #[.int .i64 z.k, .string z.t, .int .i64 z.n] 23 (0, 0))

theorem Boxes3.start (w : World) (x y z : SymV) : Boxes3 w x y z (((w.alloc (.cells #[.int .i64 x.k, .string x.t, .int .i64 x.n] 23)).alloc (.cells #[.int .i64 y.k, .string y.t, .int .i64 y.n] 23)).alloc (.cells #[.int .i64 z.k, .string z.t, .int .i64 z.n] 23)) := by
  refine ⟨?_, ?_, ?_⟩
  · rw [Below.heap_alloc _ _ _ (by simp; omega), Below.heap_alloc _ _ _ (by simp)]; exact heap_alloc_new _ _
  · rw [Below.heap_alloc _ _ _ (by simp)]; simpa using heap_alloc_new (w.alloc (.cells #[.int .i64 x.k, .string x.t, .int .i64 x.n] 23)) _
  · simpa using heap_alloc_new ((w.alloc (.cells #[.int .i64 x.k, .string x.t, .int .i64 x.n] 23)).alloc (.cells #[.int .i64 y.k, .string y.t, .int .i64 y.n] 23)) _

theorem Boxes3.below {w W W' : World} {x y z : SymV} (h : Boxes3 w x y z W) (hB : Below W.heap.size W W') : Boxes3 w x y z W' :=
  ⟨(hB.block _ (lt_of_block h.1)).trans h.1, (hB.block _ (lt_of_block h.2.1)).trans h.2.1, (hB.block _ (lt_of_block h.2.2)).trans h.2.2⟩

theorem Boxes3.cells {w W : World} {x y z : SymV} (h : Boxes3 w x y z W) : (W.cell? ⟨w.heap.size, 0, none⟩ = some (.int .i64 x.k) ∧ W.cell? ⟨w.heap.size, 1, none⟩ = some (.string x.t) ∧ W.cell? ⟨w.heap.size, 2, none⟩ = some (.int .i64 x.n)) ∧ (W.cell? ⟨(w.heap.size + 1), 0, none⟩ = some (.int .i64 y.k) ∧ W.cell? ⟨(w.heap.size + 1), 1, none⟩ = some (.string y.t) ∧ W.cell? ⟨(w.heap.size + 1), 2, none⟩ = some (.int .i64 y.n)) ∧ (W.cell? ⟨(w.heap.size + 1 + 1), 0, none⟩ = some (.int .i64 z.k) ∧ W.cell? ⟨(w.heap.size + 1 + 1), 1, none⟩ = some (.string z.t) ∧ W.cell? ⟨(w.heap.size + 1 + 1), 2, none⟩ = some (.int .i64 z.n)) := by
  simp [World.cell?, h.1, h.2.1, h.2.2]

theorem same_cmp (x y : SymV) : same x y = decide (symCmp x y = 0) := by
  by_cases h : x = y
  · subst h; simp [same_iff.2, symCmp_lin.refl]
  · have h1 : same x y = false := by rw [← Bool.not_eq_true, same_iff]; exact h
    have h2 : ¬ symCmp x y = 0 := fun e => h ((S.symCmp_exact x y).1 e)
    simp [h1, h2]

set_option maxHeartbeats 3200000 in
theorem symorder_walk (w : World) (a b d : SymV) (hE : Env w) : Calls Tryd.prog 6 #[.agg #[.int .i64 a.k, .string a.t, .int .i64 a.n], .agg #[.int .i64 b.k, .string b.t, .int .i64 b.n], .agg #[.int .i64 d.k, .string d.t, .int .i64 d.n]] w fun e w' => e = .returned (.bool true) ∧ Below w.heap.size w w' := by
  have hB0 := boxes3 w a b d
  have hX0 := Boxes3.start w a b d
  have hsw := symCmp_lin.swap a b
  have htr : symCmp a b < 0 → symCmp b d < 0 → symCmp a d < 0 := fun h1 h2 => symCmp_lin.lt_le h1 (by omega)
  have hsm := same_cmp a b
  have hse := sym_eql
  have hba := fun w => S.before_T w a b
  obtain ⟨p, hp⟩ : ∃ p, symCmp a b = p := ⟨_, rfl⟩
  obtain ⟨q, hq⟩ : ∃ q, symCmp b a = q := ⟨_, rfl⟩
  obtain ⟨u, hu⟩ : ∃ u, symCmp b d = u := ⟨_, rfl⟩
  obtain ⟨v, hv⟩ : ∃ v, symCmp a d = v := ⟨_, rfl⟩
  have c1 := fun w => sym_compare w a b
  have c2 := fun w => sym_compare w b a
  have c3 := fun w => sym_compare w b d
  have c4 := fun w => sym_compare w a d
  rw [hp] at hsw htr hsm hba c1
  rw [hq] at hsw c2
  rw [hu] at htr c3
  rw [hv] at htr c4
  clear hp hq hu hv
  go_enter Tryd.func6, Tryd.ntmps6
  go_wp2_with fail
  generalize (((w.alloc (.cells #[.int .i64 a.k, .string a.t, .int .i64 a.n] 23)).alloc (.cells #[.int .i64 b.k, .string b.t, .int .i64 b.n] 23)).alloc (.cells #[.int .i64 d.k, .string d.t, .int .i64 d.n] 23)) = W0 at hB0 hX0 ⊢
  obtain ⟨⟨x0, x1, x2⟩, ⟨y0, y1, y2⟩, z0, z1, z2⟩ := hX0.cells
  go_region_held3 (fun W => (W.cell? ⟨w.heap.size, 0, none⟩ = some (.int .i64 a.k) ∧ W.cell? ⟨w.heap.size, 1, none⟩ = some (.string a.t) ∧ W.cell? ⟨w.heap.size, 2, none⟩ = some (.int .i64 a.n)) ∧ (W.cell? ⟨(w.heap.size + 1), 0, none⟩ = some (.int .i64 b.k) ∧ W.cell? ⟨(w.heap.size + 1), 1, none⟩ = some (.string b.t) ∧ W.cell? ⟨(w.heap.size + 1), 2, none⟩ = some (.int .i64 b.n)) ∧ (W.cell? ⟨(w.heap.size + 1 + 1), 0, none⟩ = some (.int .i64 d.k) ∧ W.cell? ⟨(w.heap.size + 1 + 1), 1, none⟩ = some (.string d.t) ∧ W.cell? ⟨(w.heap.size + 1 + 1), 2, none⟩ = some (.int .i64 d.n)))
    (first | go_keep | assumption)
    (first
      | ((with_reducible refine (c1 W0.drew).mono ?_); rintro e w1 ⟨rfl, hB1⟩; have hC1 := (Below.refl _ W0).drew.trans hB1; have hX1 := hX0.below hC1; have hm1 := hX1.cells)
      | ((with_reducible refine (c2 w1).mono ?_); rintro e w2 ⟨rfl, hB2⟩; have hX2 := hX1.below hB2; have hm2 := hX2.cells)
      | fail "no arm")
  have hC2 := hC1.trans (hB2.mono hC1.size)
  have hD2 := hB0.trans (hC2.mono hB0.size)
  clear x0 x1 x2 y0 y1 y2 z0 z1 z2 hm1
  obtain ⟨⟨x0, x1, x2⟩, ⟨y0, y1, y2⟩, z0, z1, z2⟩ := hm2
  go_wp2_with fail
  refine (hba w2).mono ?_
  rintro e w3 ⟨rfl, hB3⟩
  have hX3 := hX2.below hB3
  have hD3 := hD2.trans (hB3.mono hD2.size)
  clear x0 x1 x2 y0 y1 y2 z0 z1 z2
  obtain ⟨⟨x0, x1, x2⟩, ⟨y0, y1, y2⟩, z0, z1, z2⟩ := hX3.cells
  rcases Int.lt_trichotomy p 0 with h | h | h
  · have hs' : same ⟨a.k, a.t, a.n⟩ ⟨b.k, b.t, b.n⟩ = false := hsm.trans (by simp; omega)
    have f1 : (p < 0) = True := eq_true h
    have f2 : (p == 0) = false := by simp; omega
    have f3 : (0 < q) = True := eq_true (by omega)
    have Hh := Lib.hid (htr h)
    clear hsm hsw htr h
    go_wp2_with fail
    refine (c3 w3).mono ?_
    rintro e w4 ⟨rfl, hB4⟩
    have hX4 := hX3.below hB4
    have hD4 := hD3.trans (hB4.mono hD3.size)
    clear x0 x1 x2 y0 y1 y2 z0 z1 z2
    obtain ⟨⟨x0, x1, x2⟩, ⟨y0, y1, y2⟩, z0, z1, z2⟩ := hX4.cells
    by_cases h2 : u < 0
    · have g1 : (u < 0) = True := eq_true h2
      have hv0 := Hh.out h2
      have g2 : (0 ≤ v) = False := eq_false (by omega)
      clear h2 hv0
      go_wp2_with fail
      refine (c4 w4).mono ?_
      rintro e w5 ⟨rfl, hB5⟩
      have hD5 := hD4.trans (hB5.mono hD4.size)
      go_wp2_with fail
      refine (wakes_T w5 (hE.below hD5)).mono ?_
      rintro e w9 ⟨rfl, hB9⟩
      go_wp2_with fail
      go_ret
      exact ⟨rfl, hD5.trans (hB9.mono hD5.size)⟩
    · have g1 : (u < 0) = False := eq_false h2
      clear h2
      go_wp2_with fail
      refine (wakes_T w4 (hE.below hD4)).mono ?_
      rintro e w9 ⟨rfl, hB9⟩
      go_wp2_with fail
      go_ret
      exact ⟨rfl, hD4.trans (hB9.mono hD4.size)⟩
  · have hs' : same ⟨a.k, a.t, a.n⟩ ⟨b.k, b.t, b.n⟩ = true := hsm.trans (by simp; omega)
    have f1 : (p < 0) = False := eq_false (by omega)
    have f2 : (p == 0) = true := by simp; omega
    have f3 : (0 < q) = False := eq_false (by omega)
    clear hsm hsw htr h
    go_wp2_with fail
    refine (wakes_T w3 (hE.below hD3)).mono ?_
    rintro e w9 ⟨rfl, hB9⟩
    go_wp2_with fail
    go_ret
    exact ⟨rfl, hD3.trans (hB9.mono hD3.size)⟩
  · have hs' : same ⟨a.k, a.t, a.n⟩ ⟨b.k, b.t, b.n⟩ = false := hsm.trans (by simp; omega)
    have f1 : (p < 0) = False := eq_false (by omega)
    have f2 : (p == 0) = false := by simp; omega
    have f3 : (0 < q) = False := eq_false (by omega)
    clear hsm hsw htr h
    go_wp2_with fail
    refine (wakes_T w3 (hE.below hD3)).mono ?_
    rintro e w9 ⟨rfl, hB9⟩
    go_wp2_with fail
    go_ret
    exact ⟨rfl, hD3.trans (hB9.mono hD3.size)⟩

end Go.Proofs.YtimeamehmefgnaaDoor
