/- What Get, Len, First, Drop, Put, Clone of a map answer. Conditions: the map lies in memory; at most 700000 keys. -/
import Derived.Test.YtmmpdgabojppnaaMapEL
import Derived.Test.YtmmpdgabojppnaaRefAS
namespace Go.Proofs.Ytmmpdgabojppnaa.L
open Go Go.RowKit

theorem key_eq {L : List EntL} {k : SymV} {y : EntL} (hs : Sorted entCmpL L) (hh : has entCmpL L ⟨k, ⟨none, 0, 0⟩⟩ = true) (hy : L[pos entCmpL L ⟨k, ⟨none, 0, 0⟩⟩]? = some y) : y.key = k := by
  obtain ⟨z, hz, h0⟩ := has_at entCmpL_lin L _ hs hh
  rw [hy] at hz
  cases hz
  exact ((S.symCmp_exact k y.key).1 h0).symm

theorem drop_key {L : List EntL} {x y : EntL} (h : x.key = y.key) : drop entCmpL L x = drop entCmpL L y := by unfold drop has pos entCmpL; rw [h]
theorem has_key {L : List EntL} {x y : EntL} (h : x.key = y.key) : has entCmpL L x = has entCmpL L y := by unfold has entCmpL; rw [h]
theorem pos_key {L : List EntL} {x y : EntL} (h : x.key = y.key) : pos entCmpL L x = pos entCmpL L y := by unfold pos entCmpL; rw [h]

set_option maxHeartbeats 1000000 in
theorem mapput_no (w : World) (m s : Nat) (L : List EntL) (x : EntL) (h : MapAt w m s L) (hs : L.length ≤ 700000) (hh : has entCmpL L x = false) :
    Calls Try.prog 44 #[.pointer (some ⟨m, 0, none⟩), .agg #[.int .i64 x.key.k, .string x.key.t, .int .i64 x.key.n], .slice x.v.a x.v.n x.v.c] w fun e w' => e = .returned (.bool (!has entCmpL L x)) ∧ MapAt w' m s (put entCmpL (drop entCmpL L x) x) ∧ But s w w' := by
  have hss := h.2.lt
  have hml := lt_of_block h.1
  have hne := h.ne
  have hB0 : Below w.heap.size w (w.alloc (.cells #[.int .i64 x.key.k, .string x.key.t, .int .i64 x.key.n] 26)) := (Below.refl _ w).alloc (Nat.le_refl _) _
  have h0 := h.below hB0
  have hkn := heap_alloc_new w (.cells #[.int .i64 x.key.k, .string x.key.t, .int .i64 x.key.n] 26)
  go_enter Try.func44, Try.ntmps44
  go_wp2_with fail
  generalize (w.alloc (.cells #[.int .i64 x.key.k, .string x.key.t, .int .i64 x.key.n] 26)) = W0 at hB0 h0 hkn ⊢
  refine (find_no W0 m s L x.key h0 (by omega) ((has_key rfl).trans hh)).mono ?_
  rintro e w1 ⟨rfl, hB1⟩
  have hBy : Below w1.heap.size w1 (w1.alloc (.cells #[.int .i64 0, .string ⟨#[]⟩, .int .i64 0, .slice none 0 0] 126)) := (Below.refl _ w1).alloc (Nat.le_refl _) _
  have hyb := heap_alloc_new w1 (.cells #[.int .i64 0, .string ⟨#[]⟩, .int .i64 0, .slice none 0 0] 126)
  have hC1 := hB0.trans (hB1.mono hB0.size)
  have hC2 := hC1.trans (hBy.mono hC1.size)
  have h1 := h.below hC2
  have hc1 := cell_of_one h1.1
  have hszy : (w1.alloc (.cells #[.int .i64 0, .string ⟨#[]⟩, .int .i64 0, .slice none 0 0] 126)).heap.size = w1.heap.size + 1 := by simp
  have hsz1 := hC1.size
  have hkb := (hBy.block _ (Nat.lt_of_lt_of_le (lt_of_block hkn) hB1.size)).trans ((hB1.block _ (lt_of_block hkn)).trans hkn)
  have hdL : drop entCmpL L x = L := by rw [drop, hh, if_neg (by simp)]
  have HdL := Lib.hid hdL
  clear hdL
  go_wp2_with fail
  generalize (w1.alloc (.cells #[.int .i64 0, .string ⟨#[]⟩, .int .i64 0, .slice none 0 0] 126)) = Wy at hBy hyb hC2 h1 hc1 hszy hkb ⊢
  have hpu := put_T Wy.drew s L x (h1.2.below (Below.refl _ _).drew) (by omega)
  have hkeep : ∀ W, But s Wy.drew W → (W.cell? ⟨w.heap.size, 0, none⟩ = some (.int .i64 x.key.k) ∧ W.cell? ⟨w.heap.size, 1, none⟩ = some (.string x.key.t) ∧ W.cell? ⟨w.heap.size, 2, none⟩ = some (.int .i64 x.key.n)) ∧ W.cell? ⟨m, 0, none⟩ = some (.pointer (some ⟨s, 0, none⟩)) := by
    intro W hb
    have e1 := (hb.block w.heap.size (by show _ < Wy.heap.size; omega) (by omega)).trans hkb
    have e2 := (hb.block m (by show _ < Wy.heap.size; omega) hne).trans h1.1
    simp [World.cell?, e1, e2]
  obtain ⟨⟨y0, y1, y2⟩, -⟩ := hkeep _ (But.refl _ _)
  go_region_held3 (fun W => (W.cell? ⟨w.heap.size, 0, none⟩ = some (.int .i64 x.key.k) ∧ W.cell? ⟨w.heap.size, 1, none⟩ = some (.string x.key.t) ∧ W.cell? ⟨w.heap.size, 2, none⟩ = some (.int .i64 x.key.n)) ∧ W.cell? ⟨m, 0, none⟩ = some (.pointer (some ⟨s, 0, none⟩)))
    (first | go_keep | assumption)
    (first
      | ((with_reducible refine hpu.mono ?_); rintro e w3 ⟨rfl, hS3, hb3⟩; have hh3 := hkeep w3 hb3)
      | fail "no arm")
  go_wp2_with fail
  go_ret
  exact ⟨by rw [hh]; rfl, ⟨(hb3.block m (by show _ < Wy.heap.size; omega) hne).trans h1.1, by rw [HdL.out]; exact hS3⟩, (But.of_below hC2.drew).trans hb3⟩

set_option maxHeartbeats 1000000 in
theorem mapput_yes (w : World) (m s : Nat) (L : List EntL) (x : EntL) (h : MapAt w m s L) (hs : L.length ≤ 700000) (hh : has entCmpL L x = true) :
    Calls Try.prog 44 #[.pointer (some ⟨m, 0, none⟩), .agg #[.int .i64 x.key.k, .string x.key.t, .int .i64 x.key.n], .slice x.v.a x.v.n x.v.c] w fun e w' => e = .returned (.bool (!has entCmpL L x)) ∧ MapAt w' m s (put entCmpL (drop entCmpL L x) x) ∧ But s w w' := by
  have hss := h.2.lt
  have hml := lt_of_block h.1
  have hne := h.ne
  have hB0 : Below w.heap.size w (w.alloc (.cells #[.int .i64 x.key.k, .string x.key.t, .int .i64 x.key.n] 26)) := (Below.refl _ w).alloc (Nat.le_refl _) _
  have h0 := h.below hB0
  have hkn := heap_alloc_new w (.cells #[.int .i64 x.key.k, .string x.key.t, .int .i64 x.key.n] 26)
  go_enter Try.func44, Try.ntmps44
  go_wp2_with fail
  generalize (w.alloc (.cells #[.int .i64 x.key.k, .string x.key.t, .int .i64 x.key.n] 26)) = W0 at hB0 h0 hkn ⊢
  refine (find_yes W0 m s L x.key h0 (by omega) ((has_key rfl).trans hh)).mono ?_
  rintro e w1 ⟨⟨y, rfl, hy⟩, hB1⟩
  have hyk := key_eq (by obtain ⟨t, p, -, -, -, h4⟩ := h.2; exact h4) ((has_key rfl).trans hh) hy
  have Hyk := Lib.hid hyk
  clear hy hyk
  have hBy : Below w1.heap.size w1 (w1.alloc (.cells #[.int .i64 y.key.k, .string y.key.t, .int .i64 y.key.n, .slice y.v.a y.v.n y.v.c] 126)) := (Below.refl _ w1).alloc (Nat.le_refl _) _
  have hyb := heap_alloc_new w1 (.cells #[.int .i64 y.key.k, .string y.key.t, .int .i64 y.key.n, .slice y.v.a y.v.n y.v.c] 126)
  have hC1 := hB0.trans (hB1.mono hB0.size)
  have hC2 := hC1.trans (hBy.mono hC1.size)
  have h1 := h.below hC2
  have hc1 := cell_of_one h1.1
  have hszy : (w1.alloc (.cells #[.int .i64 y.key.k, .string y.key.t, .int .i64 y.key.n, .slice y.v.a y.v.n y.v.c] 126)).heap.size = w1.heap.size + 1 := by simp
  have hsz1 := hC1.size
  have hkb := (hBy.block _ (Nat.lt_of_lt_of_le (lt_of_block hkn) hB1.size)).trans ((hB1.block _ (lt_of_block hkn)).trans hkn)
  go_wp2_with fail
  generalize (w1.alloc (.cells #[.int .i64 y.key.k, .string y.key.t, .int .i64 y.key.n, .slice y.v.a y.v.n y.v.c] 126)) = Wy at hBy hyb hC2 h1 hc1 hszy hkb ⊢
  have hdr := drop_T Wy.drew s L y (h1.2.below (Below.refl _ _).drew) (by omega)
  have hkeep : ∀ W, But s Wy.drew W → (W.cell? ⟨w1.heap.size, 0, none⟩ = some (.int .i64 y.key.k) ∧ W.cell? ⟨w1.heap.size, 1, none⟩ = some (.string y.key.t) ∧ W.cell? ⟨w1.heap.size, 2, none⟩ = some (.int .i64 y.key.n) ∧ W.cell? ⟨w1.heap.size, 3, none⟩ = some (.slice y.v.a y.v.n y.v.c)) ∧ W.cell? ⟨m, 0, none⟩ = some (.pointer (some ⟨s, 0, none⟩)) := by
    intro W hb
    have e1 := (hb.block w1.heap.size (by show _ < Wy.heap.size; omega) (by omega)).trans hyb
    have e2 := (hb.block m (by show _ < Wy.heap.size; omega) hne).trans h1.1
    simp [World.cell?, e1, e2]
  obtain ⟨⟨y0, y1, y2, y3⟩, -⟩ := hkeep _ (But.refl _ _)
  go_region_held3 (fun W => (W.cell? ⟨w1.heap.size, 0, none⟩ = some (.int .i64 y.key.k) ∧ W.cell? ⟨w1.heap.size, 1, none⟩ = some (.string y.key.t) ∧ W.cell? ⟨w1.heap.size, 2, none⟩ = some (.int .i64 y.key.n) ∧ W.cell? ⟨w1.heap.size, 3, none⟩ = some (.slice y.v.a y.v.n y.v.c)) ∧ W.cell? ⟨m, 0, none⟩ = some (.pointer (some ⟨s, 0, none⟩)))
    (first | go_keep | assumption)
    (first
      | ((with_reducible refine hdr.mono ?_); rintro e w3 ⟨rfl, hS3, hb3⟩; have hh3 := hkeep w3 hb3)
      | fail "no arm")
  clear y0 y1 y2 y3
  obtain ⟨⟨z0, z1, z2, z3⟩, z4⟩ := hh3
  go_wp2_with fail
  have hpu := put_T w3.drew s _ ⟨y.key, x.v⟩ (hS3.below (Below.refl _ _).drew) (by have := length_drop entCmpL L y; omega)
  have hkeep2 : ∀ W, But s w3.drew W → (W.cell? ⟨w1.heap.size, 0, none⟩ = some (.int .i64 y.key.k) ∧ W.cell? ⟨w1.heap.size, 1, none⟩ = some (.string y.key.t) ∧ W.cell? ⟨w1.heap.size, 2, none⟩ = some (.int .i64 y.key.n) ∧ W.cell? ⟨w1.heap.size, 3, none⟩ = some (.slice y.v.a y.v.n y.v.c)) ∧ W.cell? ⟨m, 0, none⟩ = some (.pointer (some ⟨s, 0, none⟩)) := fun W hb => hkeep W (hb3.trans ((But.of_below (Below.refl _ w3).drew).trans hb))
  dsimp only at hpu
  go_region_held3 (fun W => (W.cell? ⟨w1.heap.size, 0, none⟩ = some (.int .i64 y.key.k) ∧ W.cell? ⟨w1.heap.size, 1, none⟩ = some (.string y.key.t) ∧ W.cell? ⟨w1.heap.size, 2, none⟩ = some (.int .i64 y.key.n) ∧ W.cell? ⟨w1.heap.size, 3, none⟩ = some (.slice y.v.a y.v.n y.v.c)) ∧ W.cell? ⟨m, 0, none⟩ = some (.pointer (some ⟨s, 0, none⟩)))
    (first | go_keep | assumption)
    (first
      | ((with_reducible refine hpu.mono ?_); rintro e w4 ⟨rfl, hS4, hb4⟩; have hh4 := hkeep2 w4 hb4)
      | fail "no arm")
  go_wp2_with fail
  go_ret
  have hb34 := hb3.trans ((But.of_below (Below.refl _ w3).drew).trans hb4)
  have hx : (⟨y.key, x.v⟩ : EntL) = x := by rw [Hyk.out]
  rw [hx, drop_key (y := x) Hyk.out] at hS4
  exact ⟨by rw [hh]; rfl, ⟨(hb34.block m (by show _ < Wy.heap.size; omega) hne).trans h1.1, hS4⟩, (But.of_below hC2.drew).trans hb34⟩

theorem mapput_T (w : World) (m s : Nat) (L : List EntL) (x : EntL) (h : MapAt w m s L) (hs : L.length ≤ 700000) :
    Calls Try.prog 44 #[.pointer (some ⟨m, 0, none⟩), .agg #[.int .i64 x.key.k, .string x.key.t, .int .i64 x.key.n], .slice x.v.a x.v.n x.v.c] w fun e w' => e = .returned (.bool (!has entCmpL L x)) ∧ MapAt w' m s (put entCmpL (drop entCmpL L x) x) ∧ But s w w' := by
  cases hh : has entCmpL L x
  · rw [← hh]; exact mapput_no w m s L x h hs hh
  · rw [← hh]; exact mapput_yes w m s L x h hs hh

end Go.Proofs.Ytmmpdgabojppnaa.L
