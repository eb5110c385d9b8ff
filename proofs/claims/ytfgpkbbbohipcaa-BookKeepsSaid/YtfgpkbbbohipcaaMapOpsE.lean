/- What Get, Len, First, Drop, Put, Clone of a map answer. Conditions: the map lies in memory; at most 700000 keys. -/
import Derived.Test.YtfgpkbbbohipcaaMg35
import Derived.Test.YtfgpkbbbohipcaaMg4
namespace Go.Proofs.Ytfgpkbbbohipcaa.E
open Go Go.RowKit

theorem maplen_T (w : World) (m s : Nat) (L : List EntV) (h : MapAt w m s L) :
    Calls Try.prog 20 #[.pointer (some ⟨m, 0, none⟩)] w fun e w' => e = .returned (.int .i64 L.length) ∧ w = w' := by
  have hc := cell_of_one h.1
  go_enter Try.func20, Try.ntmps20
  go_wp2_with fail
  refine (len_T w s L h.2).mono ?_
  rintro e w' ⟨rfl, rfl⟩
  go_wp2_with fail
  go_ret
  exact ⟨rfl, rfl⟩

theorem mapclone_T (w : World) (m s : Nat) (L : List EntV) (h : MapAt w m s L) :
    Calls Try.prog 40 #[.pointer (some ⟨m, 0, none⟩)] w fun e w' => ∃ c d, e = .returned (.pointer (some ⟨c, 0, none⟩)) ∧ w.heap.size ≤ c ∧ w.heap.size ≤ d ∧ MapAt w' c d L ∧ Below w.heap.size w w' := by
  have hc := cell_of_one h.1
  go_enter Try.func40, Try.ntmps40
  go_wp2_with fail
  refine (clone_T w s L h.2).mono ?_
  rintro e w1 ⟨rfl, hS, hB1⟩
  have hBm : Below w1.heap.size w1 (w1.alloc (.cells #[.pointer (some ⟨w.heap.size, 0, none⟩)] 95)) := (Below.refl _ w1).alloc (Nat.le_refl _) _
  go_wp2_with fail
  go_ret
  exact ⟨w1.heap.size, w.heap.size, rfl, hB1.size, Nat.le_refl _, ⟨heap_alloc_new w1 _, hS.below hBm⟩, hB1.trans (hBm.mono hB1.size)⟩

theorem key_eq {L : List EntV} {k : SymV} {y : EntV} (hs : Sorted entCmp L) (hh : has entCmp L ⟨k, 0⟩ = true) (hy : L[pos entCmp L ⟨k, 0⟩]? = some y) : y.key = k := by
  obtain ⟨z, hz, h0⟩ := has_at entCmp_lin L _ hs hh
  rw [hy] at hz
  cases hz
  exact ((S.symCmp_exact k y.key).1 h0).symm

theorem drop_key {L : List EntV} {x y : EntV} (h : x.key = y.key) : drop entCmp L x = drop entCmp L y := by unfold drop has pos entCmp; rw [h]
theorem has_key {L : List EntV} {x y : EntV} (h : x.key = y.key) : has entCmp L x = has entCmp L y := by unfold has entCmp; rw [h]
theorem pos_key {L : List EntV} {x y : EntV} (h : x.key = y.key) : pos entCmp L x = pos entCmp L y := by unfold pos entCmp; rw [h]

theorem mapget_yes (w : World) (m s : Nat) (L : List EntV) (k : SymV) (h : MapAt w m s L) (hs : L.length ≤ 700000) (hh : has entCmp L ⟨k, 0⟩ = true) :
    Calls Try.prog 18 #[.pointer (some ⟨m, 0, none⟩), .agg #[.int .i64 k.k, .string k.t, .int .i64 k.n]] w fun e w' => (∃ y, e = .returned (.tuple #[.int .i64 y.v, .bool true]) ∧ L[pos entCmp L ⟨k, 0⟩]? = some y) ∧ Below w.heap.size w w' := by
  have hB0 : Below w.heap.size w (w.alloc (.cells #[.int .i64 k.k, .string k.t, .int .i64 k.n] 26)) := (Below.refl _ w).alloc (Nat.le_refl _) _
  have h0 := h.below hB0
  have hkn := heap_alloc_new w (.cells #[.int .i64 k.k, .string k.t, .int .i64 k.n] 26)
  go_enter Try.func18, Try.ntmps18
  go_wp2_with fail
  generalize (w.alloc (.cells #[.int .i64 k.k, .string k.t, .int .i64 k.n] 26)) = W0 at hB0 h0 hkn ⊢
  refine (find_yes W0 m s L k h0 (by omega) hh).mono ?_
  rintro e w1 ⟨⟨y, rfl, hy⟩, hB1⟩
  have Hy := Lib.hid hy
  clear hy
  have hBy : Below w1.heap.size w1 (w1.alloc (.cells #[.int .i64 y.key.k, .string y.key.t, .int .i64 y.key.n, .int .i64 y.v] 93)) := (Below.refl _ w1).alloc (Nat.le_refl _) _
  have hC1 := hB0.trans (hB1.mono hB0.size)
  go_wp2_with fail
  go_ret2
  exact ⟨⟨y, rfl, Hy.out⟩, hC1.trans (hBy.mono hC1.size)⟩

theorem mapget_no (w : World) (m s : Nat) (L : List EntV) (k : SymV) (h : MapAt w m s L) (hs : L.length ≤ 700000) (hh : has entCmp L ⟨k, 0⟩ = false) :
    Calls Try.prog 18 #[.pointer (some ⟨m, 0, none⟩), .agg #[.int .i64 k.k, .string k.t, .int .i64 k.n]] w fun e w' => e = .returned (.tuple #[.int .i64 0, .bool false]) ∧ Below w.heap.size w w' := by
  have hB0 : Below w.heap.size w (w.alloc (.cells #[.int .i64 k.k, .string k.t, .int .i64 k.n] 26)) := (Below.refl _ w).alloc (Nat.le_refl _) _
  have h0 := h.below hB0
  have hkn := heap_alloc_new w (.cells #[.int .i64 k.k, .string k.t, .int .i64 k.n] 26)
  go_enter Try.func18, Try.ntmps18
  go_wp2_with fail
  generalize (w.alloc (.cells #[.int .i64 k.k, .string k.t, .int .i64 k.n] 26)) = W0 at hB0 h0 hkn ⊢
  refine (find_no W0 m s L k h0 (by omega) hh).mono ?_
  rintro e w1 ⟨rfl, hB1⟩
  have hBy : Below w1.heap.size w1 (w1.alloc (.cells #[.int .i64 0, .string ⟨#[]⟩, .int .i64 0, .int .i64 0] 93)) := (Below.refl _ w1).alloc (Nat.le_refl _) _
  have hC1 := hB0.trans (hB1.mono hB0.size)
  go_wp2_with fail
  go_ret2
  exact ⟨rfl, hC1.trans (hBy.mono hC1.size)⟩

set_option maxHeartbeats 1000000 in
theorem mapdrop_yes (w : World) (m s : Nat) (L : List EntV) (k : SymV) (h : MapAt w m s L) (hs : L.length ≤ 700000) (hh : has entCmp L ⟨k, 0⟩ = true) :
    Calls Try.prog 16 #[.pointer (some ⟨m, 0, none⟩), .agg #[.int .i64 k.k, .string k.t, .int .i64 k.n]] w fun e w' => (∃ y, e = .returned (.tuple #[.int .i64 y.v, .bool true]) ∧ L[pos entCmp L ⟨k, 0⟩]? = some y) ∧ MapAt w' m s (drop entCmp L ⟨k, 0⟩) ∧ But s w w' := by
  have hss := h.2.lt
  have hml := lt_of_block h.1
  have hne := h.ne
  have hB0 : Below w.heap.size w (w.alloc (.cells #[.int .i64 k.k, .string k.t, .int .i64 k.n] 26)) := (Below.refl _ w).alloc (Nat.le_refl _) _
  have h0 := h.below hB0
  have hkn := heap_alloc_new w (.cells #[.int .i64 k.k, .string k.t, .int .i64 k.n] 26)
  go_enter Try.func16, Try.ntmps16
  go_wp2_with fail
  generalize (w.alloc (.cells #[.int .i64 k.k, .string k.t, .int .i64 k.n] 26)) = W0 at hB0 h0 hkn ⊢
  refine (find_yes W0 m s L k h0 (by omega) hh).mono ?_
  rintro e w1 ⟨⟨y, rfl, hy⟩, hB1⟩
  have hyk := key_eq (by obtain ⟨t, p, -, -, -, h4⟩ := h.2; exact h4) hh hy
  have Hyk := Lib.hid hyk
  have Hy := Lib.hid hy
  clear hy hyk
  have hBy : Below w1.heap.size w1 (w1.alloc (.cells #[.int .i64 y.key.k, .string y.key.t, .int .i64 y.key.n, .int .i64 y.v] 93)) := (Below.refl _ w1).alloc (Nat.le_refl _) _
  have hyb := heap_alloc_new w1 (.cells #[.int .i64 y.key.k, .string y.key.t, .int .i64 y.key.n, .int .i64 y.v] 93)
  have hC1 := hB0.trans (hB1.mono hB0.size)
  have hC2 := hC1.trans (hBy.mono hC1.size)
  have h1 := h.below hC2
  have hc1 := cell_of_one h1.1
  have hszy : (w1.alloc (.cells #[.int .i64 y.key.k, .string y.key.t, .int .i64 y.key.n, .int .i64 y.v] 93)).heap.size = w1.heap.size + 1 := by simp
  have hsz1 := hC1.size
  have hkb := (hBy.block _ (Nat.lt_of_lt_of_le (lt_of_block hkn) hB1.size)).trans ((hB1.block _ (lt_of_block hkn)).trans hkn)
  go_wp2_with fail
  generalize (w1.alloc (.cells #[.int .i64 y.key.k, .string y.key.t, .int .i64 y.key.n, .int .i64 y.v] 93)) = Wy at hBy hyb hC2 h1 hc1 hszy hkb ⊢
  have hdr := drop_T Wy.drew s L y (h1.2.below (Below.refl _ _).drew) (by omega)
  have hkeep : ∀ W, But s Wy.drew W → (W.cell? ⟨w1.heap.size, 0, none⟩ = some (.int .i64 y.key.k) ∧ W.cell? ⟨w1.heap.size, 1, none⟩ = some (.string y.key.t) ∧ W.cell? ⟨w1.heap.size, 2, none⟩ = some (.int .i64 y.key.n) ∧ W.cell? ⟨w1.heap.size, 3, none⟩ = some (.int .i64 y.v)) ∧ W.cell? ⟨m, 0, none⟩ = some (.pointer (some ⟨s, 0, none⟩)) := by
    intro W hb
    have e1 := (hb.block w1.heap.size (by show _ < Wy.heap.size; omega) (by omega)).trans hyb
    have e2 := (hb.block m (by show _ < Wy.heap.size; omega) hne).trans h1.1
    simp [World.cell?, e1, e2]
  obtain ⟨⟨y0, y1, y2, y3⟩, -⟩ := hkeep _ (But.refl _ _)
  go_region_held3 (fun W => (W.cell? ⟨w1.heap.size, 0, none⟩ = some (.int .i64 y.key.k) ∧ W.cell? ⟨w1.heap.size, 1, none⟩ = some (.string y.key.t) ∧ W.cell? ⟨w1.heap.size, 2, none⟩ = some (.int .i64 y.key.n) ∧ W.cell? ⟨w1.heap.size, 3, none⟩ = some (.int .i64 y.v)) ∧ W.cell? ⟨m, 0, none⟩ = some (.pointer (some ⟨s, 0, none⟩)))
    (first | go_keep | assumption)
    (first
      | ((with_reducible refine hdr.mono ?_); rintro e w3 ⟨rfl, hS3, hb3⟩; have hh3 := hkeep w3 hb3)
      | fail "no arm")
  obtain ⟨hm3, -⟩ := hh3
  go_wp2_with fail
  go_ret2
  rw [drop_key (y := ⟨k, 0⟩) Hyk.out] at hS3
  exact ⟨⟨y, rfl, Hy.out⟩, ⟨(hb3.block m (by show _ < Wy.heap.size; omega) hne).trans h1.1, hS3⟩, (But.of_below hC2.drew).trans hb3⟩

theorem mapdrop_no (w : World) (m s : Nat) (L : List EntV) (k : SymV) (h : MapAt w m s L) (hs : L.length ≤ 700000) (hh : has entCmp L ⟨k, 0⟩ = false) :
    Calls Try.prog 16 #[.pointer (some ⟨m, 0, none⟩), .agg #[.int .i64 k.k, .string k.t, .int .i64 k.n]] w fun e w' => e = .returned (.tuple #[.int .i64 0, .bool false]) ∧ MapAt w' m s (drop entCmp L ⟨k, 0⟩) ∧ But s w w' := by
  have hB0 : Below w.heap.size w (w.alloc (.cells #[.int .i64 k.k, .string k.t, .int .i64 k.n] 26)) := (Below.refl _ w).alloc (Nat.le_refl _) _
  have h0 := h.below hB0
  have hkn := heap_alloc_new w (.cells #[.int .i64 k.k, .string k.t, .int .i64 k.n] 26)
  go_enter Try.func16, Try.ntmps16
  go_wp2_with fail
  generalize (w.alloc (.cells #[.int .i64 k.k, .string k.t, .int .i64 k.n] 26)) = W0 at hB0 h0 hkn ⊢
  refine (find_no W0 m s L k h0 (by omega) hh).mono ?_
  rintro e w1 ⟨rfl, hB1⟩
  have hBy : Below w1.heap.size w1 (w1.alloc (.cells #[.int .i64 0, .string ⟨#[]⟩, .int .i64 0, .int .i64 0] 93)) := (Below.refl _ w1).alloc (Nat.le_refl _) _
  have hC1 := hB0.trans (hB1.mono hB0.size)
  have hC2 := hC1.trans (hBy.mono hC1.size)
  go_wp2_with fail
  go_ret2
  refine ⟨rfl, ?_, But.of_below hC2⟩
  rw [drop, hh, if_neg (by simp)]
  exact h.below hC2

set_option maxHeartbeats 1000000 in
theorem mapput_no (w : World) (m s : Nat) (L : List EntV) (x : EntV) (h : MapAt w m s L) (hs : L.length ≤ 700000) (hh : has entCmp L x = false) :
    Calls Try.prog 14 #[.pointer (some ⟨m, 0, none⟩), .agg #[.int .i64 x.key.k, .string x.key.t, .int .i64 x.key.n], .int .i64 x.v] w fun e w' => e = .returned (.bool (!has entCmp L x)) ∧ MapAt w' m s (put entCmp (drop entCmp L x) x) ∧ But s w w' := by
  have hss := h.2.lt
  have hml := lt_of_block h.1
  have hne := h.ne
  have hB0 : Below w.heap.size w (w.alloc (.cells #[.int .i64 x.key.k, .string x.key.t, .int .i64 x.key.n] 26)) := (Below.refl _ w).alloc (Nat.le_refl _) _
  have h0 := h.below hB0
  have hkn := heap_alloc_new w (.cells #[.int .i64 x.key.k, .string x.key.t, .int .i64 x.key.n] 26)
  go_enter Try.func14, Try.ntmps14
  go_wp2_with fail
  generalize (w.alloc (.cells #[.int .i64 x.key.k, .string x.key.t, .int .i64 x.key.n] 26)) = W0 at hB0 h0 hkn ⊢
  refine (find_no W0 m s L x.key h0 (by omega) ((has_key rfl).trans hh)).mono ?_
  rintro e w1 ⟨rfl, hB1⟩
  have hBy : Below w1.heap.size w1 (w1.alloc (.cells #[.int .i64 0, .string ⟨#[]⟩, .int .i64 0, .int .i64 0] 93)) := (Below.refl _ w1).alloc (Nat.le_refl _) _
  have hyb := heap_alloc_new w1 (.cells #[.int .i64 0, .string ⟨#[]⟩, .int .i64 0, .int .i64 0] 93)
  have hC1 := hB0.trans (hB1.mono hB0.size)
  have hC2 := hC1.trans (hBy.mono hC1.size)
  have h1 := h.below hC2
  have hc1 := cell_of_one h1.1
  have hszy : (w1.alloc (.cells #[.int .i64 0, .string ⟨#[]⟩, .int .i64 0, .int .i64 0] 93)).heap.size = w1.heap.size + 1 := by simp
  have hsz1 := hC1.size
  have hkb := (hBy.block _ (Nat.lt_of_lt_of_le (lt_of_block hkn) hB1.size)).trans ((hB1.block _ (lt_of_block hkn)).trans hkn)
  have hdL : drop entCmp L x = L := by rw [drop, hh, if_neg (by simp)]
  have HdL := Lib.hid hdL
  clear hdL
  go_wp2_with fail
  generalize (w1.alloc (.cells #[.int .i64 0, .string ⟨#[]⟩, .int .i64 0, .int .i64 0] 93)) = Wy at hBy hyb hC2 h1 hc1 hszy hkb ⊢
  have hpu := put_T Wy.drew s L x (h1.2.below (Below.refl _ _).drew) (by omega)
  have hkeep : ∀ W, But s Wy.drew W → (W.cell? ⟨w.heap.size, 0, none⟩ = some (.int .i64 x.key.k) ∧ W.cell? ⟨w.heap.size, 1, none⟩ = some (.string x.key.t) ∧ W.cell? ⟨w.heap.size, 2, none⟩ = some (.int .i64 x.key.n)) ∧ W.cell? ⟨m, 0, none⟩ = some (.pointer (some ⟨s, 0, none⟩)) := by
    intro W hb
    have e1 := (hb.block w.heap.size (by show _ < Wy.heap.size; omega) (by omega)).trans hkb
    have e2 := (hb.block m (by show _ < Wy.heap.size; omega) hne).trans h1.1
    simp [World.cell?, e1, e2]
  obtain ⟨⟨y0, y1, y2⟩, -⟩ := hkeep _ (But.refl _ _)
  go_region_held3 (fun W => (W.cell? ⟨w.heap.size, 0, none⟩ = some (.int .i64 x.key.k) ∧ W.cell? ⟨w.heap.size, 1, none⟩ = some (.string x.key.t) ∧ W.cell? ⟨w.heap.size, 2, none⟩ = some (.int .i64 x.key.n)) ∧ W.cell? ⟨m, 0, none⟩ = some (.pointer (some ⟨s, 0, none⟩)))
    (first | go_keep | assumption)
    (first
      | ((with_reducible refine hpu.mono ?_); rintro e w3 ⟨rfl, hS3, hb3⟩; have hh3 := hkeep w3 hb3)
      | fail "no arm")
  go_wp2_with fail
  go_ret
  exact ⟨by rw [hh]; rfl, ⟨(hb3.block m (by show _ < Wy.heap.size; omega) hne).trans h1.1, by rw [HdL.out]; exact hS3⟩, (But.of_below hC2.drew).trans hb3⟩

set_option maxHeartbeats 1000000 in
theorem mapput_yes (w : World) (m s : Nat) (L : List EntV) (x : EntV) (h : MapAt w m s L) (hs : L.length ≤ 700000) (hh : has entCmp L x = true) :
    Calls Try.prog 14 #[.pointer (some ⟨m, 0, none⟩), .agg #[.int .i64 x.key.k, .string x.key.t, .int .i64 x.key.n], .int .i64 x.v] w fun e w' => e = .returned (.bool (!has entCmp L x)) ∧ MapAt w' m s (put entCmp (drop entCmp L x) x) ∧ But s w w' := by
  have hss := h.2.lt
  have hml := lt_of_block h.1
  have hne := h.ne
  have hB0 : Below w.heap.size w (w.alloc (.cells #[.int .i64 x.key.k, .string x.key.t, .int .i64 x.key.n] 26)) := (Below.refl _ w).alloc (Nat.le_refl _) _
  have h0 := h.below hB0
  have hkn := heap_alloc_new w (.cells #[.int .i64 x.key.k, .string x.key.t, .int .i64 x.key.n] 26)
  go_enter Try.func14, Try.ntmps14
  go_wp2_with fail
  generalize (w.alloc (.cells #[.int .i64 x.key.k, .string x.key.t, .int .i64 x.key.n] 26)) = W0 at hB0 h0 hkn ⊢
  refine (find_yes W0 m s L x.key h0 (by omega) ((has_key rfl).trans hh)).mono ?_
  rintro e w1 ⟨⟨y, rfl, hy⟩, hB1⟩
  have hyk := key_eq (by obtain ⟨t, p, -, -, -, h4⟩ := h.2; exact h4) ((has_key rfl).trans hh) hy
  have Hyk := Lib.hid hyk
  clear hy hyk
  have hBy : Below w1.heap.size w1 (w1.alloc (.cells #[.int .i64 y.key.k, .string y.key.t, .int .i64 y.key.n, .int .i64 y.v] 93)) := (Below.refl _ w1).alloc (Nat.le_refl _) _
  have hyb := heap_alloc_new w1 (.cells #[.int .i64 y.key.k, .string y.key.t, .int .i64 y.key.n, .int .i64 y.v] 93)
  have hC1 := hB0.trans (hB1.mono hB0.size)
  have hC2 := hC1.trans (hBy.mono hC1.size)
  have h1 := h.below hC2
  have hc1 := cell_of_one h1.1
  have hszy : (w1.alloc (.cells #[.int .i64 y.key.k, .string y.key.t, .int .i64 y.key.n, .int .i64 y.v] 93)).heap.size = w1.heap.size + 1 := by simp
  have hsz1 := hC1.size
  have hkb := (hBy.block _ (Nat.lt_of_lt_of_le (lt_of_block hkn) hB1.size)).trans ((hB1.block _ (lt_of_block hkn)).trans hkn)
  go_wp2_with fail
  generalize (w1.alloc (.cells #[.int .i64 y.key.k, .string y.key.t, .int .i64 y.key.n, .int .i64 y.v] 93)) = Wy at hBy hyb hC2 h1 hc1 hszy hkb ⊢
  have hdr := drop_T Wy.drew s L y (h1.2.below (Below.refl _ _).drew) (by omega)
  have hkeep : ∀ W, But s Wy.drew W → (W.cell? ⟨w1.heap.size, 0, none⟩ = some (.int .i64 y.key.k) ∧ W.cell? ⟨w1.heap.size, 1, none⟩ = some (.string y.key.t) ∧ W.cell? ⟨w1.heap.size, 2, none⟩ = some (.int .i64 y.key.n) ∧ W.cell? ⟨w1.heap.size, 3, none⟩ = some (.int .i64 y.v)) ∧ W.cell? ⟨m, 0, none⟩ = some (.pointer (some ⟨s, 0, none⟩)) := by
    intro W hb
    have e1 := (hb.block w1.heap.size (by show _ < Wy.heap.size; omega) (by omega)).trans hyb
    have e2 := (hb.block m (by show _ < Wy.heap.size; omega) hne).trans h1.1
    simp [World.cell?, e1, e2]
  obtain ⟨⟨y0, y1, y2, y3⟩, -⟩ := hkeep _ (But.refl _ _)
  go_region_held3 (fun W => (W.cell? ⟨w1.heap.size, 0, none⟩ = some (.int .i64 y.key.k) ∧ W.cell? ⟨w1.heap.size, 1, none⟩ = some (.string y.key.t) ∧ W.cell? ⟨w1.heap.size, 2, none⟩ = some (.int .i64 y.key.n) ∧ W.cell? ⟨w1.heap.size, 3, none⟩ = some (.int .i64 y.v)) ∧ W.cell? ⟨m, 0, none⟩ = some (.pointer (some ⟨s, 0, none⟩)))
    (first | go_keep | assumption)
    (first
      | ((with_reducible refine hdr.mono ?_); rintro e w3 ⟨rfl, hS3, hb3⟩; have hh3 := hkeep w3 hb3)
      | fail "no arm")
  clear y0 y1 y2 y3
  obtain ⟨⟨z0, z1, z2, z3⟩, z4⟩ := hh3
  go_wp2_with fail
  have hpu := put_T w3.drew s _ ⟨y.key, x.v⟩ (hS3.below (Below.refl _ _).drew) (by have := length_drop entCmp L y; omega)
  have hkeep2 : ∀ W, But s w3.drew W → (W.cell? ⟨w1.heap.size, 0, none⟩ = some (.int .i64 y.key.k) ∧ W.cell? ⟨w1.heap.size, 1, none⟩ = some (.string y.key.t) ∧ W.cell? ⟨w1.heap.size, 2, none⟩ = some (.int .i64 y.key.n) ∧ W.cell? ⟨w1.heap.size, 3, none⟩ = some (.int .i64 y.v)) ∧ W.cell? ⟨m, 0, none⟩ = some (.pointer (some ⟨s, 0, none⟩)) := fun W hb => hkeep W (hb3.trans ((But.of_below (Below.refl _ w3).drew).trans hb))
  dsimp only at hpu
  go_region_held3 (fun W => (W.cell? ⟨w1.heap.size, 0, none⟩ = some (.int .i64 y.key.k) ∧ W.cell? ⟨w1.heap.size, 1, none⟩ = some (.string y.key.t) ∧ W.cell? ⟨w1.heap.size, 2, none⟩ = some (.int .i64 y.key.n) ∧ W.cell? ⟨w1.heap.size, 3, none⟩ = some (.int .i64 y.v)) ∧ W.cell? ⟨m, 0, none⟩ = some (.pointer (some ⟨s, 0, none⟩)))
    (first | go_keep | assumption)
    (first
      | ((with_reducible refine hpu.mono ?_); rintro e w4 ⟨rfl, hS4, hb4⟩; have hh4 := hkeep2 w4 hb4)
      | fail "no arm")
  go_wp2_with fail
  go_ret
  have hb34 := hb3.trans ((But.of_below (Below.refl _ w3).drew).trans hb4)
  have hx : (⟨y.key, x.v⟩ : EntV) = x := by rw [Hyk.out]
  rw [hx, drop_key (y := x) Hyk.out] at hS4
  exact ⟨by rw [hh]; rfl, ⟨(hb34.block m (by show _ < Wy.heap.size; omega) hne).trans h1.1, hS4⟩, (But.of_below hC2.drew).trans hb34⟩

theorem mapput_T (w : World) (m s : Nat) (L : List EntV) (x : EntV) (h : MapAt w m s L) (hs : L.length ≤ 700000) :
    Calls Try.prog 14 #[.pointer (some ⟨m, 0, none⟩), .agg #[.int .i64 x.key.k, .string x.key.t, .int .i64 x.key.n], .int .i64 x.v] w fun e w' => e = .returned (.bool (!has entCmp L x)) ∧ MapAt w' m s (put entCmp (drop entCmp L x) x) ∧ But s w w' := by
  cases hh : has entCmp L x
  · rw [← hh]; exact mapput_no w m s L x h hs hh
  · rw [← hh]; exact mapput_yes w m s L x h hs hh

set_option maxHeartbeats 2000000 in
theorem mapfirst_T (w : World) (m s : Nat) (y : EntV) (L : List EntV) (h : MapAt w m s (y :: L)) (hs : (y :: L).length ≤ 700000) :
    Calls Try.prog 19 #[.pointer (some ⟨m, 0, none⟩)] w fun e w' => e = .returned (.tuple #[.agg #[.int .i64 y.key.k, .string y.key.t, .int .i64 y.key.n], .int .i64 y.v, .bool true]) ∧ Below w.heap.size w w' := by
  have hBz : Below w.heap.size w (w.alloc (.cells #[.int .i64 0, .string ⟨#[]⟩, .int .i64 0] 26)) := (Below.refl _ w).alloc (Nat.le_refl _) _
  have h0 := h.below hBz
  have hc := cell_of_one h0.1
  have hzb := heap_alloc_new w (.cells #[.int .i64 0, .string ⟨#[]⟩, .int .i64 0] 26)
  go_enter Try.func19, Try.ntmps19
  go_wp2_with fail
  refine (set_at_T _ s (y :: L) 0 0 y h0.2 (by omega) rfl rfl).mono ?_
  rintro e w1 ⟨rfl, hB1⟩
  have hC1 := hBz.trans (hB1.mono hBz.size)
  have hBy : Below w1.heap.size w1 (w1.alloc (.cells #[.int .i64 y.key.k, .string y.key.t, .int .i64 y.key.n, .int .i64 y.v] 93)) := (Below.refl _ w1).alloc (Nat.le_refl _) _
  have hyb := heap_alloc_new w1 (.cells #[.int .i64 y.key.k, .string y.key.t, .int .i64 y.key.n, .int .i64 y.v] 93)
  have hz1 := (hB1.block _ (lt_of_block hzb)).trans hzb
  have hz2 : (w1.alloc (.cells #[.int .i64 y.key.k, .string y.key.t, .int .i64 y.key.n, .int .i64 y.v] 93)).heap[w.heap.size]? = some (.cells #[.int .i64 0, .string ⟨#[]⟩, .int .i64 0] 26 (0, 0)) := (hBy.block _ (lt_of_block hz1)).trans hz1
  have hC2 := hC1.trans (hBy.mono hC1.size)
  have hlt := lt_of_block hz1
  have hne : ¬ w1.heap.size = w.heap.size := by omega
  have hne2 : ¬ w.heap.size = w1.heap.size := by omega
  have hmy : ((w1.alloc (.cells #[.int .i64 y.key.k, .string y.key.t, .int .i64 y.key.n, .int .i64 y.v] 93)).cell? ⟨w1.heap.size, 0, none⟩ = some (.int .i64 y.key.k) ∧ (w1.alloc (.cells #[.int .i64 y.key.k, .string y.key.t, .int .i64 y.key.n, .int .i64 y.v] 93)).cell? ⟨w1.heap.size, 1, none⟩ = some (.string y.key.t) ∧ (w1.alloc (.cells #[.int .i64 y.key.k, .string y.key.t, .int .i64 y.key.n, .int .i64 y.v] 93)).cell? ⟨w1.heap.size, 2, none⟩ = some (.int .i64 y.key.n) ∧ (w1.alloc (.cells #[.int .i64 y.key.k, .string y.key.t, .int .i64 y.key.n, .int .i64 y.v] 93)).cell? ⟨w1.heap.size, 3, none⟩ = some (.int .i64 y.v)) := by simp only [World.cell?, hyb]; and_intros <;> rfl
  go_wp2_with fail
  generalize (w1.alloc (.cells #[.int .i64 y.key.k, .string y.key.t, .int .i64 y.key.n, .int .i64 y.v] 93)) = Wy at hBy hyb hz2 hC2 hmy ⊢
  have q : (Wy.drew.cell? ⟨w.heap.size, 0, none⟩ = some (.int .i64 0) ∧ Wy.drew.cell? ⟨w.heap.size, 1, none⟩ = some (.string ⟨#[]⟩) ∧ Wy.drew.cell? ⟨w.heap.size, 2, none⟩ = some (.int .i64 0)) ∧
      Wy.drew.frozen? ⟨w.heap.size, 0, none⟩ = false ∧ Wy.drew.frozen? ⟨w.heap.size, 1, none⟩ = false ∧ Wy.drew.frozen? ⟨w.heap.size, 2, none⟩ = false := by
    have hz2d : Wy.drew.heap[w.heap.size]? = some (.cells #[.int .i64 0, .string ⟨#[]⟩, .int .i64 0] 26 (0, 0)) := hz2
    simp only [World.cell?, World.frozen?, hz2d]; simp
  obtain ⟨⟨q0, q1, q2⟩, q3, q4, q5⟩ := q
  have r0 : Wy.cell? ⟨w.heap.size, 0, none⟩ = some (.int .i64 0) := q0
  have r1 : Wy.cell? ⟨w.heap.size, 1, none⟩ = some (.string ⟨#[]⟩) := q1
  have r2 : Wy.cell? ⟨w.heap.size, 2, none⟩ = some (.int .i64 0) := q2
  have r3 : Wy.frozen? ⟨w.heap.size, 0, none⟩ = false := q3
  have r4 : Wy.frozen? ⟨w.heap.size, 1, none⟩ = false := q4
  have r5 : Wy.frozen? ⟨w.heap.size, 2, none⟩ = false := q5
  have hfin : (((Wy.setCell ⟨w.heap.size, 0, none⟩ (.int .i64 y.key.k)).setCell ⟨w.heap.size, 1, none⟩ (.string y.key.t)).setCell ⟨w.heap.size, 2, none⟩ (.int .i64 y.key.n)).heap[w.heap.size]? = some (.cells #[.int .i64 y.key.k, .string y.key.t, .int .i64 y.key.n] 26 (0, 0)) := by
    have := set_block (o := 2) (set_block (o := 1) (set_block (w := Wy) (o := 0) hz2 (.int .i64 y.key.k)) (.string y.key.t)) (.int .i64 y.key.n)
    simpa using this
  have hbut : But w.heap.size Wy (((Wy.setCell ⟨w.heap.size, 0, none⟩ (.int .i64 y.key.k)).setCell ⟨w.heap.size, 1, none⟩ (.string y.key.t)).setCell ⟨w.heap.size, 2, none⟩ (.int .i64 y.key.n)) := (((But.refl _ _).setCell 0 _).setCell 1 _).setCell 2 _
  have hB3 : Below w.heap.size w (((Wy.setCell ⟨w.heap.size, 0, none⟩ (.int .i64 y.key.k)).setCell ⟨w.heap.size, 1, none⟩ (.string y.key.t)).setCell ⟨w.heap.size, 2, none⟩ (.int .i64 y.key.n)) := below_but hC2 hbut (Nat.le_refl _) hC2.size
  have Hfin := Lib.hid hfin
  have HB3 := Lib.hid hB3
  clear hfin hbut hB3
  go_region_held3 (fun W => W.cell? ⟨w1.heap.size, 0, none⟩ = some (.int .i64 y.key.k) ∧ W.cell? ⟨w1.heap.size, 1, none⟩ = some (.string y.key.t) ∧ W.cell? ⟨w1.heap.size, 2, none⟩ = some (.int .i64 y.key.n) ∧ W.cell? ⟨w1.heap.size, 3, none⟩ = some (.int .i64 y.v))
    (first | go_keep | assumption)
    (fail "no arm")
  have hfin := Hfin.out
  have hB3 := HB3.out
  clear Hfin HB3
  generalize (((Wy.setCell ⟨w.heap.size, 0, none⟩ (.int .i64 y.key.k)).setCell ⟨w.heap.size, 1, none⟩ (.string y.key.t)).setCell ⟨w.heap.size, 2, none⟩ (.int .i64 y.key.n)) = W at hfin hB3 ⊢
  have hm : W.cell? ⟨w.heap.size, 0, none⟩ = some (.int .i64 y.key.k) ∧ W.cell? ⟨w.heap.size, 1, none⟩ = some (.string y.key.t) ∧ W.cell? ⟨w.heap.size, 2, none⟩ = some (.int .i64 y.key.n) := by simp [World.cell?, hfin]
  have hm2 : W.drew.cell? ⟨w.heap.size, 0, none⟩ = some (.int .i64 y.key.k) ∧ W.drew.cell? ⟨w.heap.size, 1, none⟩ = some (.string y.key.t) ∧ W.drew.cell? ⟨w.heap.size, 2, none⟩ = some (.int .i64 y.key.n) := hm
  go_wp2_with fail
  exact bodyPost_ret (v := .tuple #[.agg #[.int .i64 y.key.k, .string y.key.t, .int .i64 y.key.n], .int .i64 y.v, .bool true]) (by simp [results, Try.results19, go_sem, hm, hm2]) rfl ⟨rfl, hB3.drew⟩

end Go.Proofs.Ytfgpkbbbohipcaa.E
