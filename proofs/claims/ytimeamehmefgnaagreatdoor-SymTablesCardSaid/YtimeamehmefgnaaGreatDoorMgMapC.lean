/- What New, Get, Put, Clone of a map by letters answer. Conditions: the map lies in memory; at most 700000 keys.
What is in a map by letters once a key has a value. Conditions: its entries are in order. -/
import Derived.Test.YtimeamehmefgnaaGreatDoorMgSetC
namespace Go.Proofs.YtimeamehmefgnaaGreatDoor.C
open Go Go.RowKit

/-- The map in block m, whose set is in block s, has the entries L. -/
def MapAt (w : World) (m s : Nat) (L : List EntC) : Prop := w.heap[m]? = some (.cells #[.pointer (some ⟨s, 0, none⟩)] 81 (0, 0)) ∧ SetAt w s L

theorem MapAt.below {w w' : World} {m s : Nat} {L : List EntC} (h : MapAt w m s L) (hB : Below w.heap.size w w') : MapAt w' m s L := ⟨(hB.block m (lt_of_block h.1)).trans h.1, h.2.below hB⟩

theorem MapAt.ne {w : World} {m s : Nat} {L : List EntC} (h : MapAt w m s L) : m ≠ s := by
  rintro rfl
  obtain ⟨t, p, h1, -⟩ := h.2
  rw [h.1] at h1
  cases h1

/-- Another set, or anything of another type, is changed. -/
theorem MapAt.but {w w' : World} {m s r : Nat} {L : List EntC} (h : MapAt w m s L) (hb : But r w w') (hm : r ≠ m) (hs : r ≠ s) {c : Array Value} {T : TypeId} {f : Nat × Nat} (ha : w.heap[r]? = some (.cells c T f)) (hT : T ≠ 122) : MapAt w' m s L :=
  ⟨(hb.block m (lt_of_block h.1) (Ne.symm hm)).trans h.1, h.2.but hb hs ha hT⟩

theorem mapnew_T (w : World) : Calls Tryz.prog 24 #[] w fun e w' => ∃ m s, e = .returned (.pointer (some ⟨m, 0, none⟩)) ∧ w.heap.size ≤ m ∧ w.heap.size ≤ s ∧ MapAt w' m s [] ∧ Below w.heap.size w w' := by
  go_enter Tryz.func24, Tryz.ntmps24
  go_wp2_with fail
  refine (new_T w _ [] ⟨none, 0, rfl, .inl rfl⟩ (by simp)).mono ?_
  rintro e w1 ⟨s, rfl, hs, hS, hB1⟩
  have hBm : Below w1.heap.size w1 (w1.alloc (.cells #[.pointer (some ⟨s, 0, none⟩)] 81)) := (Below.refl _ w1).alloc (Nat.le_refl _) _
  go_wp2_with fail
  go_ret
  exact ⟨w1.heap.size, s, rfl, hB1.size, hs, ⟨heap_alloc_new w1 _, hS.below hBm⟩, hB1.trans (hBm.mono hB1.size)⟩

set_option maxHeartbeats 1600000 in
theorem find_yes (w : World) (m s : Nat) (L : List EntC) (k : Int) (h : MapAt w m s L) (hs : L.length ≤ 700000) (hh : has entCmpC L ⟨k, 0⟩ = true) :
    Calls Tryz.prog 53 #[.pointer (some ⟨m, 0, none⟩), .int .u8 k] w fun e w' => (∃ y, e = .returned (.tuple #[.agg #[.int .u8 y.key, .int .i64 y.v], .bool true]) ∧ L[pos entCmpC L ⟨k, 0⟩]? = some y) ∧ Below w.heap.size w w' := by
  have hB0 : Below w.heap.size w (w.alloc (.cells #[.int .u8 0, .int .i64 0] 79)) := (Below.refl _ w).alloc (Nat.le_refl _) _
  have hz0 := heap_alloc_new w (.cells #[.int .u8 0, .int .i64 0] 79)
  have h0 := h.below hB0
  have hc := cell_of_one h0.1
  have hg := get_T _ s L ⟨k, 0⟩ h0.2 (by omega) hh
  dsimp only at hg
  go_enter Tryz.func53, Tryz.ntmps53
  go_wp2_with fail
  generalize (w.alloc (.cells #[.int .u8 0, .int .i64 0] 79)) = W0 at hB0 hz0 h0 hc hg ⊢
  refine hg.mono ?_
  rintro e w1 ⟨⟨y, rfl, hy⟩, hB1⟩
  have Hy := Lib.hid hy
  have hb1 := (hB1.block _ (lt_of_block hz0)).trans hz0
  have hz1 := zero_cells hb1
  have Hb1 := Lib.hid hb1
  have hCC := hB0.trans (hB1.mono hB0.size)
  clear hy hb1 hz0 hc hg
  go_wp2_with fail
  have hm := mem_sto w1 w.heap.size y Hb1.out
  have hB3 : Below w.heap.size w ((w1.setCell ⟨w.heap.size, 0, none⟩ (.int .u8 y.key)).setCell ⟨w.heap.size, 1, none⟩ (.int .i64 y.v)) := below_but hCC (but_sto w1 w.heap.size y) (Nat.le_refl _) hCC.size
  generalize ((w1.setCell ⟨w.heap.size, 0, none⟩ (.int .u8 y.key)).setCell ⟨w.heap.size, 1, none⟩ (.int .i64 y.v)) = W at hm hB3 ⊢
  exact bodyPost_ret (v := .tuple #[.agg #[.int .u8 y.key, .int .i64 y.v], .bool true]) (by simp [results, Tryz.results53, go_sem, hm]) rfl ⟨⟨y, rfl, Hy.out⟩, hB3⟩

set_option maxHeartbeats 1600000 in
theorem find_no (w : World) (m s : Nat) (L : List EntC) (k : Int) (h : MapAt w m s L) (hs : L.length ≤ 700000) (hh : has entCmpC L ⟨k, 0⟩ = false) :
    Calls Tryz.prog 53 #[.pointer (some ⟨m, 0, none⟩), .int .u8 k] w fun e w' => e = .returned (.tuple #[.agg #[.int .u8 0, .int .i64 0], .bool false]) ∧ Below w.heap.size w w' := by
  have hB0 : Below w.heap.size w (w.alloc (.cells #[.int .u8 0, .int .i64 0] 79)) := (Below.refl _ w).alloc (Nat.le_refl _) _
  have hz0 := heap_alloc_new w (.cells #[.int .u8 0, .int .i64 0] 79)
  have h0 := h.below hB0
  have hc := cell_of_one h0.1
  have hg := get_no_T _ s L ⟨k, 0⟩ h0.2 (by omega) hh
  dsimp only at hg
  go_enter Tryz.func53, Tryz.ntmps53
  go_wp2_with fail
  generalize (w.alloc (.cells #[.int .u8 0, .int .i64 0] 79)) = W0 at hB0 hz0 h0 hc hg ⊢
  refine hg.mono ?_
  rintro e w1 ⟨rfl, hB1⟩
  have hb1 := (hB1.block _ (lt_of_block hz0)).trans hz0
  have hz1 := zero_cells hb1
  have Hb1 := Lib.hid hb1
  have hCC := hB0.trans (hB1.mono hB0.size)
  clear hb1 hz0 hc hg
  go_wp2_with fail
  have hm : ((w1.setCell ⟨w.heap.size, 0, none⟩ (.int .u8 0)).setCell ⟨w.heap.size, 1, none⟩ (.int .i64 0)).cell? ⟨w.heap.size, 0, none⟩ = some (.int .u8 0) ∧ ((w1.setCell ⟨w.heap.size, 0, none⟩ (.int .u8 0)).setCell ⟨w.heap.size, 1, none⟩ (.int .i64 0)).cell? ⟨w.heap.size, 1, none⟩ = some (.int .i64 0) := mem_sto w1 w.heap.size (⟨0, 0⟩ : EntC) Hb1.out
  have hB3 : Below w.heap.size w ((w1.setCell ⟨w.heap.size, 0, none⟩ (.int .u8 0)).setCell ⟨w.heap.size, 1, none⟩ (.int .i64 0)) := below_but hCC (but_sto w1 w.heap.size (⟨0, 0⟩ : EntC)) (Nat.le_refl _) hCC.size
  generalize ((w1.setCell ⟨w.heap.size, 0, none⟩ (.int .u8 0)).setCell ⟨w.heap.size, 1, none⟩ (.int .i64 0)) = W at hm hB3 ⊢
  exact bodyPost_ret (v := .tuple #[.agg #[.int .u8 0, .int .i64 0], .bool false]) (by simp [results, Tryz.results53, go_sem, hm]) rfl ⟨rfl, hB3⟩

/-- The value of a key; 0 where there is none. -/
def valOf (L : List EntC) (k : Int) : Int := match L.find? (fun y => y.key == k) with | some y => y.v | none => 0

theorem key_eq {L : List EntC} {k : Int} {y : EntC} (hs : Sorted entCmpC L) (hh : has entCmpC L ⟨k, 0⟩ = true) (hy : L[pos entCmpC L ⟨k, 0⟩]? = some y) : y.key = k := by
  obtain ⟨z, hz, h0⟩ := has_at entCmpC_lin L _ hs hh
  rw [hy] at hz
  cases hz
  exact (icmp_zero.1 h0).symm

theorem valOf_yes {L : List EntC} {k : Int} {y : EntC} (hs : Sorted entCmpC L) (hh : has entCmpC L ⟨k, 0⟩ = true) (hy : L[pos entCmpC L ⟨k, 0⟩]? = some y) : valOf L k = y.v := by
  have hk := key_eq hs hh hy
  have hmem : y ∈ L := List.mem_of_getElem? hy
  unfold valOf
  cases hf : L.find? (fun y => y.key == k) with
  | none => have := List.find?_eq_none.1 hf y hmem; simp [hk] at this
  | some z =>
    have hz := List.find?_some hf
    have hzm := List.mem_of_find?_eq_some hf
    simp only [beq_iff_eq] at hz
    obtain ⟨i, hi⟩ := List.mem_iff_getElem?.1 hzm
    have h1 := (pos_get entCmpC_lin hs hi).1
    have h2 : pos entCmpC L z = pos entCmpC L ⟨k, 0⟩ := by unfold pos entCmpC; rw [hz]
    rw [← h1, h2, hy] at hi
    cases hi
    rfl

theorem valOf_no {L : List EntC} {k : Int} (hh : has entCmpC L ⟨k, 0⟩ = false) : valOf L k = 0 := by
  unfold valOf
  cases hf : L.find? (fun y => y.key == k) with
  | none => rfl
  | some z =>
    have hz := List.find?_some hf
    have hzm := List.mem_of_find?_eq_some hf
    simp only [beq_iff_eq] at hz
    have := List.any_eq_false.1 hh z hzm
    exact absurd (by simp [entCmpC, icmp_zero, hz]) this

theorem MapAt.sorted {w : World} {m s : Nat} {L : List EntC} (h : MapAt w m s L) : Sorted entCmpC L := by obtain ⟨t, p, -, -, -, h4⟩ := h.2; exact h4

theorem mapget_yes (w : World) (m s : Nat) (L : List EntC) (k : Int) (h : MapAt w m s L) (hs : L.length ≤ 700000) (hh : has entCmpC L ⟨k, 0⟩ = true) :
    Calls Tryz.prog 36 #[.pointer (some ⟨m, 0, none⟩), .int .u8 k] w fun e w' => e = .returned (.tuple #[.int .i64 (valOf L k), .bool true]) ∧ Below w.heap.size w w' := by
  have Hso := Lib.hid h.sorted
  go_enter Tryz.func36, Tryz.ntmps36
  go_wp2_with fail
  refine (find_yes w m s L k h (by omega) hh).mono ?_
  rintro e w1 ⟨⟨y, rfl, hy⟩, hB1⟩
  have Hy := Lib.hid (valOf_yes Hso.out hh hy)
  clear hy
  have hBy : Below w1.heap.size w1 (w1.alloc (.cells #[.int .u8 y.key, .int .i64 y.v] 79)) := (Below.refl _ w1).alloc (Nat.le_refl _) _
  go_wp2_with fail
  go_ret2
  exact ⟨by rw [Hy.out]; rfl, hB1.trans (hBy.mono hB1.size)⟩

theorem mapget_no (w : World) (m s : Nat) (L : List EntC) (k : Int) (h : MapAt w m s L) (hs : L.length ≤ 700000) (hh : has entCmpC L ⟨k, 0⟩ = false) :
    Calls Tryz.prog 36 #[.pointer (some ⟨m, 0, none⟩), .int .u8 k] w fun e w' => e = .returned (.tuple #[.int .i64 (valOf L k), .bool false]) ∧ Below w.heap.size w w' := by
  have Hv := Lib.hid (valOf_no hh)
  go_enter Tryz.func36, Tryz.ntmps36
  go_wp2_with fail
  refine (find_no w m s L k h (by omega) hh).mono ?_
  rintro e w1 ⟨rfl, hB1⟩
  have hBy : Below w1.heap.size w1 (w1.alloc (.cells #[.int .u8 0, .int .i64 0] 79)) := (Below.refl _ w1).alloc (Nat.le_refl _) _
  go_wp2_with fail
  go_ret2
  exact ⟨by rw [Hv.out]; rfl, hB1.trans (hBy.mono hB1.size)⟩

theorem mapget_T (w : World) (m s : Nat) (L : List EntC) (k : Int) (h : MapAt w m s L) (hs : L.length ≤ 700000) :
    Calls Tryz.prog 36 #[.pointer (some ⟨m, 0, none⟩), .int .u8 k] w fun e w' => e = .returned (.tuple #[.int .i64 (valOf L k), .bool (has entCmpC L ⟨k, 0⟩)]) ∧ Below w.heap.size w w' := by
  cases hh : has entCmpC L ⟨k, 0⟩
  · exact mapget_no w m s L k h hs hh
  · exact mapget_yes w m s L k h hs hh

theorem drop_key {L : List EntC} {x y : EntC} (h : x.key = y.key) : drop entCmpC L x = drop entCmpC L y := by unfold drop has pos entCmpC; rw [h]
theorem has_key {L : List EntC} {x y : EntC} (h : x.key = y.key) : has entCmpC L x = has entCmpC L y := by unfold has entCmpC; rw [h]

set_option maxHeartbeats 1000000 in
theorem mapput_no (w : World) (m s : Nat) (L : List EntC) (x : EntC) (h : MapAt w m s L) (hs : L.length ≤ 700000) (hh : has entCmpC L x = false) :
    Calls Tryz.prog 48 #[.pointer (some ⟨m, 0, none⟩), .int .u8 x.key, .int .i64 x.v] w fun e w' => e = .returned (.bool (!has entCmpC L x)) ∧ MapAt w' m s (put entCmpC (drop entCmpC L x) x) ∧ But s w w' := by
  have hss := h.2.lt
  have hml := lt_of_block h.1
  have hne := h.ne
  have hdL : drop entCmpC L x = L := by rw [drop, hh, if_neg (by simp)]
  have HdL := Lib.hid hdL
  clear hdL
  go_enter Tryz.func48, Tryz.ntmps48
  go_wp2_with fail
  refine (find_no w m s L x.key h (by omega) ((has_key rfl).trans hh)).mono ?_
  rintro e w1 ⟨rfl, hB1⟩
  have hBy : Below w1.heap.size w1 (w1.alloc (.cells #[.int .u8 0, .int .i64 0] 79)) := (Below.refl _ w1).alloc (Nat.le_refl _) _
  have hC2 := hB1.trans (hBy.mono hB1.size)
  have h1 := h.below hC2
  have hc1 := cell_of_one h1.1
  go_wp2_with fail
  generalize (w1.alloc (.cells #[.int .u8 0, .int .i64 0] 79)) = Wy at hBy hC2 h1 hc1 ⊢
  refine (put_T Wy s L x h1.2 (by omega)).mono ?_
  rintro e w3 ⟨rfl, hS3, hb3⟩
  go_wp2_with fail
  go_ret
  exact ⟨by rw [hh]; rfl, ⟨(hb3.block m (lt_of_block h1.1) hne).trans h1.1, by rw [HdL.out]; exact hS3⟩, (But.of_below hC2).trans hb3⟩

set_option maxHeartbeats 1000000 in
theorem mapput_yes (w : World) (m s : Nat) (L : List EntC) (x : EntC) (h : MapAt w m s L) (hs : L.length ≤ 700000) (hh : has entCmpC L x = true) :
    Calls Tryz.prog 48 #[.pointer (some ⟨m, 0, none⟩), .int .u8 x.key, .int .i64 x.v] w fun e w' => e = .returned (.bool (!has entCmpC L x)) ∧ MapAt w' m s (put entCmpC (drop entCmpC L x) x) ∧ But s w w' := by
  have hss := h.2.lt
  have hml := lt_of_block h.1
  have hne := h.ne
  have hso := h.sorted
  go_enter Tryz.func48, Tryz.ntmps48
  go_wp2_with fail
  refine (find_yes w m s L x.key h (by omega) ((has_key rfl).trans hh)).mono ?_
  rintro e w1 ⟨⟨y, rfl, hy⟩, hB1⟩
  have hyk := key_eq hso ((has_key rfl).trans hh) hy
  have Hyk := Lib.hid hyk
  clear hy hyk
  have hBy : Below w1.heap.size w1 (w1.alloc (.cells #[.int .u8 y.key, .int .i64 y.v] 79)) := (Below.refl _ w1).alloc (Nat.le_refl _) _
  have hyb := heap_alloc_new w1 (.cells #[.int .u8 y.key, .int .i64 y.v] 79)
  have hC2 := hB1.trans (hBy.mono hB1.size)
  have h1 := h.below hC2
  have hc1 := cell_of_one h1.1
  have hszy : (w1.alloc (.cells #[.int .u8 y.key, .int .i64 y.v] 79)).heap.size = w1.heap.size + 1 := by simp
  have hsz1 := hB1.size
  go_wp2_with fail
  generalize (w1.alloc (.cells #[.int .u8 y.key, .int .i64 y.v] 79)) = Wy at hBy hyb hC2 h1 hc1 hszy ⊢
  have hdr := drop_T Wy.drew s L y (h1.2.below (Below.refl _ _).drew) (by omega)
  have hkeep : ∀ W, But s Wy.drew W → (W.cell? ⟨w1.heap.size, 0, none⟩ = some (.int .u8 y.key) ∧ W.cell? ⟨w1.heap.size, 1, none⟩ = some (.int .i64 y.v)) ∧ W.cell? ⟨m, 0, none⟩ = some (.pointer (some ⟨s, 0, none⟩)) := by
    intro W hb
    have e1 := (hb.block w1.heap.size (by show _ < Wy.heap.size; omega) (by omega)).trans hyb
    have e2 := (hb.block m (by show _ < Wy.heap.size; omega) hne).trans h1.1
    simp [World.cell?, e1, e2]
  obtain ⟨⟨y0, y1⟩, -⟩ := hkeep _ (But.refl _ _)
  go_region_held3 (fun W => (W.cell? ⟨w1.heap.size, 0, none⟩ = some (.int .u8 y.key) ∧ W.cell? ⟨w1.heap.size, 1, none⟩ = some (.int .i64 y.v)) ∧ W.cell? ⟨m, 0, none⟩ = some (.pointer (some ⟨s, 0, none⟩)))
    (first | go_keep | assumption)
    (first
      | ((with_reducible refine hdr.mono ?_); rintro e w3 ⟨rfl, hS3, hb3⟩; have hh3 := hkeep w3 hb3)
      | fail "no arm")
  clear y0 y1
  obtain ⟨⟨z0, z1⟩, z4⟩ := hh3
  go_wp2_with fail
  have hpu := put_T w3.drew s _ ⟨y.key, x.v⟩ (hS3.below (Below.refl _ _).drew) (by have := length_drop entCmpC L y; omega)
  have hkeep2 : ∀ W, But s w3.drew W → (W.cell? ⟨w1.heap.size, 0, none⟩ = some (.int .u8 y.key) ∧ W.cell? ⟨w1.heap.size, 1, none⟩ = some (.int .i64 y.v)) ∧ W.cell? ⟨m, 0, none⟩ = some (.pointer (some ⟨s, 0, none⟩)) := fun W hb => hkeep W (hb3.trans ((But.of_below (Below.refl _ w3).drew).trans hb))
  dsimp only at hpu
  go_region_held3 (fun W => (W.cell? ⟨w1.heap.size, 0, none⟩ = some (.int .u8 y.key) ∧ W.cell? ⟨w1.heap.size, 1, none⟩ = some (.int .i64 y.v)) ∧ W.cell? ⟨m, 0, none⟩ = some (.pointer (some ⟨s, 0, none⟩)))
    (first | go_keep | assumption)
    (first
      | ((with_reducible refine hpu.mono ?_); rintro e w4 ⟨rfl, hS4, hb4⟩; have hh4 := hkeep2 w4 hb4)
      | fail "no arm")
  go_wp2_with fail
  go_ret
  have hb34 := hb3.trans ((But.of_below (Below.refl _ w3).drew).trans hb4)
  have hx : (⟨y.key, x.v⟩ : EntC) = x := by rw [Hyk.out]
  rw [hx, drop_key (y := x) Hyk.out] at hS4
  exact ⟨by rw [hh]; rfl, ⟨(hb34.block m (by show _ < Wy.heap.size; omega) hne).trans h1.1, hS4⟩, (But.of_below hC2.drew).trans hb34⟩

theorem mapput_T (w : World) (m s : Nat) (L : List EntC) (x : EntC) (h : MapAt w m s L) (hs : L.length ≤ 700000) :
    Calls Tryz.prog 48 #[.pointer (some ⟨m, 0, none⟩), .int .u8 x.key, .int .i64 x.v] w fun e w' => e = .returned (.bool (!has entCmpC L x)) ∧ MapAt w' m s (put entCmpC (drop entCmpC L x) x) ∧ But s w w' := by
  cases hh : has entCmpC L x
  · rw [← hh]; exact mapput_no w m s L x h hs hh
  · rw [← hh]; exact mapput_yes w m s L x h hs hh

theorem mapclone_T (w : World) (m s : Nat) (L : List EntC) (h : MapAt w m s L) :
    Calls Tryz.prog 38 #[.pointer (some ⟨m, 0, none⟩)] w fun e w' => ∃ c d, e = .returned (.pointer (some ⟨c, 0, none⟩)) ∧ w.heap.size ≤ c ∧ w.heap.size ≤ d ∧ MapAt w' c d L ∧ Below w.heap.size w w' := by
  have hc := cell_of_one h.1
  go_enter Tryz.func38, Tryz.ntmps38
  go_wp2_with fail
  refine (clone_T w s L h.2).mono ?_
  rintro e w1 ⟨rfl, hS, hB1⟩
  have hBm : Below w1.heap.size w1 (w1.alloc (.cells #[.pointer (some ⟨w.heap.size, 0, none⟩)] 81)) := (Below.refl _ w1).alloc (Nat.le_refl _) _
  go_wp2_with fail
  go_ret
  exact ⟨w1.heap.size, w.heap.size, rfl, hB1.size, Nat.le_refl _, ⟨heap_alloc_new w1 _, hS.below hBm⟩, hB1.trans (hBm.mono hB1.size)⟩

end Go.Proofs.YtimeamehmefgnaaGreatDoor.C

namespace Go.Proofs.YtimeamehmefgnaaGreatDoor.C
open Go Go.RowKit

theorem entCmpC_zero {x y : EntC} : entCmpC x y = 0 ↔ x.key = y.key := icmp_zero

theorem has_key_iff {L : List EntC} {x : EntC} : has entCmpC L x = true ↔ ∃ y ∈ L, y.key = x.key := by
  unfold has
  rw [List.any_eq_true]
  constructor
  · rintro ⟨y, hy, h⟩; exact ⟨y, hy, (entCmpC_zero.1 (by simpa using h)).symm⟩
  · rintro ⟨y, hy, h⟩; exact ⟨y, hy, by simpa using entCmpC_zero.2 h.symm⟩

theorem key_uniq {L : List EntC} (hs : Sorted entCmpC L) {y z : EntC} (hy : y ∈ L) (hz : z ∈ L) (h : y.key = z.key) : y = z := by
  induction L with
  | nil => cases hy
  | cons a L ih =>
    obtain ⟨h1, h2⟩ := List.pairwise_cons.1 hs
    rcases List.mem_cons.1 hy with rfl | hy'
    · rcases List.mem_cons.1 hz with rfl | hz
      · rfl
      · have := h1 z hz; rw [entCmpC_zero.2 h] at this; omega
    · rcases List.mem_cons.1 hz with hz | hz
      · have := h1 y hy'; rw [hz] at h; rw [entCmpC_zero.2 h.symm] at this; omega
      · exact ih h2 hy' hz

theorem valOf_mem {L : List EntC} (hs : Sorted entCmpC L) {y : EntC} (hy : y ∈ L) : valOf L y.key = y.v := by
  unfold valOf
  cases hf : L.find? (fun z => z.key == y.key) with
  | none => have := List.find?_eq_none.1 hf y hy; simp at this
  | some z =>
    have hz := List.find?_some hf
    simp only [beq_iff_eq] at hz
    rw [key_uniq hs hy (List.mem_of_find?_eq_some hf) hz.symm]

theorem valOf_none {L : List EntC} {x : Int} (h : ∀ y ∈ L, y.key ≠ x) : valOf L x = 0 := by
  unfold valOf
  cases hf : L.find? (fun z => z.key == x) with
  | none => rfl
  | some z =>
    have hz := List.find?_some hf
    simp only [beq_iff_eq] at hz
    exact absurd hz (h z (List.mem_of_find?_eq_some hf))

theorem mem_drop_key {L : List EntC} (hs : Sorted entCmpC L) {x a : EntC} : a ∈ drop entCmpC L x ↔ a ∈ L ∧ a.key ≠ x.key := by
  unfold drop
  split
  · rename_i hh
    obtain ⟨y, hy, h0⟩ := has_at entCmpC_lin L x hs hh
    have hyk := entCmpC_zero.1 h0
    obtain ⟨hi, hg⟩ := List.getElem?_eq_some_iff.1 hy
    generalize pos entCmpC L x = i at hi hg
    have e : L = L.take i ++ y :: L.drop (i + 1) := by
      conv => lhs; rw [← List.take_append_drop i L, List.drop_eq_getElem_cons hi, hg]
    have hs' := hs
    rw [e] at hs'
    obtain ⟨-, h2, h3⟩ := List.pairwise_append.1 hs'
    have h4 := (List.pairwise_cons.1 h2).1
    rw [List.eraseIdx_eq_take_drop_succ]
    have ne1 : ∀ b ∈ L.take i, b.key ≠ x.key := fun b hb k => by
      have := h3 b hb y (by simp); rw [entCmpC_zero.2 (k.trans hyk)] at this; omega
    have ne2 : ∀ b ∈ L.drop (i + 1), b.key ≠ x.key := fun b hb k => by
      have := h4 b hb; rw [entCmpC_zero.2 (hyk.symm.trans k.symm)] at this; omega
    have hm : a ∈ L ↔ a ∈ L.take i ∨ a = y ∨ a ∈ L.drop (i + 1) := by
      conv => lhs; rw [e]
      simp
    rw [hm, List.mem_append]
    constructor
    · rintro (h | h)
      · exact ⟨.inl h, ne1 a h⟩
      · exact ⟨.inr (.inr h), ne2 a h⟩
    · rintro ⟨h | h | h, hn⟩
      · exact .inl h
      · exact absurd (h ▸ hyk.symm) hn
      · exact .inr h
  · rename_i hh
    exact ⟨fun h => ⟨h, fun e => hh (has_key_iff.2 ⟨a, h, e⟩)⟩, fun h => h.1⟩

/-- The entries once a key has a value. -/
abbrev putC (L : List EntC) (x : EntC) : List EntC := put entCmpC (drop entCmpC L x) x

theorem mem_putC {L : List EntC} (hs : Sorted entCmpC L) {x a : EntC} : a ∈ putC L x ↔ a = x ∨ (a ∈ L ∧ a.key ≠ x.key) := by
  have hn : has entCmpC (drop entCmpC L x) x = false := by
    rw [← Bool.not_eq_true]
    intro h
    obtain ⟨y, hy, e⟩ := has_key_iff.1 h
    exact ((mem_drop_key hs).1 hy).2 e
  unfold putC
  rw [put, hn, if_neg (by simp), mem_ins, mem_drop_key hs]

theorem sorted_putC {L : List EntC} (hs : Sorted entCmpC L) (x : EntC) : Sorted entCmpC (putC L x) := sorted_put entCmpC_lin _ _ (sorted_drop _ _ hs)

theorem length_putC (L : List EntC) (x : EntC) : (putC L x).length ≤ L.length + 1 := by
  have h1 := length_drop entCmpC L x
  have h2 := length_put entCmpC (drop entCmpC L x) x
  unfold putC
  omega

theorem valOf_putC {L : List EntC} (hs : Sorted entCmpC L) (x : EntC) (k : Int) : valOf (putC L x) k = if k = x.key then x.v else valOf L k := by
  have hso := sorted_putC hs x
  split
  · rename_i h
    subst h
    exact valOf_mem hso ((mem_putC hs).2 (.inl rfl))
  · rename_i h
    by_cases hk : ∃ y ∈ L, y.key = k
    · obtain ⟨y, hy, rfl⟩ := hk
      rw [valOf_mem hs hy]
      exact valOf_mem hso ((mem_putC hs).2 (.inr ⟨hy, h⟩))
    · rw [valOf_none (fun y hy e => hk ⟨y, hy, e⟩), valOf_none]
      intro y hy e
      rcases (mem_putC hs).1 hy with rfl | ⟨hy, -⟩
      · exact h e.symm
      · exact hk ⟨y, hy, e⟩

end Go.Proofs.YtimeamehmefgnaaGreatDoor.C
