/- What New, find, Get, Len, First of a map answer. Conditions: the map lies in memory; at most 700000 keys. -/
import Derived.Test.YtbpibbcehfkeeaaDropSE
import Derived.Test.YtbpibbcehfkeeaaNoneSE
import Derived.Test.YtbpibbcehfkeeaaNewSE
import Derived.Test.YtbpibbcehfkeeaaSatSE
namespace Go.Proofs.Ytbpibbcehfkeeaa.E
open Go Go.RowKit

/-- The map in block m, whose set is in block s, has the entries L. -/
def MapAt (w : World) (m s : Nat) (L : List EntV) : Prop := w.heap[m]? = some (.cells #[.pointer (some ⟨s, 0, none⟩)] 95 (0, 0)) ∧ SetAt w s L

theorem MapAt.below {w w' : World} {m s : Nat} {L : List EntV} (h : MapAt w m s L) (hB : Below w.heap.size w w') : MapAt w' m s L := ⟨(hB.block m (lt_of_block h.1)).trans h.1, h.2.below hB⟩

theorem MapAt.ne {w : World} {m s : Nat} {L : List EntV} (h : MapAt w m s L) : m ≠ s := by
  rintro rfl
  obtain ⟨t, p, h1, -⟩ := h.2
  rw [h.1] at h1
  cases h1

theorem mapnew_T (w : World) : Calls Try.prog 10 #[] w fun e w' => ∃ m s, e = .returned (.pointer (some ⟨m, 0, none⟩)) ∧ w.heap.size ≤ m ∧ w.heap.size ≤ s ∧ MapAt w' m s [] ∧ Below w.heap.size w w' := by
  go_enter Try.func10, Try.ntmps10
  go_wp2_with fail
  refine (new_T w _ [] ⟨none, 0, rfl, .inl rfl⟩ (by simp)).mono ?_
  rintro e w1 ⟨s, rfl, hs, hS, hB1⟩
  have hBm : Below w1.heap.size w1 (w1.alloc (.cells #[.pointer (some ⟨s, 0, none⟩)] 95)) := (Below.refl _ w1).alloc (Nat.le_refl _) _
  go_wp2_with fail
  go_ret
  exact ⟨w1.heap.size, s, rfl, hB1.size, hs, ⟨heap_alloc_new w1 _, hS.below hBm⟩, hB1.trans (hBm.mono hB1.size)⟩

theorem keep4 (W : World) {m b : Nat} (h : ¬ m = b) (v0 v1 v2 v3 : Value) : ((((W.setCell ⟨b, 0, none⟩ v0).setCell ⟨b, 1, none⟩ v1).setCell ⟨b, 2, none⟩ v2).setCell ⟨b, 3, none⟩ v3).cell? ⟨m, 0, none⟩ = W.cell? ⟨m, 0, none⟩ := by
  have hb : But b W ((((W.setCell ⟨b, 0, none⟩ v0).setCell ⟨b, 1, none⟩ v1).setCell ⟨b, 2, none⟩ v2).setCell ⟨b, 3, none⟩ v3) := ((((But.refl b W).setCell 0 v0).setCell 1 v1).setCell 2 v2).setCell 3 v3
  have h1 := hb.block m
  by_cases hm : m < W.heap.size
  · exact World.cell?_of_block (h1 hm h)
  · have hs : ((((W.setCell ⟨b, 0, none⟩ v0).setCell ⟨b, 1, none⟩ v1).setCell ⟨b, 2, none⟩ v2).setCell ⟨b, 3, none⟩ v3).heap.size = W.heap.size := by simp [World.setCell]
    simp only [World.cell?]
    rw [Array.getElem?_eq_none (by omega), Array.getElem?_eq_none (by omega)]

/-- What a call with a key finds in its box, and in the result's. -/
theorem keybox (w : World) (k : SymV) : Below w.heap.size w ((w.alloc (.cells #[.int .i64 k.k, .string k.t, .int .i64 k.n] 26)).alloc (.cells #[.int .i64 0, .string ⟨#[]⟩, .int .i64 0, .int .i64 0] 93)) ∧ Below w.heap.size w ((w.alloc (.cells #[.int .i64 k.k, .string k.t, .int .i64 k.n] 26)).alloc (.cells #[.int .i64 0, .string ⟨#[]⟩, .int .i64 0, .int .i64 0] 93)).drew ∧
    (∀ W, Below ((w.alloc (.cells #[.int .i64 k.k, .string k.t, .int .i64 k.n] 26)).alloc (.cells #[.int .i64 0, .string ⟨#[]⟩, .int .i64 0, .int .i64 0] 93)).heap.size ((w.alloc (.cells #[.int .i64 k.k, .string k.t, .int .i64 k.n] 26)).alloc (.cells #[.int .i64 0, .string ⟨#[]⟩, .int .i64 0, .int .i64 0] 93)) W → (W.cell? ⟨w.heap.size, 0, none⟩ = some (.int .i64 k.k) ∧ W.cell? ⟨w.heap.size, 1, none⟩ = some (.string k.t) ∧ W.cell? ⟨w.heap.size, 2, none⟩ = some (.int .i64 k.n))) ∧
    (∀ W, Below ((w.alloc (.cells #[.int .i64 k.k, .string k.t, .int .i64 k.n] 26)).alloc (.cells #[.int .i64 0, .string ⟨#[]⟩, .int .i64 0, .int .i64 0] 93)).heap.size ((w.alloc (.cells #[.int .i64 k.k, .string k.t, .int .i64 k.n] 26)).alloc (.cells #[.int .i64 0, .string ⟨#[]⟩, .int .i64 0, .int .i64 0] 93)) W → W.heap[w.heap.size + 1]? = some (.cells #[.int .i64 0, .string ⟨#[]⟩, .int .i64 0, .int .i64 0] 93 (0, 0))) := by
  have h0 : Below w.heap.size w ((w.alloc (.cells #[.int .i64 k.k, .string k.t, .int .i64 k.n] 26)).alloc (.cells #[.int .i64 0, .string ⟨#[]⟩, .int .i64 0, .int .i64 0] 93)) := ((Below.refl _ w).alloc (Nat.le_refl _) _).alloc (by simp) _
  refine ⟨h0, h0.drew, fun W h => ?_, fun W h => ?_⟩
  · have hn := heap_alloc_new w (.cells #[.int .i64 k.k, .string k.t, .int .i64 k.n] 26)
    have := (h.block w.heap.size (by simp; omega)).trans ((Below.heap_alloc _ _ _ (by simp)).trans hn)
    simp [World.cell?, this]
  · have hn := heap_alloc_new (w.alloc (.cells #[.int .i64 k.k, .string k.t, .int .i64 k.n] 26)) (.cells #[.int .i64 0, .string ⟨#[]⟩, .int .i64 0, .int .i64 0] 93)
    simp only [World.size_alloc] at hn
    exact (h.block _ (by simp)).trans hn

set_option maxHeartbeats 1600000 in
theorem find_yes (w : World) (m s : Nat) (L : List EntV) (k : SymV) (h : MapAt w m s L) (hs : L.length ≤ 700000) (hh : has entCmp L ⟨k, 0⟩ = true) :
    Calls Try.prog 47 #[.pointer (some ⟨m, 0, none⟩), .agg #[.int .i64 k.k, .string k.t, .int .i64 k.n]] w fun e w' => (∃ y, e = .returned (.tuple #[.agg #[.int .i64 y.key.k, .string y.key.t, .int .i64 y.key.n, .int .i64 y.v], .bool true]) ∧ L[pos entCmp L ⟨k, 0⟩]? = some y) ∧ Below w.heap.size w w' := by
  obtain ⟨hB0, hBd, hkb, hzb⟩ := keybox w k
  have h0 := h.below hB0
  have hc := cell_of_one h0.1
  have hml : m < w.heap.size := lt_of_block h.1
  have hm1 : ¬ m = w.heap.size + 1 := by omega
  have hm2 : ¬ w.heap.size + 1 = m := by omega
  have hg := get_T _ s L ⟨k, 0⟩ (h.below hBd).2 (by omega) hh
  obtain ⟨k0, k1, k2⟩ := hkb _ (Below.refl _ _)
  dsimp only at hg
  go_enter Try.func47, Try.ntmps47
  go_wp2_with fail
  generalize ((w.alloc (.cells #[.int .i64 k.k, .string k.t, .int .i64 k.n] 26)).alloc (.cells #[.int .i64 0, .string ⟨#[]⟩, .int .i64 0, .int .i64 0] 93)) = W0 at hB0 hBd hkb hzb h0 hc hg k0 k1 k2 ⊢
  go_region_held3 (fun W => (W.cell? ⟨w.heap.size, 0, none⟩ = some (.int .i64 k.k) ∧ W.cell? ⟨w.heap.size, 1, none⟩ = some (.string k.t) ∧ W.cell? ⟨w.heap.size, 2, none⟩ = some (.int .i64 k.n)) ∧ W.cell? ⟨m, 0, none⟩ = some (.pointer (some ⟨s, 0, none⟩)))
    (first | go_keep | assumption)
    (first
      | ((with_reducible refine hg.mono ?_); rintro e w1 ⟨⟨y, rfl, hy⟩, hB1⟩; have Hy := Lib.hid hy; clear hy; have hC := ((Below.refl W0.heap.size W0).drew.trans hB1); have hh1 := hkb w1 hC; have hh2 := cell_of_one (h0.below hC).1; have hz1 := zero_cells (hzb w1 hC))
      | fail "no arm")
  have hCC := hB0.trans (hC.mono hB0.size)
  have Hz := Lib.hid (hzb w1 hC)
  have hszz := lt_of_block (hzb w1 hC)
  clear hh1 hh2 k0 k1 k2 hc
  go_wp2_with fail
  have hm := mem_sto w1 (w.heap.size + 1) y Hz.out
  have hB3 : Below w.heap.size w ((((w1.setCell ⟨(w.heap.size + 1), 0, none⟩ (.int .i64 y.key.k)).setCell ⟨(w.heap.size + 1), 1, none⟩ (.string y.key.t)).setCell ⟨(w.heap.size + 1), 2, none⟩ (.int .i64 y.key.n)).setCell ⟨(w.heap.size + 1), 3, none⟩ (.int .i64 y.v)) := below_but hCC (but_sto w1 (w.heap.size + 1) y) (by omega) hCC.size
  generalize ((((w1.setCell ⟨w.heap.size + 1, 0, none⟩ (.int .i64 y.key.k)).setCell ⟨w.heap.size + 1, 1, none⟩ (.string y.key.t)).setCell ⟨w.heap.size + 1, 2, none⟩ (.int .i64 y.key.n)).setCell ⟨w.heap.size + 1, 3, none⟩ (.int .i64 y.v)) = W at hm hB3 ⊢
  exact bodyPost_ret (v := .tuple #[.agg #[.int .i64 y.key.k, .string y.key.t, .int .i64 y.key.n, .int .i64 y.v], .bool true]) (by simp [results, Try.results47, go_sem, hm]) rfl ⟨⟨y, rfl, Hy.out⟩, hB3⟩


set_option maxHeartbeats 1600000 in
theorem find_no (w : World) (m s : Nat) (L : List EntV) (k : SymV) (h : MapAt w m s L) (hs : L.length ≤ 700000) (hh : has entCmp L ⟨k, 0⟩ = false) :
    Calls Try.prog 47 #[.pointer (some ⟨m, 0, none⟩), .agg #[.int .i64 k.k, .string k.t, .int .i64 k.n]] w fun e w' => e = .returned (.tuple #[.agg #[.int .i64 0, .string ⟨#[]⟩, .int .i64 0, .int .i64 0], .bool false]) ∧ Below w.heap.size w w' := by
  obtain ⟨hB0, hBd, hkb, hzb⟩ := keybox w k
  have h0 := h.below hB0
  have hc := cell_of_one h0.1
  have hml : m < w.heap.size := lt_of_block h.1
  have hm1 : ¬ m = w.heap.size + 1 := by omega
  have hm2 : ¬ w.heap.size + 1 = m := by omega
  have hg := get_no_T _ s L ⟨k, 0⟩ (h.below hBd).2 (by omega) hh
  obtain ⟨k0, k1, k2⟩ := hkb _ (Below.refl _ _)
  dsimp only at hg
  go_enter Try.func47, Try.ntmps47
  go_wp2_with fail
  generalize ((w.alloc (.cells #[.int .i64 k.k, .string k.t, .int .i64 k.n] 26)).alloc (.cells #[.int .i64 0, .string ⟨#[]⟩, .int .i64 0, .int .i64 0] 93)) = W0 at hB0 hBd hkb hzb h0 hc hg k0 k1 k2 ⊢
  go_region_held3 (fun W => (W.cell? ⟨w.heap.size, 0, none⟩ = some (.int .i64 k.k) ∧ W.cell? ⟨w.heap.size, 1, none⟩ = some (.string k.t) ∧ W.cell? ⟨w.heap.size, 2, none⟩ = some (.int .i64 k.n)) ∧ W.cell? ⟨m, 0, none⟩ = some (.pointer (some ⟨s, 0, none⟩)))
    (first | go_keep | assumption)
    (first
      | ((with_reducible refine hg.mono ?_); rintro e w1 ⟨rfl, hB1⟩; have hC := ((Below.refl W0.heap.size W0).drew.trans hB1); have hh1 := hkb w1 hC; have hh2 := cell_of_one (h0.below hC).1; have hz1 := zero_cells (hzb w1 hC))
      | fail "no arm")
  have hCC := hB0.trans (hC.mono hB0.size)
  have Hz := Lib.hid (hzb w1 hC)
  have hszz := lt_of_block (hzb w1 hC)
  clear hh1 hh2 k0 k1 k2 hc
  go_wp2_with fail
  have hm : ((((w1.setCell ⟨w.heap.size + 1, 0, none⟩ (.int .i64 0)).setCell ⟨w.heap.size + 1, 1, none⟩ (.string ⟨#[]⟩)).setCell ⟨w.heap.size + 1, 2, none⟩ (.int .i64 0)).setCell ⟨w.heap.size + 1, 3, none⟩ (.int .i64 0)).cell? ⟨w.heap.size + 1, 0, none⟩ = some (.int .i64 0) ∧ ((((w1.setCell ⟨w.heap.size + 1, 0, none⟩ (.int .i64 0)).setCell ⟨w.heap.size + 1, 1, none⟩ (.string ⟨#[]⟩)).setCell ⟨w.heap.size + 1, 2, none⟩ (.int .i64 0)).setCell ⟨w.heap.size + 1, 3, none⟩ (.int .i64 0)).cell? ⟨w.heap.size + 1, 1, none⟩ = some (.string ⟨#[]⟩) ∧ ((((w1.setCell ⟨w.heap.size + 1, 0, none⟩ (.int .i64 0)).setCell ⟨w.heap.size + 1, 1, none⟩ (.string ⟨#[]⟩)).setCell ⟨w.heap.size + 1, 2, none⟩ (.int .i64 0)).setCell ⟨w.heap.size + 1, 3, none⟩ (.int .i64 0)).cell? ⟨w.heap.size + 1, 2, none⟩ = some (.int .i64 0) ∧ ((((w1.setCell ⟨w.heap.size + 1, 0, none⟩ (.int .i64 0)).setCell ⟨w.heap.size + 1, 1, none⟩ (.string ⟨#[]⟩)).setCell ⟨w.heap.size + 1, 2, none⟩ (.int .i64 0)).setCell ⟨w.heap.size + 1, 3, none⟩ (.int .i64 0)).cell? ⟨w.heap.size + 1, 3, none⟩ = some (.int .i64 0) := mem_sto w1 (w.heap.size + 1) (⟨⟨0, ⟨#[]⟩, 0⟩, 0⟩ : EntV) Hz.out
  have hB3 : Below w.heap.size w ((((w1.setCell ⟨w.heap.size + 1, 0, none⟩ (.int .i64 0)).setCell ⟨w.heap.size + 1, 1, none⟩ (.string ⟨#[]⟩)).setCell ⟨w.heap.size + 1, 2, none⟩ (.int .i64 0)).setCell ⟨w.heap.size + 1, 3, none⟩ (.int .i64 0)) := below_but hCC (but_sto w1 (w.heap.size + 1) (⟨⟨0, ⟨#[]⟩, 0⟩, 0⟩ : EntV)) (by omega) hCC.size
  generalize ((((w1.setCell ⟨w.heap.size + 1, 0, none⟩ (.int .i64 0)).setCell ⟨w.heap.size + 1, 1, none⟩ (.string ⟨#[]⟩)).setCell ⟨w.heap.size + 1, 2, none⟩ (.int .i64 0)).setCell ⟨w.heap.size + 1, 3, none⟩ (.int .i64 0)) = W at hm hB3 ⊢
  exact bodyPost_ret (v := .tuple #[.agg #[.int .i64 0, .string ⟨#[]⟩, .int .i64 0, .int .i64 0], .bool false]) (by simp [results, Try.results47, go_sem, hm]) rfl ⟨rfl, hB3⟩

end Go.Proofs.Ytbpibbcehfkeeaa.E
