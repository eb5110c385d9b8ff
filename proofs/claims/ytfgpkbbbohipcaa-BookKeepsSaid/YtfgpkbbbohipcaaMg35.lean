/- What At of a set answers. Conditions: the set lies in memory; at most 800000 members; the index is in range.
What New of a set answers. Conditions: the list lies in memory; at most 700000 members.
What New, find, Get, Len, First of a map answer. Conditions: the map lies in memory; at most 700000 keys. -/
import Derived.Test.YtfgpkbbbohipcaaMg33
import Derived.Test.YtfgpkbbbohipcaaNoneSE
namespace Go.Proofs.Ytfgpkbbbohipcaa.E
open Go Go.RowKit

set_option maxHeartbeats 800000 in
theorem set_at_T (w : World) (s : Nat) (L : List EntV) (j : Nat) (z : Int) (x : EntV) (h : SetAt w s L) (hs : L.length ≤ 800000) (hz : z = j) (hx : L[j]? = some x) :
    Calls Try.prog 51 #[.pointer (some ⟨s, 0, none⟩), .int .i64 z] w fun e w' => e = .returned (.tuple #[.agg #[.int .i64 x.key.k, .string x.key.t, .int .i64 x.key.n, .int .i64 x.v], .bool true]) ∧ Below w.heap.size w w' := by
  have hj : j < L.length := (List.getElem?_eq_some_iff.1 hx).1
  have hz0 : 0 ≤ z := by omega
  have hz1 : z < L.length := by omega
  have hz2 : (z < 0) = False := by simp; omega
  have Hz := Lib.hid hz
  have hB0 : Below w.heap.size w (w.alloc (.cells #[.int .i64 0, .string ⟨#[]⟩, .int .i64 0, .int .i64 0] 93)) := (Below.refl _ w).alloc (Nat.le_refl _) _
  have h0 := h.below hB0
  obtain ⟨t, p, h1, h2, rfl, h4⟩ := h0
  have c1 := cell_of_one h1
  have H0 := Lib.hid (h.below hB0)
  clear h h1 hz
  go_enter Try.func51, Try.ntmps51
  go_wp2_with fail
  refine (len_T _ s _ H0.out).mono ?_
  rintro e w' ⟨rfl, rfl⟩
  go_wp2_with fail
  rw [Hz.out]
  refine (at_T t _ p j x h2 hx (by unfold Tr.size; omega)).mono ?_
  rintro e w1 ⟨rfl, hB1⟩
  have hb1 : w1.heap[w.heap.size]? = _ := (hB1.block _ (by simp)).trans (heap_alloc_new w _)
  have hz1 := zero_cells hb1
  have Hb1 := Lib.hid hb1
  clear hb1
  go_wp2_with fail
  have hm := mem_sto w1 w.heap.size x Hb1.out
  have hB2 : Below w.heap.size w ((((w1.setCell ⟨w.heap.size, 0, none⟩ (.int .i64 x.key.k)).setCell ⟨w.heap.size, 1, none⟩ (.string x.key.t)).setCell ⟨w.heap.size, 2, none⟩ (.int .i64 x.key.n)).setCell ⟨w.heap.size, 3, none⟩ (.int .i64 x.v)) := below_but (hB0.trans (hB1.mono hB0.size)) (but_sto w1 w.heap.size x) (Nat.le_refl _) (Nat.le_trans hB0.size hB1.size)
  generalize ((((w1.setCell ⟨w.heap.size, 0, none⟩ (.int .i64 x.key.k)).setCell ⟨w.heap.size, 1, none⟩ (.string x.key.t)).setCell ⟨w.heap.size, 2, none⟩ (.int .i64 x.key.n)).setCell ⟨w.heap.size, 3, none⟩ (.int .i64 x.v)) = W at hm hB2 ⊢
  exact bodyPost_ret (v := .tuple #[.agg #[.int .i64 x.key.k, .string x.key.t, .int .i64 x.key.n, .int .i64 x.v], .bool true]) (by simp [results, Try.results51, go_sem, hm]) rfl ⟨rfl, hB2⟩

end Go.Proofs.Ytfgpkbbbohipcaa.E

namespace Go.Proofs.Ytfgpkbbbohipcaa.E
open Go Go.RowKit

/-- The values xs lie one behind the other in block b, from off on. -/
def Elems (w : World) (b off : Nat) (xs : List EntV) : Prop := ∀ i x, xs[i]? = some x → w.cell? ⟨b, off + i * 4, none⟩ = some (.int .i64 x.key.k) ∧ w.cell? ⟨b, off + i * 4 + 1, none⟩ = some (.string x.key.t) ∧ w.cell? ⟨b, off + i * 4 + 2, none⟩ = some (.int .i64 x.key.n) ∧ w.cell? ⟨b, off + i * 4 + 3, none⟩ = some (.int .i64 x.v)

/-- v is a slice of the values xs. -/
def SliceOf (w : World) (v : Value) (xs : List EntV) : Prop :=
  ∃ a cap, v = .slice a xs.length cap ∧ (xs = [] ∨ ∃ b off, a = some ⟨b, off, none⟩ ∧ Elems w b off xs)

theorem Elems.below {w w' : World} {b off : Nat} {xs : List EntV} (h : Elems w b off xs) {B : Nat} (hB : Below B w w') (hb : b < B) : Elems w' b off xs := by
  intro i x hx
  have h0 := h i x hx
  simp only [← hB.cell (p := ⟨b, _, none⟩) hb] at h0
  exact h0

theorem SliceOf.below {w w' : World} {v : Value} {xs : List EntV} (h : SliceOf w v xs) (hB : Below w.heap.size w w') : SliceOf w' v xs := by
  obtain ⟨a, cap, rfl, h⟩ := h
  refine ⟨a, cap, rfl, ?_⟩
  rcases h with h | ⟨b, off, rfl, h⟩
  · exact .inl h
  · cases xs with
    | nil => exact .inl rfl
    | cons x xs =>
      refine .inr ⟨b, off, rfl, h.below hB ?_⟩
      exact World.block_lt_of_cell? w _ (h 0 x rfl).1

theorem putl_length (xs l : List EntV) : (xs.foldl (put entCmp) l).length ≤ l.length + xs.length := by
  induction xs generalizing l with
  | nil => simp
  | cons x xs ih =>
    have := ih (put entCmp l x)
    have := length_put entCmp l x
    simp; omega

set_option maxHeartbeats 800000 in
theorem new_T (w : World) (v : Value) (xs : List EntV) (h : SliceOf w v xs) (hs : xs.length ≤ 700000) :
    Calls Try.prog 46 #[v] w fun e w' => ∃ s, e = .returned (.pointer (some ⟨s, 0, none⟩)) ∧ w.heap.size ≤ s ∧ SetAt w' s (xs.foldl (put entCmp) []) ∧ Below w.heap.size w w' := by
  obtain ⟨a, cap, rfl, hc⟩ := h
  have hB0 : Below w.heap.size w (w.alloc (.cells #[.pointer none] 139)) := (Below.refl _ w).alloc (Nat.le_refl _) _
  have hS0 : SetAt (w.alloc (.cells #[.pointer none] 139)) w.heap.size [] := ⟨.nil, none, heap_alloc_new w _, rfl, rfl, List.Pairwise.nil⟩
  have HS0 := Lib.hid hS0
  clear hS0
  go_enter Try.func46, Try.ntmps46
  go_wp2_with fail
  go_loopg [10] xs.length (fun k i wr => ∃ j : Nat, i = .int .i64 j ∧ j ≤ xs.length ∧ Hid (k = xs.length - j) ∧ Hid (SetAt wr w.heap.size ((xs.take j).foldl (put entCmp) [])) ∧ Below w.heap.size w wr)
  case atStart => exact ⟨0, rfl, by omega, Lib.hid rfl, HS0, hB0⟩
  case round =>
    obtain ⟨j, rfl, hj, Hk, HS, hB⟩ := hrel
    by_cases hlt : j < xs.length
    · rcases hc with rfl | ⟨b, off, rfl, hel⟩
      · simp at hlt
      · obtain ⟨x, hx⟩ : ∃ x, xs[j]? = some x := ⟨xs[j], by simp [hlt]⟩
        have hm := hel j x hx
        have hm1 := (hel.below hB (World.block_lt_of_cell? w _ hm.1)) j x hx
        have Hx := Lib.hid hx
        clear hx hm
        have hB1 : Below wr.heap.size wr (wr.alloc (.cells #[.int .i64 x.key.k, .string x.key.t, .int .i64 x.key.n, .int .i64 x.v] 93)) := (Below.refl _ wr).alloc (Nat.le_refl _) _
        have hlen : ((xs.take j).foldl (put entCmp) []).length ≤ 800000 := by have := putl_length (xs.take j) []; simp at this; omega
        go_wp2_with fail
        refine (put_T _ _ _ x (HS.out.below hB1) hlen).mono ?_
        rintro e w2 ⟨rfl, hS2, hb2⟩
        have HS2 := Lib.hid hS2
        clear hS2
        go_wp2_with fail
        go_roundg (xs.length - (j + 1))
        case measure => rw [Hk.out]; omega
        case rel =>
          refine ⟨j + 1, by go_num, by omega, Lib.hid rfl, Lib.hid ?_, below_but (hB.trans (hB1.mono hB.size)) hb2 (Nat.le_refl _) (Nat.le_trans hB.size hB1.size)⟩
          have e : xs.take (j + 1) = xs.take j ++ [x] := by rw [List.take_add_one, Hx.out]; rfl
          rw [e, List.foldl_append]
          exact HS2.out
    · obtain rfl : j = xs.length := by omega
      have hs' := HS.out
      rw [List.take_length] at hs'
      have HS' := Lib.hid hs'
      clear hs'
      go_wp2_with fail
      go_ret
      exact ⟨w.heap.size, rfl, Nat.le_refl _, HS'.out, hB⟩

end Go.Proofs.Ytfgpkbbbohipcaa.E

namespace Go.Proofs.Ytfgpkbbbohipcaa.E
open Go Go.RowKit

/-- The map in block m, whose set is in block s, has the entries L. -/
def MapAt (w : World) (m s : Nat) (L : List EntV) : Prop := w.heap[m]? = some (.cells #[.pointer (some ⟨s, 0, none⟩)] 95 (0, 0)) ∧ SetAt w s L

theorem MapAt.below {w w' : World} {m s : Nat} {L : List EntV} (h : MapAt w m s L) (hB : Below w.heap.size w w') : MapAt w' m s L := ⟨(hB.block m (lt_of_block h.1)).trans h.1, h.2.below hB⟩

theorem MapAt.ne {w : World} {m s : Nat} {L : List EntV} (h : MapAt w m s L) : m ≠ s := by
  rintro rfl
  obtain ⟨t, p, h1, -⟩ := h.2
  rw [h.1] at h1
  cases h1

theorem mapnew_T (w : World) : Calls Try.prog 10 #[] w fun e w' => ∃ m s, e = .returned (.pointer (some ⟨m, 0, none⟩)) ∧ w.heap.size ≤ m ∧ w.heap.size ≤ s ∧ MapAt w' m s [] ∧ Below w.heap.size w w' := by
  go_enter Try.func10, Try.ntmps10
  go_wp2_with fail
  refine (new_T w _ [] ⟨none, 0, rfl, .inl rfl⟩ (by simp)).mono ?_
  rintro e w1 ⟨s, rfl, hs, hS, hB1⟩
  have hBm : Below w1.heap.size w1 (w1.alloc (.cells #[.pointer (some ⟨s, 0, none⟩)] 95)) := (Below.refl _ w1).alloc (Nat.le_refl _) _
  go_wp2_with fail
  go_ret
  exact ⟨w1.heap.size, s, rfl, hB1.size, hs, ⟨heap_alloc_new w1 _, hS.below hBm⟩, hB1.trans (hBm.mono hB1.size)⟩

theorem keep4 (W : World) {m b : Nat} (h : ¬ m = b) (v0 v1 v2 v3 : Value) : ((((W.setCell ⟨b, 0, none⟩ v0).setCell ⟨b, 1, none⟩ v1).setCell ⟨b, 2, none⟩ v2).setCell ⟨b, 3, none⟩ v3).cell? ⟨m, 0, none⟩ = W.cell? ⟨m, 0, none⟩ := by
  have hb : But b W ((((W.setCell ⟨b, 0, none⟩ v0).setCell ⟨b, 1, none⟩ v1).setCell ⟨b, 2, none⟩ v2).setCell ⟨b, 3, none⟩ v3) := ((((But.refl b W).setCell 0 v0).setCell 1 v1).setCell 2 v2).setCell 3 v3
  have h1 := hb.block m
  by_cases hm : m < W.heap.size
  · exact World.cell?_of_block (h1 hm h)
  · have hs : ((((W.setCell ⟨b, 0, none⟩ v0).setCell ⟨b, 1, none⟩ v1).setCell ⟨b, 2, none⟩ v2).setCell ⟨b, 3, none⟩ v3).heap.size = W.heap.size := by simp [World.setCell]
    simp only [World.cell?]
    rw [Array.getElem?_eq_none (by omega), Array.getElem?_eq_none (by omega)]

/-- What a call with a key finds in its box, and in the result's. -/
theorem keybox (w : World) (k : SymV) : Below w.heap.size w ((w.alloc (.cells #[.int .i64 k.k, .string k.t, .int .i64 k.n] 26)).alloc (.cells #[.int .i64 0, .string ⟨#[]⟩, .int .i64 0, .int .i64 0] 93)) ∧ Below w.heap.size w ((w.alloc (.cells #[.int .i64 k.k, .string k.t, .int .i64 k.n] 26)).alloc (.cells #[.int .i64 0, .string ⟨#[]⟩, .int .i64 0, .int .i64 0] 93)).drew ∧
    (∀ W, Below ((w.alloc (.cells #[.int .i64 k.k, .string k.t, .int .i64 k.n] 26)).alloc (.cells #[.int .i64 0, .string ⟨#[]⟩, .int .i64 0, .int .i64 0] 93)).heap.size ((w.alloc (.cells #[.int .i64 k.k, .string k.t, .int .i64 k.n] 26)).alloc (.cells #[.int .i64 0, .string ⟨#[]⟩, .int .i64 0, .int .i64 0] 93)) W → (W.cell? ⟨w.heap.size, 0, none⟩ = some (.int .i64 k.k) ∧ W.cell? ⟨w.heap.size, 1, none⟩ = some (.string k.t) ∧ W.cell? ⟨w.heap.size, 2, none⟩ = some (.int .i64 k.n))) ∧
    (∀ W, Below ((w.alloc (.cells #[.int .i64 k.k, .string k.t, .int .i64 k.n] 26)).alloc (.cells #[.int .i64 0, .string ⟨#[]⟩, .int .i64 0, .int .i64 0] 93)).heap.size ((w.alloc (.cells #[.int .i64 k.k, .string k.t, .int .i64 k.n] 26)).alloc (.cells #[.int .i64 0, .string ⟨#[]⟩, .int .i64 0, .int .i64 0] 93)) W → W.heap[w.heap.size + 1]? = some (.cells #[.int .i64 0, .string ⟨#[]⟩, .int .i64 0, .int .i64 0] 93 (0, 0))) := by
  have h0 : Below w.heap.size w ((w.alloc (.cells #[.int .i64 k.k, .string k.t, .int .i64 k.n] 26)).alloc (.cells #[.int .i64 0, .string ⟨#[]⟩, .int .i64 0, .int .i64 0] 93)) := ((Below.refl _ w).alloc (Nat.le_refl _) _).alloc (by simp) _
  refine ⟨h0, h0.drew, fun W h => ?_, fun W h => ?_⟩
  · have hn := heap_alloc_new w (.cells #[.int .i64 k.k, .string k.t, .int .i64 k.n] 26)
    have := (h.block w.heap.size (by simp; omega)).trans ((Below.heap_alloc _ _ _ (by simp)).trans hn)
    simp [World.cell?, this]
  · have hn := heap_alloc_new (w.alloc (.cells #[.int .i64 k.k, .string k.t, .int .i64 k.n] 26)) (.cells #[.int .i64 0, .string ⟨#[]⟩, .int .i64 0, .int .i64 0] 93)
    simp only [World.size_alloc] at hn
    exact (h.block _ (by simp)).trans hn

set_option maxHeartbeats 1600000 in
theorem find_yes (w : World) (m s : Nat) (L : List EntV) (k : SymV) (h : MapAt w m s L) (hs : L.length ≤ 700000) (hh : has entCmp L ⟨k, 0⟩ = true) :
    Calls Try.prog 47 #[.pointer (some ⟨m, 0, none⟩), .agg #[.int .i64 k.k, .string k.t, .int .i64 k.n]] w fun e w' => (∃ y, e = .returned (.tuple #[.agg #[.int .i64 y.key.k, .string y.key.t, .int .i64 y.key.n, .int .i64 y.v], .bool true]) ∧ L[pos entCmp L ⟨k, 0⟩]? = some y) ∧ Below w.heap.size w w' := by
  obtain ⟨hB0, hBd, hkb, hzb⟩ := keybox w k
  have h0 := h.below hB0
  have hc := cell_of_one h0.1
  have hml : m < w.heap.size := lt_of_block h.1
  have hm1 : ¬ m = w.heap.size + 1 := by omega
  have hm2 : ¬ w.heap.size + 1 = m := by omega
  have hg := get_T _ s L ⟨k, 0⟩ (h.below hBd).2 (by omega) hh
  obtain ⟨k0, k1, k2⟩ := hkb _ (Below.refl _ _)
  dsimp only at hg
  go_enter Try.func47, Try.ntmps47
  go_wp2_with fail
  generalize ((w.alloc (.cells #[.int .i64 k.k, .string k.t, .int .i64 k.n] 26)).alloc (.cells #[.int .i64 0, .string ⟨#[]⟩, .int .i64 0, .int .i64 0] 93)) = W0 at hB0 hBd hkb hzb h0 hc hg k0 k1 k2 ⊢
  go_region_held3 (fun W => (W.cell? ⟨w.heap.size, 0, none⟩ = some (.int .i64 k.k) ∧ W.cell? ⟨w.heap.size, 1, none⟩ = some (.string k.t) ∧ W.cell? ⟨w.heap.size, 2, none⟩ = some (.int .i64 k.n)) ∧ W.cell? ⟨m, 0, none⟩ = some (.pointer (some ⟨s, 0, none⟩)))
    (first | go_keep | assumption)
    (first
      | ((with_reducible refine hg.mono ?_); rintro e w1 ⟨⟨y, rfl, hy⟩, hB1⟩; have Hy := Lib.hid hy; clear hy; have hC := ((Below.refl W0.heap.size W0).drew.trans hB1); have hh1 := hkb w1 hC; have hh2 := cell_of_one (h0.below hC).1; have hz1 := zero_cells (hzb w1 hC))
      | fail "no arm")
  have hCC := hB0.trans (hC.mono hB0.size)
  have Hz := Lib.hid (hzb w1 hC)
  have hszz := lt_of_block (hzb w1 hC)
  clear hh1 hh2 k0 k1 k2 hc
  go_wp2_with fail
  have hm := mem_sto w1 (w.heap.size + 1) y Hz.out
  have hB3 : Below w.heap.size w ((((w1.setCell ⟨(w.heap.size + 1), 0, none⟩ (.int .i64 y.key.k)).setCell ⟨(w.heap.size + 1), 1, none⟩ (.string y.key.t)).setCell ⟨(w.heap.size + 1), 2, none⟩ (.int .i64 y.key.n)).setCell ⟨(w.heap.size + 1), 3, none⟩ (.int .i64 y.v)) := below_but hCC (but_sto w1 (w.heap.size + 1) y) (by omega) hCC.size
  generalize ((((w1.setCell ⟨w.heap.size + 1, 0, none⟩ (.int .i64 y.key.k)).setCell ⟨w.heap.size + 1, 1, none⟩ (.string y.key.t)).setCell ⟨w.heap.size + 1, 2, none⟩ (.int .i64 y.key.n)).setCell ⟨w.heap.size + 1, 3, none⟩ (.int .i64 y.v)) = W at hm hB3 ⊢
  exact bodyPost_ret (v := .tuple #[.agg #[.int .i64 y.key.k, .string y.key.t, .int .i64 y.key.n, .int .i64 y.v], .bool true]) (by simp [results, Try.results47, go_sem, hm]) rfl ⟨⟨y, rfl, Hy.out⟩, hB3⟩


set_option maxHeartbeats 1600000 in
theorem find_no (w : World) (m s : Nat) (L : List EntV) (k : SymV) (h : MapAt w m s L) (hs : L.length ≤ 700000) (hh : has entCmp L ⟨k, 0⟩ = false) :
    Calls Try.prog 47 #[.pointer (some ⟨m, 0, none⟩), .agg #[.int .i64 k.k, .string k.t, .int .i64 k.n]] w fun e w' => e = .returned (.tuple #[.agg #[.int .i64 0, .string ⟨#[]⟩, .int .i64 0, .int .i64 0], .bool false]) ∧ Below w.heap.size w w' := by
  obtain ⟨hB0, hBd, hkb, hzb⟩ := keybox w k
  have h0 := h.below hB0
  have hc := cell_of_one h0.1
  have hml : m < w.heap.size := lt_of_block h.1
  have hm1 : ¬ m = w.heap.size + 1 := by omega
  have hm2 : ¬ w.heap.size + 1 = m := by omega
  have hg := get_no_T _ s L ⟨k, 0⟩ (h.below hBd).2 (by omega) hh
  obtain ⟨k0, k1, k2⟩ := hkb _ (Below.refl _ _)
  dsimp only at hg
  go_enter Try.func47, Try.ntmps47
  go_wp2_with fail
  generalize ((w.alloc (.cells #[.int .i64 k.k, .string k.t, .int .i64 k.n] 26)).alloc (.cells #[.int .i64 0, .string ⟨#[]⟩, .int .i64 0, .int .i64 0] 93)) = W0 at hB0 hBd hkb hzb h0 hc hg k0 k1 k2 ⊢
  go_region_held3 (fun W => (W.cell? ⟨w.heap.size, 0, none⟩ = some (.int .i64 k.k) ∧ W.cell? ⟨w.heap.size, 1, none⟩ = some (.string k.t) ∧ W.cell? ⟨w.heap.size, 2, none⟩ = some (.int .i64 k.n)) ∧ W.cell? ⟨m, 0, none⟩ = some (.pointer (some ⟨s, 0, none⟩)))
    (first | go_keep | assumption)
    (first
      | ((with_reducible refine hg.mono ?_); rintro e w1 ⟨rfl, hB1⟩; have hC := ((Below.refl W0.heap.size W0).drew.trans hB1); have hh1 := hkb w1 hC; have hh2 := cell_of_one (h0.below hC).1; have hz1 := zero_cells (hzb w1 hC))
      | fail "no arm")
  have hCC := hB0.trans (hC.mono hB0.size)
  have Hz := Lib.hid (hzb w1 hC)
  have hszz := lt_of_block (hzb w1 hC)
  clear hh1 hh2 k0 k1 k2 hc
  go_wp2_with fail
  have hm : ((((w1.setCell ⟨w.heap.size + 1, 0, none⟩ (.int .i64 0)).setCell ⟨w.heap.size + 1, 1, none⟩ (.string ⟨#[]⟩)).setCell ⟨w.heap.size + 1, 2, none⟩ (.int .i64 0)).setCell ⟨w.heap.size + 1, 3, none⟩ (.int .i64 0)).cell? ⟨w.heap.size + 1, 0, none⟩ = some (.int .i64 0) ∧ ((((w1.setCell ⟨w.heap.size + 1, 0, none⟩ (.int .i64 0)).setCell ⟨w.heap.size + 1, 1, none⟩ (.string ⟨#[]⟩)).setCell ⟨w.heap.size + 1, 2, none⟩ (.int .i64 0)).setCell ⟨w.heap.size + 1, 3, none⟩ (.int .i64 0)).cell? ⟨w.heap.size + 1, 1, none⟩ = some (.string ⟨#[]⟩) ∧ ((((w1.setCell ⟨w.heap.size + 1, 0, none⟩ (.int .i64 0)).setCell ⟨w.heap.size + 1, 1, none⟩ (.string ⟨#[]⟩)).setCell ⟨w.heap.size + 1, 2, none⟩ (.int .i64 0)).setCell ⟨w.heap.size + 1, 3, none⟩ (.int .i64 0)).cell? ⟨w.heap.size + 1, 2, none⟩ = some (.int .i64 0) ∧ ((((w1.setCell ⟨w.heap.size + 1, 0, none⟩ (.int .i64 0)).setCell ⟨w.heap.size + 1, 1, none⟩ (.string ⟨#[]⟩)).setCell ⟨w.heap.size + 1, 2, none⟩ (.int .i64 0)).setCell ⟨w.heap.size + 1, 3, none⟩ (.int .i64 0)).cell? ⟨w.heap.size + 1, 3, none⟩ = some (.int .i64 0) := mem_sto w1 (w.heap.size + 1) (⟨⟨0, ⟨#[]⟩, 0⟩, 0⟩ : EntV) Hz.out
  have hB3 : Below w.heap.size w ((((w1.setCell ⟨w.heap.size + 1, 0, none⟩ (.int .i64 0)).setCell ⟨w.heap.size + 1, 1, none⟩ (.string ⟨#[]⟩)).setCell ⟨w.heap.size + 1, 2, none⟩ (.int .i64 0)).setCell ⟨w.heap.size + 1, 3, none⟩ (.int .i64 0)) := below_but hCC (but_sto w1 (w.heap.size + 1) (⟨⟨0, ⟨#[]⟩, 0⟩, 0⟩ : EntV)) (by omega) hCC.size
  generalize ((((w1.setCell ⟨w.heap.size + 1, 0, none⟩ (.int .i64 0)).setCell ⟨w.heap.size + 1, 1, none⟩ (.string ⟨#[]⟩)).setCell ⟨w.heap.size + 1, 2, none⟩ (.int .i64 0)).setCell ⟨w.heap.size + 1, 3, none⟩ (.int .i64 0)) = W at hm hB3 ⊢
  exact bodyPost_ret (v := .tuple #[.agg #[.int .i64 0, .string ⟨#[]⟩, .int .i64 0, .int .i64 0], .bool false]) (by simp [results, Try.results47, go_sem, hm]) rfl ⟨rfl, hB3⟩

end Go.Proofs.Ytfgpkbbbohipcaa.E
