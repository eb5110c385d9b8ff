/- What At of a set answers. Conditions: the set lies in memory; at most 800000 members; the index is in range. -/
import Derived.Test.YtbpibbcehfkeeaaGetSE
namespace Go.Proofs.Ytbpibbcehfkeeaa.E
open Go Go.RowKit

set_option maxHeartbeats 800000 in
theorem set_at_T (w : World) (s : Nat) (L : List EntV) (j : Nat) (z : Int) (x : EntV) (h : SetAt w s L) (hs : L.length ≤ 800000) (hz : z = j) (hx : L[j]? = some x) :
    Calls Try.prog 51 #[.pointer (some ⟨s, 0, none⟩), .int .i64 z] w fun e w' => e = .returned (.tuple #[.agg #[.int .i64 x.key.k, .string x.key.t, .int .i64 x.key.n, .int .i64 x.v], .bool true]) ∧ Below w.heap.size w w' := by
  have hj : j < L.length := (List.getElem?_eq_some_iff.1 hx).1
  have hz0 : 0 ≤ z := by omega
  have hz1 : z < L.length := by omega
  have hz2 : (z < 0) = False := by simp; omega
  have Hz := Lib.hid hz
  have hB0 : Below w.heap.size w (w.alloc (.cells #[.int .i64 0, .string ⟨#[]⟩, .int .i64 0, .int .i64 0] 93)) := (Below.refl _ w).alloc (Nat.le_refl _) _
  have h0 := h.below hB0
  obtain ⟨t, p, h1, h2, rfl, h4⟩ := h0
  have c1 := cell_of_one h1
  have H0 := Lib.hid (h.below hB0)
  clear h h1 hz
  go_enter Try.func51, Try.ntmps51
  go_wp2_with fail
  refine (len_T _ s _ H0.out).mono ?_
  rintro e w' ⟨rfl, rfl⟩
  go_wp2_with fail
  rw [Hz.out]
  refine (at_T t _ p j x h2 hx (by unfold Tr.size; omega)).mono ?_
  rintro e w1 ⟨rfl, hB1⟩
  have hb1 : w1.heap[w.heap.size]? = _ := (hB1.block _ (by simp)).trans (heap_alloc_new w _)
  have hz1 := zero_cells hb1
  have Hb1 := Lib.hid hb1
  clear hb1
  go_wp2_with fail
  have hm := mem_sto w1 w.heap.size x Hb1.out
  have hB2 : Below w.heap.size w ((((w1.setCell ⟨w.heap.size, 0, none⟩ (.int .i64 x.key.k)).setCell ⟨w.heap.size, 1, none⟩ (.string x.key.t)).setCell ⟨w.heap.size, 2, none⟩ (.int .i64 x.key.n)).setCell ⟨w.heap.size, 3, none⟩ (.int .i64 x.v)) := below_but (hB0.trans (hB1.mono hB0.size)) (but_sto w1 w.heap.size x) (Nat.le_refl _) (Nat.le_trans hB0.size hB1.size)
  generalize ((((w1.setCell ⟨w.heap.size, 0, none⟩ (.int .i64 x.key.k)).setCell ⟨w.heap.size, 1, none⟩ (.string x.key.t)).setCell ⟨w.heap.size, 2, none⟩ (.int .i64 x.key.n)).setCell ⟨w.heap.size, 3, none⟩ (.int .i64 x.v)) = W at hm hB2 ⊢
  exact bodyPost_ret (v := .tuple #[.agg #[.int .i64 x.key.k, .string x.key.t, .int .i64 x.key.n, .int .i64 x.v], .bool true]) (by simp [results, Try.results51, go_sem, hm]) rfl ⟨rfl, hB2⟩

end Go.Proofs.Ytbpibbcehfkeeaa.E
