/- What Get and At of a set answer where there is nothing. Conditions: the set lies in memory; at most 800000 members. -/
import Derived.Test.YtimeamehmefgnaaGreatDoorGetSS
namespace Go.Proofs.YtimeamehmefgnaaGreatDoor.S
open Go Go.RowKit

set_option maxHeartbeats 800000 in
theorem get_no_T (w : World) (s : Nat) (L : List SymV) (x : SymV) (h : SetAt w s L) (hs : L.length ≤ 800000) (hh : has symCmp L x = false) :
    Calls Tryz.prog 34 #[.pointer (some ⟨s, 0, none⟩), .agg #[.int .i64 x.k, .string x.t, .int .i64 x.n]] w fun e w' => e = .returned (.tuple #[.agg #[.int .i64 0, .string ⟨#[]⟩, .int .i64 0], .bool false]) ∧ Below w.heap.size w w' := by
  have hB0 : Below w.heap.size w ((w.alloc (.cells #[.int .i64 x.k, .string x.t, .int .i64 x.n] 33)).alloc (.cells #[.int .i64 0, .string ⟨#[]⟩, .int .i64 0] 33)) := ((Below.refl _ w).alloc (Nat.le_refl _) _).alloc (by simp) _
  have hz0 : ((w.alloc (.cells #[.int .i64 x.k, .string x.t, .int .i64 x.n] 33)).alloc (.cells #[.int .i64 0, .string ⟨#[]⟩, .int .i64 0] 33)).heap[w.heap.size + 1]? = some (.cells #[.int .i64 0, .string ⟨#[]⟩, .int .i64 0] 33 (0, 0)) := by simpa using heap_alloc_new (w.alloc (.cells #[.int .i64 x.k, .string x.t, .int .i64 x.n] 33)) (.cells #[.int .i64 0, .string ⟨#[]⟩, .int .i64 0] 33)
  obtain ⟨t, p, h1, h2, rfl, h4⟩ := h.below hB0
  have c1 := cell_of_one h1
  have Hh := Lib.hid hh
  clear h1 h
  go_enter Tryz.func34, Tryz.ntmps34
  go_wp2_with fail
  refine (find_T t _ p x h2 h4 (by unfold Tr.size; omega)).mono ?_
  rw [Hh.out]
  rintro e w1 ⟨rfl, hB1⟩
  have hB := hB0.trans (hB1.mono hB0.size)
  have hBz : Below w1.heap.size w1 (w1.alloc (.cells #[.int .i64 0, .string ⟨#[]⟩, .int .i64 0] 33)) := (Below.refl _ w1).alloc (Nat.le_refl _) _
  have hb1 : (w1.alloc (.cells #[.int .i64 0, .string ⟨#[]⟩, .int .i64 0] 33)).heap[w.heap.size + 1]? = _ := (hBz.block _ (lt_of_block ((hB1.block _ (lt_of_block hz0)).trans hz0))).trans ((hB1.block _ (lt_of_block hz0)).trans hz0)
  have hbn := heap_alloc_new w1 (.cells #[.int .i64 0, .string ⟨#[]⟩, .int .i64 0] 33)
  have hz1 := zero_cells hb1
  have hz2 := zero_cells hbn
  have Hb1 := Lib.hid hb1
  have hB2 := hB.trans (hBz.mono hB.size)
  have hszz : w.heap.size + 1 < (w1.alloc (.cells #[.int .i64 0, .string ⟨#[]⟩, .int .i64 0] 33)).heap.size := lt_of_block hb1
  clear hb1 hz0 hbn
  go_wp2_with fail
  have hm : ((((w1.alloc (.cells #[.int .i64 0, .string ⟨#[]⟩, .int .i64 0] 33)).setCell ⟨w.heap.size + 1, 0, none⟩ (.int .i64 0)).setCell ⟨w.heap.size + 1, 1, none⟩ (.string ⟨#[]⟩)).setCell ⟨w.heap.size + 1, 2, none⟩ (.int .i64 0)).cell? ⟨w.heap.size + 1, 0, none⟩ = some (.int .i64 0) ∧ ((((w1.alloc (.cells #[.int .i64 0, .string ⟨#[]⟩, .int .i64 0] 33)).setCell ⟨w.heap.size + 1, 0, none⟩ (.int .i64 0)).setCell ⟨w.heap.size + 1, 1, none⟩ (.string ⟨#[]⟩)).setCell ⟨w.heap.size + 1, 2, none⟩ (.int .i64 0)).cell? ⟨w.heap.size + 1, 1, none⟩ = some (.string ⟨#[]⟩) ∧ ((((w1.alloc (.cells #[.int .i64 0, .string ⟨#[]⟩, .int .i64 0] 33)).setCell ⟨w.heap.size + 1, 0, none⟩ (.int .i64 0)).setCell ⟨w.heap.size + 1, 1, none⟩ (.string ⟨#[]⟩)).setCell ⟨w.heap.size + 1, 2, none⟩ (.int .i64 0)).cell? ⟨w.heap.size + 1, 2, none⟩ = some (.int .i64 0) := mem_sto (w1.alloc (.cells #[.int .i64 0, .string ⟨#[]⟩, .int .i64 0] 33)) (w.heap.size + 1) (⟨0, ⟨#[]⟩, 0⟩ : SymV) Hb1.out
  have hB3 : Below w.heap.size w ((((w1.alloc (.cells #[.int .i64 0, .string ⟨#[]⟩, .int .i64 0] 33)).setCell ⟨w.heap.size + 1, 0, none⟩ (.int .i64 0)).setCell ⟨w.heap.size + 1, 1, none⟩ (.string ⟨#[]⟩)).setCell ⟨w.heap.size + 1, 2, none⟩ (.int .i64 0)) := below_but hB2 (but_sto (w1.alloc (.cells #[.int .i64 0, .string ⟨#[]⟩, .int .i64 0] 33)) (w.heap.size + 1) (⟨0, ⟨#[]⟩, 0⟩ : SymV)) (by omega) (by have := hB2.size; omega)
  generalize ((((w1.alloc (.cells #[.int .i64 0, .string ⟨#[]⟩, .int .i64 0] 33)).setCell ⟨w.heap.size + 1, 0, none⟩ (.int .i64 0)).setCell ⟨w.heap.size + 1, 1, none⟩ (.string ⟨#[]⟩)).setCell ⟨w.heap.size + 1, 2, none⟩ (.int .i64 0)) = W at hm hB3 ⊢
  exact bodyPost_ret (v := .tuple #[.agg #[.int .i64 0, .string ⟨#[]⟩, .int .i64 0], .bool false]) (by simp [results, Tryz.results34, go_sem, hm]) rfl ⟨rfl, hB3⟩

end Go.Proofs.YtimeamehmefgnaaGreatDoor.S
