/- What Len, Place, Put, Get and At of a set answer. Conditions: the set lies in memory; at most 800000 members. -/
import Derived.Test.YtcpgjekkcpfpaaaInsSO
import Derived.Test.YtcpgjekkcpfpaaaMg7
import Derived.Test.YtcpgjekkcpfpaaaFindSO
namespace Go.Proofs.Ytcpgjekkcpfpaaa.O
open Go Go.RowKit

/-- The set in block s has the members L. -/
def SetAt (w : World) (s : Nat) (L : List ElmV) : Prop :=
  ∃ t p, w.heap[s]? = some (.cells #[.pointer p] 47 (0, 0)) ∧ LT w t p ∧ t.list = L ∧ Sorted elmCmp L

theorem SetAt.lt {w : World} {s : Nat} {L : List ElmV} (h : SetAt w s L) : s < w.heap.size := by
  obtain ⟨t, p, h1, -⟩ := h
  exact lt_of_block h1

theorem SetAt.below {w w' : World} {s : Nat} {L : List ElmV} (h : SetAt w s L) (hB : Below w.heap.size w w') : SetAt w' s L := by
  obtain ⟨t, p, h1, h2, h3⟩ := h
  exact ⟨t, p, (hB.block s (lt_of_block h1)).trans h1, h2.ext hB, h3⟩

/-- Another set, or anything of another type, is changed. -/
theorem SetAt.but {w w' : World} {s r : Nat} {L : List ElmV} (h : SetAt w s L) (hb : But r w w') (hr : r ≠ s) {c : Array Value} {T : TypeId} {f : Nat × Nat} (ha : w.heap[r]? = some (.cells c T f)) (hT : T ≠ 67) : SetAt w' s L := by
  obtain ⟨t, p, h1, h2, h3⟩ := h
  exact ⟨t, p, (hb.block s (lt_of_block h1) (Ne.symm hr)).trans h1, h2.but hb ha hT, h3⟩

set_option maxHeartbeats 800000 in
theorem place_T (w : World) (s : Nat) (L : List ElmV) (x : ElmV) (h : SetAt w s L) (hs : L.length ≤ 800000) :
    Calls Try.prog 33 #[.pointer (some ⟨s, 0, none⟩), .agg #[.int .i64 x.id.k, .string x.id.t, .int .i64 x.id.n, .int .i64 x.attr.k, .string x.attr.t, .int .i64 x.attr.n, .int .i64 x.val.k, .string x.val.t, .int .i64 x.val.n, .bool x.acc, .bool x.goal, .int .i64 x.tag]] w fun e w' => e = .returned (.tuple #[.int .i64 (pos elmCmp L x), .bool (has elmCmp L x)]) ∧ Below w.heap.size w w' := by
  have hB0 : Below w.heap.size w (w.alloc (.cells #[.int .i64 x.id.k, .string x.id.t, .int .i64 x.id.n, .int .i64 x.attr.k, .string x.attr.t, .int .i64 x.attr.n, .int .i64 x.val.k, .string x.val.t, .int .i64 x.val.n, .bool x.acc, .bool x.goal, .int .i64 x.tag] 29)) := (Below.refl _ w).alloc (Nat.le_refl _) _
  have hx0 := mem_new w x
  have hsz : w.heap.size < (w.alloc (.cells #[.int .i64 x.id.k, .string x.id.t, .int .i64 x.id.n, .int .i64 x.attr.k, .string x.attr.t, .int .i64 x.attr.n, .int .i64 x.val.k, .string x.val.t, .int .i64 x.val.n, .bool x.acc, .bool x.goal, .int .i64 x.tag] 29)).heap.size := by simp
  obtain ⟨t, p, h1, h2, rfl, h4⟩ := h.below hB0
  have c1 := cell_of_one h1
  have hlt := lt_of_block h1
  clear h1 h
  go_enter Try.func33, Try.ntmps33
  go_wp2_with fail
  generalize (w.alloc (.cells #[.int .i64 x.id.k, .string x.id.t, .int .i64 x.id.n, .int .i64 x.attr.k, .string x.attr.t, .int .i64 x.attr.n, .int .i64 x.val.k, .string x.val.t, .int .i64 x.val.n, .bool x.acc, .bool x.goal, .int .i64 x.tag] 29)) = W0 at hB0 hx0 hsz h2 c1 hlt ⊢
  have hC1 : Below W0.heap.size W0 W0.drew := (Below.refl _ W0).drew
  go_region_held3 (fun W => (W.cell? ⟨w.heap.size, 0, none⟩ = some (.int .i64 x.id.k) ∧ W.cell? ⟨w.heap.size, 1, none⟩ = some (.string x.id.t) ∧ W.cell? ⟨w.heap.size, 2, none⟩ = some (.int .i64 x.id.n) ∧ W.cell? ⟨w.heap.size, 3, none⟩ = some (.int .i64 x.attr.k) ∧ W.cell? ⟨w.heap.size, 4, none⟩ = some (.string x.attr.t) ∧ W.cell? ⟨w.heap.size, 5, none⟩ = some (.int .i64 x.attr.n) ∧ W.cell? ⟨w.heap.size, 6, none⟩ = some (.int .i64 x.val.k) ∧ W.cell? ⟨w.heap.size, 7, none⟩ = some (.string x.val.t) ∧ W.cell? ⟨w.heap.size, 8, none⟩ = some (.int .i64 x.val.n) ∧ W.cell? ⟨w.heap.size, 9, none⟩ = some (.bool x.acc) ∧ W.cell? ⟨w.heap.size, 10, none⟩ = some (.bool x.goal) ∧ W.cell? ⟨w.heap.size, 11, none⟩ = some (.int .i64 x.tag)) ∧ W.cell? ⟨s, 0, none⟩ = some (.pointer p))
    (first | go_keep | assumption)
    (first
      | ((with_reducible refine (find_T t W0.drew p x (h2.ext hC1) h4 (by unfold Tr.size; omega)).mono ?_); rintro e w1 ⟨rfl, hB1⟩; have hC2 := hC1.trans (hB1.mono hC1.size); have hc2 : (w1.cell? ⟨w.heap.size, 0, none⟩ = some (.int .i64 x.id.k) ∧ w1.cell? ⟨w.heap.size, 1, none⟩ = some (.string x.id.t) ∧ w1.cell? ⟨w.heap.size, 2, none⟩ = some (.int .i64 x.id.n) ∧ w1.cell? ⟨w.heap.size, 3, none⟩ = some (.int .i64 x.attr.k) ∧ w1.cell? ⟨w.heap.size, 4, none⟩ = some (.string x.attr.t) ∧ w1.cell? ⟨w.heap.size, 5, none⟩ = some (.int .i64 x.attr.n) ∧ w1.cell? ⟨w.heap.size, 6, none⟩ = some (.int .i64 x.val.k) ∧ w1.cell? ⟨w.heap.size, 7, none⟩ = some (.string x.val.t) ∧ w1.cell? ⟨w.heap.size, 8, none⟩ = some (.int .i64 x.val.n) ∧ w1.cell? ⟨w.heap.size, 9, none⟩ = some (.bool x.acc) ∧ w1.cell? ⟨w.heap.size, 10, none⟩ = some (.bool x.goal) ∧ w1.cell? ⟨w.heap.size, 11, none⟩ = some (.int .i64 x.tag)) ∧ w1.cell? ⟨s, 0, none⟩ = some (.pointer p) := ⟨mem_below hC2 hsz hx0, (hC2.cell (p := ⟨s, 0, none⟩) hlt).trans c1⟩)
      | fail "no arm")
  go_wp2_with fail
  go_ret2
  exact ⟨rfl, hB0.trans (hC2.mono hB0.size)⟩

theorem put_T (w : World) (s : Nat) (L : List ElmV) (x : ElmV) (h : SetAt w s L) (hs : L.length ≤ 800000) :
    Calls Try.prog 18 #[.pointer (some ⟨s, 0, none⟩), .agg #[.int .i64 x.id.k, .string x.id.t, .int .i64 x.id.n, .int .i64 x.attr.k, .string x.attr.t, .int .i64 x.attr.n, .int .i64 x.val.k, .string x.val.t, .int .i64 x.val.n, .bool x.acc, .bool x.goal, .int .i64 x.tag]] w fun e w' => e = .returned (.bool (!has elmCmp L x)) ∧ SetAt w' s (put elmCmp L x) ∧ But s w w' := by
  have hB0 : Below w.heap.size w (w.alloc (.cells #[.int .i64 x.id.k, .string x.id.t, .int .i64 x.id.n, .int .i64 x.attr.k, .string x.attr.t, .int .i64 x.attr.n, .int .i64 x.val.k, .string x.val.t, .int .i64 x.val.n, .bool x.acc, .bool x.goal, .int .i64 x.tag] 29)) := (Below.refl _ w).alloc (Nat.le_refl _) _
  have hx0 := mem_new w x
  have hsz : w.heap.size < (w.alloc (.cells #[.int .i64 x.id.k, .string x.id.t, .int .i64 x.id.n, .int .i64 x.attr.k, .string x.attr.t, .int .i64 x.attr.n, .int .i64 x.val.k, .string x.val.t, .int .i64 x.val.n, .bool x.acc, .bool x.goal, .int .i64 x.tag] 29)).heap.size := by simp
  have hS0 := h.below hB0
  obtain ⟨t, p, h1, h2, rfl, h4⟩ := hS0
  have c1 := cell_of_one h1
  have H1 := Lib.hid h1
  clear h1
  by_cases hh : has elmCmp t.list x = true
  · have hput : put elmCmp t.list x = t.list := by simp [put, hh]
    have Hput := Lib.hid hput
    clear hput
    go_enter Try.func18, Try.ntmps18
    go_wp2_with fail
    generalize (w.alloc (.cells #[.int .i64 x.id.k, .string x.id.t, .int .i64 x.id.n, .int .i64 x.attr.k, .string x.attr.t, .int .i64 x.attr.n, .int .i64 x.val.k, .string x.val.t, .int .i64 x.val.n, .bool x.acc, .bool x.goal, .int .i64 x.tag] 29)) = W0 at hB0 hx0 hsz h2 c1 H1 ⊢
    refine (find_T t _ p x h2 h4 (by unfold Tr.size; omega)).mono ?_
    rintro e w1 ⟨rfl, hB1⟩
    go_wp2_with fail
    go_ret
    have hB := hB0.trans (hB1.mono hB0.size)
    refine ⟨by simp [hh], ?_, But.of_below hB⟩
    rw [Hput.out]
    exact h.below hB
  · have hh : has elmCmp t.list x = false := by simpa using hh
    have hput : put elmCmp t.list x = ins elmCmp t.list x := by simp [put, hh]
    have Hput := Lib.hid hput
    clear hput
    go_enter Try.func18, Try.ntmps18
    go_wp2_with fail
    generalize (w.alloc (.cells #[.int .i64 x.id.k, .string x.id.t, .int .i64 x.id.n, .int .i64 x.attr.k, .string x.attr.t, .int .i64 x.attr.n, .int .i64 x.val.k, .string x.val.t, .int .i64 x.val.n, .bool x.acc, .bool x.goal, .int .i64 x.tag] 29)) = W0 at hB0 hx0 hsz h2 c1 H1 ⊢
    refine (find_T t _ p x h2 h4 (by unfold Tr.size; omega)).mono ?_
    rintro e w1 ⟨rfl, hB1⟩
    have hx1 := mem_below hB1 hsz hx0
    go_wp2_with fail
    refine (insert_T t w1 p _ _ x (h2.ext hB1) rfl (pos_le _ _) (by unfold Tr.size; omega)).mono ?_
    rintro e w2 ⟨t2, b2, rfl, ht2, hL2, hB2⟩
    have hC2 := hB1.trans (hB2.mono hB1.size)
    have k1 := (hC2.block s (lt_of_block H1.out)).trans H1.out
    have d1 := cell_of_one k1
    have f1 := free_of_one k1
    have K1 := Lib.hid k1
    have HL2 := Lib.hid hL2
    clear k1 hL2
    go_wp2_with fail
    go_ret
    have hB := hB0.trans (hC2.mono hB0.size)
    refine ⟨by simp [hh], ⟨t2, some ⟨b2, 0, none⟩, one_setCell K1.out, ht2.setCell K1.out (by decide) _, ?_, ?_⟩, (But.of_below hB).setCell _ _⟩
    · rw [Hput.out, HL2.out]; rfl
    · rw [Hput.out]; exact sorted_ins elmCmp_lin _ _ h4 hh

end Go.Proofs.Ytcpgjekkcpfpaaa.O
