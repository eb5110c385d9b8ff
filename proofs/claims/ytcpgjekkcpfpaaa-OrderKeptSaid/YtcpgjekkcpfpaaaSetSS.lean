/- What Len, Place, Put, Get and At of a set answer. Conditions: the set lies in memory; at most 800000 members. -/
import Derived.Test.YtcpgjekkcpfpaaaInsSS
import Derived.Test.YtcpgjekkcpfpaaaAtSS
import Derived.Test.YtcpgjekkcpfpaaaFindSS
namespace Go.Proofs.Ytcpgjekkcpfpaaa.S
open Go Go.RowKit

/-- The set in block s has the members L. -/
def SetAt (w : World) (s : Nat) (L : List SymV) : Prop :=
  ∃ t p, w.heap[s]? = some (.cells #[.pointer p] 61 (0, 0)) ∧ LT w t p ∧ t.list = L ∧ Sorted symCmp L

theorem SetAt.lt {w : World} {s : Nat} {L : List SymV} (h : SetAt w s L) : s < w.heap.size := by
  obtain ⟨t, p, h1, -⟩ := h
  exact lt_of_block h1

theorem SetAt.below {w w' : World} {s : Nat} {L : List SymV} (h : SetAt w s L) (hB : Below w.heap.size w w') : SetAt w' s L := by
  obtain ⟨t, p, h1, h2, h3⟩ := h
  exact ⟨t, p, (hB.block s (lt_of_block h1)).trans h1, h2.ext hB, h3⟩

/-- Another set, or anything of another type, is changed. -/
theorem SetAt.but {w w' : World} {s r : Nat} {L : List SymV} (h : SetAt w s L) (hb : But r w w') (hr : r ≠ s) {c : Array Value} {T : TypeId} {f : Nat × Nat} (ha : w.heap[r]? = some (.cells c T f)) (hT : T ≠ 75) : SetAt w' s L := by
  obtain ⟨t, p, h1, h2, h3⟩ := h
  exact ⟨t, p, (hb.block s (lt_of_block h1) (Ne.symm hr)).trans h1, h2.but hb ha hT, h3⟩

set_option maxHeartbeats 400000 in
theorem len_T (w : World) (s : Nat) (L : List SymV) (h : SetAt w s L) :
    Calls Try.prog 17 #[.pointer (some ⟨s, 0, none⟩)] w fun e w' => e = .returned (.int .i64 L.length) ∧ w = w' := by
  obtain ⟨t, p, h1, h2, h3, -⟩ := h
  have c1 := cell_of_one h1
  have H3 := Lib.hid h3
  clear h1 h3
  go_enter Try.func17, Try.ntmps17
  go_wp2_with fail
  refine (count_T _ _ _ h2).mono ?_
  rintro e w' ⟨rfl, rfl⟩
  go_wp2_with fail
  go_ret
  exact ⟨by rw [← H3.out]; rfl, rfl⟩

theorem put_T (w : World) (s : Nat) (L : List SymV) (x : SymV) (h : SetAt w s L) (hs : L.length ≤ 800000) :
    Calls Try.prog 27 #[.pointer (some ⟨s, 0, none⟩), .agg #[.int .i64 x.k, .string x.t, .int .i64 x.n]] w fun e w' => e = .returned (.bool (!has symCmp L x)) ∧ SetAt w' s (put symCmp L x) ∧ But s w w' := by
  have hB0 : Below w.heap.size w (w.alloc (.cells #[.int .i64 x.k, .string x.t, .int .i64 x.n] 27)) := (Below.refl _ w).alloc (Nat.le_refl _) _
  have hx0 := mem_new w x
  have hsz : w.heap.size < (w.alloc (.cells #[.int .i64 x.k, .string x.t, .int .i64 x.n] 27)).heap.size := by simp
  have hS0 := h.below hB0
  obtain ⟨t, p, h1, h2, rfl, h4⟩ := hS0
  have c1 := cell_of_one h1
  have H1 := Lib.hid h1
  clear h1
  by_cases hh : has symCmp t.list x = true
  · have hput : put symCmp t.list x = t.list := by simp [put, hh]
    have Hput := Lib.hid hput
    clear hput
    go_enter Try.func27, Try.ntmps27
    go_wp2_with fail
    generalize (w.alloc (.cells #[.int .i64 x.k, .string x.t, .int .i64 x.n] 27)) = W0 at hB0 hx0 hsz h2 c1 H1 ⊢
    refine (find_T t _ p x h2 h4 (by unfold Tr.size; omega)).mono ?_
    rintro e w1 ⟨rfl, hB1⟩
    go_wp2_with fail
    go_ret
    have hB := hB0.trans (hB1.mono hB0.size)
    refine ⟨by simp [hh], ?_, But.of_below hB⟩
    rw [Hput.out]
    exact h.below hB
  · have hh : has symCmp t.list x = false := by simpa using hh
    have hput : put symCmp t.list x = ins symCmp t.list x := by simp [put, hh]
    have Hput := Lib.hid hput
    clear hput
    go_enter Try.func27, Try.ntmps27
    go_wp2_with fail
    generalize (w.alloc (.cells #[.int .i64 x.k, .string x.t, .int .i64 x.n] 27)) = W0 at hB0 hx0 hsz h2 c1 H1 ⊢
    refine (find_T t _ p x h2 h4 (by unfold Tr.size; omega)).mono ?_
    rintro e w1 ⟨rfl, hB1⟩
    have hx1 := mem_below hB1 hsz hx0
    go_wp2_with fail
    refine (insert_T t w1 p _ _ x (h2.ext hB1) rfl (pos_le _ _) (by unfold Tr.size; omega)).mono ?_
    rintro e w2 ⟨t2, b2, rfl, ht2, hL2, hB2⟩
    have hC2 := hB1.trans (hB2.mono hB1.size)
    have k1 := (hC2.block s (lt_of_block H1.out)).trans H1.out
    have d1 := cell_of_one k1
    have f1 := free_of_one k1
    have K1 := Lib.hid k1
    have HL2 := Lib.hid hL2
    clear k1 hL2
    go_wp2_with fail
    go_ret
    have hB := hB0.trans (hC2.mono hB0.size)
    refine ⟨by simp [hh], ⟨t2, some ⟨b2, 0, none⟩, one_setCell K1.out, ht2.setCell K1.out (by decide) _, ?_, ?_⟩, (But.of_below hB).setCell _ _⟩
    · rw [Hput.out, HL2.out]; rfl
    · rw [Hput.out]; exact sorted_ins symCmp_lin _ _ h4 hh

end Go.Proofs.Ytcpgjekkcpfpaaa.S
