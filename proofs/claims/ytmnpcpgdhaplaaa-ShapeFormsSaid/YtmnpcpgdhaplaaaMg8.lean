/- What Len, Place, Put, Get and At of a set answer. Conditions: the set lies in memory; at most 800000 members.
What Get, At and New of a set answer. Conditions: the set, the list lie in memory; at most 800000 members. -/
import Derived.Test.YtmnpcpgdhaplaaaMg6
import Derived.Test.YtmnpcpgdhaplaaaFindSV
import Derived.Deep.LoopGhost
namespace Go.Proofs.Ytmnpcpgdhaplaaa.V
open Go Go.RowKit

/-- The set in block s has the members L. -/
def SetAt (w : World) (s : Nat) (L : List VarV) : Prop :=
  ∃ t p, w.heap[s]? = some (.cells #[.pointer p] 134 (0, 0)) ∧ LT w t p ∧ t.list = L ∧ Sorted varCmp L

theorem SetAt.lt {w : World} {s : Nat} {L : List VarV} (h : SetAt w s L) : s < w.heap.size := by
  obtain ⟨t, p, h1, -⟩ := h
  exact lt_of_block h1

theorem SetAt.below {w w' : World} {s : Nat} {L : List VarV} (h : SetAt w s L) (hB : Below w.heap.size w w') : SetAt w' s L := by
  obtain ⟨t, p, h1, h2, h3⟩ := h
  exact ⟨t, p, (hB.block s (lt_of_block h1)).trans h1, h2.ext hB, h3⟩

/-- Another set, or anything of another type, is changed. -/
theorem SetAt.but {w w' : World} {s r : Nat} {L : List VarV} (h : SetAt w s L) (hb : But r w w') (hr : r ≠ s) {c : Array Value} {T : TypeId} {f : Nat × Nat} (ha : w.heap[r]? = some (.cells c T f)) (hT : T ≠ 142) : SetAt w' s L := by
  obtain ⟨t, p, h1, h2, h3⟩ := h
  exact ⟨t, p, (hb.block s (lt_of_block h1) (Ne.symm hr)).trans h1, h2.but hb ha hT, h3⟩

set_option maxHeartbeats 400000 in
theorem len_T (w : World) (s : Nat) (L : List VarV) (h : SetAt w s L) :
    Calls Try.prog 80 #[.pointer (some ⟨s, 0, none⟩)] w fun e w' => e = .returned (.int .i64 L.length) ∧ w = w' := by
  obtain ⟨t, p, h1, h2, h3, -⟩ := h
  have c1 := cell_of_one h1
  have H3 := Lib.hid h3
  clear h1 h3
  go_enter Try.func80, Try.ntmps80
  go_wp2_with fail
  refine (count_T _ _ _ h2).mono ?_
  rintro e w' ⟨rfl, rfl⟩
  go_wp2_with fail
  go_ret
  exact ⟨by rw [← H3.out]; rfl, rfl⟩

theorem put_T (w : World) (s : Nat) (L : List VarV) (x : VarV) (h : SetAt w s L) (hs : L.length ≤ 800000) :
    Calls Try.prog 108 #[.pointer (some ⟨s, 0, none⟩), .agg #[.string x.name, .int .i64 x.nth]] w fun e w' => e = .returned (.bool (!has varCmp L x)) ∧ SetAt w' s (put varCmp L x) ∧ But s w w' := by
  have hB0 : Below w.heap.size w (w.alloc (.cells #[.string x.name, .int .i64 x.nth] 121)) := (Below.refl _ w).alloc (Nat.le_refl _) _
  have hx0 := mem_new w x
  have hsz : w.heap.size < (w.alloc (.cells #[.string x.name, .int .i64 x.nth] 121)).heap.size := by simp
  have hS0 := h.below hB0
  obtain ⟨t, p, h1, h2, rfl, h4⟩ := hS0
  have c1 := cell_of_one h1
  have H1 := Lib.hid h1
  clear h1
  by_cases hh : has varCmp t.list x = true
  · have hput : put varCmp t.list x = t.list := by simp [put, hh]
    have Hput := Lib.hid hput
    clear hput
    go_enter Try.func108, Try.ntmps108
    go_wp2_with fail
    generalize (w.alloc (.cells #[.string x.name, .int .i64 x.nth] 121)) = W0 at hB0 hx0 hsz h2 c1 H1 ⊢
    refine (find_T t _ p x h2 h4 (by unfold Tr.size; omega)).mono ?_
    rintro e w1 ⟨rfl, hB1⟩
    go_wp2_with fail
    go_ret
    have hB := hB0.trans (hB1.mono hB0.size)
    refine ⟨by simp [hh], ?_, But.of_below hB⟩
    rw [Hput.out]
    exact h.below hB
  · have hh : has varCmp t.list x = false := by simpa using hh
    have hput : put varCmp t.list x = ins varCmp t.list x := by simp [put, hh]
    have Hput := Lib.hid hput
    clear hput
    go_enter Try.func108, Try.ntmps108
    go_wp2_with fail
    generalize (w.alloc (.cells #[.string x.name, .int .i64 x.nth] 121)) = W0 at hB0 hx0 hsz h2 c1 H1 ⊢
    refine (find_T t _ p x h2 h4 (by unfold Tr.size; omega)).mono ?_
    rintro e w1 ⟨rfl, hB1⟩
    have hx1 := mem_below hB1 hsz hx0
    go_wp2_with fail
    refine (insert_T t w1 p _ _ x (h2.ext hB1) rfl (pos_le _ _) (by unfold Tr.size; omega)).mono ?_
    rintro e w2 ⟨t2, b2, rfl, ht2, hL2, hB2⟩
    have hC2 := hB1.trans (hB2.mono hB1.size)
    have k1 := (hC2.block s (lt_of_block H1.out)).trans H1.out
    have d1 := cell_of_one k1
    have f1 := free_of_one k1
    have K1 := Lib.hid k1
    have HL2 := Lib.hid hL2
    clear k1 hL2
    go_wp2_with fail
    go_ret
    have hB := hB0.trans (hC2.mono hB0.size)
    refine ⟨by simp [hh], ⟨t2, some ⟨b2, 0, none⟩, one_setCell K1.out, ht2.setCell K1.out (by decide) _, ?_, ?_⟩, (But.of_below hB).setCell _ _⟩
    · rw [Hput.out, HL2.out]; rfl
    · rw [Hput.out]; exact sorted_ins varCmp_lin _ _ h4 hh

end Go.Proofs.Ytmnpcpgdhaplaaa.V

namespace Go.Proofs.Ytmnpcpgdhaplaaa.V
open Go Go.RowKit

set_option maxHeartbeats 800000

theorem zero_cells {w : World} {b : Nat} (h : w.heap[b]? = some (.cells #[.string ⟨#[]⟩, .int .i64 0] 121 (0, 0))) : w.cell? ⟨b, 0, none⟩ = some (.string ⟨#[]⟩) ∧ w.cell? ⟨b, 1, none⟩ = some (.int .i64 0) ∧ w.frozen? ⟨b, 0, none⟩ = false ∧ w.frozen? ⟨b, 1, none⟩ = false := by
  simp [World.cell?, World.frozen?, h]

theorem set_block {w : World} {b o : Nat} {c : Array Value} {T : TypeId} {f : Nat × Nat} (h : w.heap[b]? = some (.cells c T f)) (v : Value) : (w.setCell ⟨b, o, none⟩ v).heap[b]? = some (.cells (c.setIfInBounds o v) T f) := by
  have hlt := lt_of_block h
  have h' : w.heap[b] = .cells c T f := by simpa [Array.getElem?_eq_getElem hlt] using h
  show (w.heap.modify b _)[b]? = _
  rw [Array.getElem?_eq_getElem (by simpa using hlt), Array.getElem_modify_self, h']
  rfl

theorem sto_block (w : World) (b : Nat) (x : VarV) (h : w.heap[b]? = some (.cells #[.string ⟨#[]⟩, .int .i64 0] 121 (0, 0))) : ((w.setCell ⟨b, 0, none⟩ (.string x.name)).setCell ⟨b, 1, none⟩ (.int .i64 x.nth)).heap[b]? = some (.cells #[.string x.name, .int .i64 x.nth] 121 (0, 0)) := by
  have := set_block (o := 1) (set_block (o := 0) (h) (.string x.name)) (.int .i64 x.nth)
  simpa using this

theorem below_but {B s : Nat} {w W W' : World} (h : Below B w W) (hb : But s W W') (hs : B ≤ s) (hB : B ≤ W.heap.size) : Below B w W' :=
  ⟨hb.os.trans h.os, hb.tape.trans h.tape, hb.output.trans h.output, Nat.le_trans h.size hb.size, fun k hk => (hb.block k (by omega) (by omega)).trans (h.block k hk)⟩

theorem mem_sto (w : World) (b : Nat) (x : VarV) (h : w.heap[b]? = some (.cells #[.string ⟨#[]⟩, .int .i64 0] 121 (0, 0))) : ((w.setCell ⟨b, 0, none⟩ (.string x.name)).setCell ⟨b, 1, none⟩ (.int .i64 x.nth)).cell? ⟨b, 0, none⟩ = some (.string x.name) ∧ ((w.setCell ⟨b, 0, none⟩ (.string x.name)).setCell ⟨b, 1, none⟩ (.int .i64 x.nth)).cell? ⟨b, 1, none⟩ = some (.int .i64 x.nth) := by
  have h' := sto_block w b x h
  generalize ((w.setCell ⟨b, 0, none⟩ (.string x.name)).setCell ⟨b, 1, none⟩ (.int .i64 x.nth)) = W at h' ⊢
  simp [World.cell?, h']

theorem but_sto (w : World) (b : Nat) (x : VarV) : But b w ((w.setCell ⟨b, 0, none⟩ (.string x.name)).setCell ⟨b, 1, none⟩ (.int .i64 x.nth)) := by
  repeat (with_reducible refine But.setCell ?_ _ _)
  exact But.refl _ _

set_option maxHeartbeats 800000 in
theorem get_T (w : World) (s : Nat) (L : List VarV) (x : VarV) (h : SetAt w s L) (hs : L.length ≤ 800000) (hh : has varCmp L x = true) :
    Calls Try.prog 121 #[.pointer (some ⟨s, 0, none⟩), .agg #[.string x.name, .int .i64 x.nth]] w fun e w' => (∃ y, e = .returned (.tuple #[.agg #[.string y.name, .int .i64 y.nth], .bool true]) ∧ L[pos varCmp L x]? = some y) ∧ Below w.heap.size w w' := by
  have hB0 : Below w.heap.size w ((w.alloc (.cells #[.string x.name, .int .i64 x.nth] 121)).alloc (.cells #[.string ⟨#[]⟩, .int .i64 0] 121)) := ((Below.refl _ w).alloc (Nat.le_refl _) _).alloc (by simp) _
  have hz0 : ((w.alloc (.cells #[.string x.name, .int .i64 x.nth] 121)).alloc (.cells #[.string ⟨#[]⟩, .int .i64 0] 121)).heap[w.heap.size + 1]? = some (.cells #[.string ⟨#[]⟩, .int .i64 0] 121 (0, 0)) := by simpa using heap_alloc_new (w.alloc (.cells #[.string x.name, .int .i64 x.nth] 121)) (.cells #[.string ⟨#[]⟩, .int .i64 0] 121)
  obtain ⟨t, p, h1, h2, rfl, h4⟩ := h.below hB0
  obtain ⟨y, hy, -⟩ := has_at varCmp_lin t.list x h4 hh
  have Hy := Lib.hid hy
  have c1 := cell_of_one h1
  clear h1 h hy
  go_enter Try.func121, Try.ntmps121
  go_wp2_with fail
  refine (find_T t _ p x h2 h4 (by unfold Tr.size; omega)).mono ?_
  rintro e w1 ⟨rfl, hB1⟩
  go_wp2_with fail
  refine (at_T t w1 p _ y (h2.ext hB1) Hy.out (by unfold Tr.size; omega)).mono ?_
  rintro e w2 ⟨rfl, hB2⟩
  have hC2 := hB1.trans (hB2.mono hB1.size)
  have hB := hB0.trans (hC2.mono hB0.size)
  have hb1 : w2.heap[w.heap.size + 1]? = _ := (hC2.block _ (lt_of_block hz0)).trans hz0
  have hz1 := zero_cells hb1
  have Hb1 := Lib.hid hb1
  have Hz0 := Lib.hid hz0
  clear hb1 hz0
  go_wp2_with fail
  have hm := mem_sto w2 (w.heap.size + 1) y Hb1.out
  have hB3 : Below w.heap.size w ((w2.setCell ⟨(w.heap.size + 1), 0, none⟩ (.string y.name)).setCell ⟨(w.heap.size + 1), 1, none⟩ (.int .i64 y.nth)) := below_but hB (but_sto w2 (w.heap.size + 1) y) (by omega) (by have := hB.size; omega)
  generalize ((w2.setCell ⟨w.heap.size + 1, 0, none⟩ (.string y.name)).setCell ⟨w.heap.size + 1, 1, none⟩ (.int .i64 y.nth)) = W at hm hB3 ⊢
  exact bodyPost_ret (v := .tuple #[.agg #[.string y.name, .int .i64 y.nth], .bool true]) (by simp [results, Try.results121, go_sem, hm]) rfl ⟨⟨y, rfl, Hy.out⟩, hB3⟩

end Go.Proofs.Ytmnpcpgdhaplaaa.V
