/- What Get, At and New of a set answer. Conditions: the set, the list lie in memory; at most 800000 members.
What Clone and Drop of a set do. Conditions: the set lies in memory; at most 800000 members. -/
import Derived.Test.YtfgpkbbbohipcaaMg32
import Derived.Deep.LoopGhost
namespace Go.Proofs.Ytfgpkbbbohipcaa.E
open Go Go.RowKit

set_option maxHeartbeats 800000

theorem zero_cells {w : World} {b : Nat} (h : w.heap[b]? = some (.cells #[.int .i64 0, .string ⟨#[]⟩, .int .i64 0, .int .i64 0] 93 (0, 0))) : w.cell? ⟨b, 0, none⟩ = some (.int .i64 0) ∧ w.cell? ⟨b, 1, none⟩ = some (.string ⟨#[]⟩) ∧ w.cell? ⟨b, 2, none⟩ = some (.int .i64 0) ∧ w.cell? ⟨b, 3, none⟩ = some (.int .i64 0) ∧ w.frozen? ⟨b, 0, none⟩ = false ∧ w.frozen? ⟨b, 1, none⟩ = false ∧ w.frozen? ⟨b, 2, none⟩ = false ∧ w.frozen? ⟨b, 3, none⟩ = false := by
  simp [World.cell?, World.frozen?, h]

theorem set_block {w : World} {b o : Nat} {c : Array Value} {T : TypeId} {f : Nat × Nat} (h : w.heap[b]? = some (.cells c T f)) (v : Value) : (w.setCell ⟨b, o, none⟩ v).heap[b]? = some (.cells (c.setIfInBounds o v) T f) := by
  have hlt := lt_of_block h
  have h' : w.heap[b] = .cells c T f := by simpa [Array.getElem?_eq_getElem hlt] using h
  show (w.heap.modify b _)[b]? = _
  rw [Array.getElem?_eq_getElem (by simpa using hlt), Array.getElem_modify_self, h']
  rfl

theorem sto_block (w : World) (b : Nat) (x : EntV) (h : w.heap[b]? = some (.cells #[.int .i64 0, .string ⟨#[]⟩, .int .i64 0, .int .i64 0] 93 (0, 0))) : ((((w.setCell ⟨b, 0, none⟩ (.int .i64 x.key.k)).setCell ⟨b, 1, none⟩ (.string x.key.t)).setCell ⟨b, 2, none⟩ (.int .i64 x.key.n)).setCell ⟨b, 3, none⟩ (.int .i64 x.v)).heap[b]? = some (.cells #[.int .i64 x.key.k, .string x.key.t, .int .i64 x.key.n, .int .i64 x.v] 93 (0, 0)) := by
  have := set_block (o := 3) (set_block (o := 2) (set_block (o := 1) (set_block (o := 0) (h) (.int .i64 x.key.k)) (.string x.key.t)) (.int .i64 x.key.n)) (.int .i64 x.v)
  simpa using this

theorem below_but {B s : Nat} {w W W' : World} (h : Below B w W) (hb : But s W W') (hs : B ≤ s) (hB : B ≤ W.heap.size) : Below B w W' :=
  ⟨hb.os.trans h.os, hb.tape.trans h.tape, hb.output.trans h.output, Nat.le_trans h.size hb.size, fun k hk => (hb.block k (by omega) (by omega)).trans (h.block k hk)⟩

theorem mem_sto (w : World) (b : Nat) (x : EntV) (h : w.heap[b]? = some (.cells #[.int .i64 0, .string ⟨#[]⟩, .int .i64 0, .int .i64 0] 93 (0, 0))) : ((((w.setCell ⟨b, 0, none⟩ (.int .i64 x.key.k)).setCell ⟨b, 1, none⟩ (.string x.key.t)).setCell ⟨b, 2, none⟩ (.int .i64 x.key.n)).setCell ⟨b, 3, none⟩ (.int .i64 x.v)).cell? ⟨b, 0, none⟩ = some (.int .i64 x.key.k) ∧ ((((w.setCell ⟨b, 0, none⟩ (.int .i64 x.key.k)).setCell ⟨b, 1, none⟩ (.string x.key.t)).setCell ⟨b, 2, none⟩ (.int .i64 x.key.n)).setCell ⟨b, 3, none⟩ (.int .i64 x.v)).cell? ⟨b, 1, none⟩ = some (.string x.key.t) ∧ ((((w.setCell ⟨b, 0, none⟩ (.int .i64 x.key.k)).setCell ⟨b, 1, none⟩ (.string x.key.t)).setCell ⟨b, 2, none⟩ (.int .i64 x.key.n)).setCell ⟨b, 3, none⟩ (.int .i64 x.v)).cell? ⟨b, 2, none⟩ = some (.int .i64 x.key.n) ∧ ((((w.setCell ⟨b, 0, none⟩ (.int .i64 x.key.k)).setCell ⟨b, 1, none⟩ (.string x.key.t)).setCell ⟨b, 2, none⟩ (.int .i64 x.key.n)).setCell ⟨b, 3, none⟩ (.int .i64 x.v)).cell? ⟨b, 3, none⟩ = some (.int .i64 x.v) := by
  have h' := sto_block w b x h
  generalize ((((w.setCell ⟨b, 0, none⟩ (.int .i64 x.key.k)).setCell ⟨b, 1, none⟩ (.string x.key.t)).setCell ⟨b, 2, none⟩ (.int .i64 x.key.n)).setCell ⟨b, 3, none⟩ (.int .i64 x.v)) = W at h' ⊢
  simp [World.cell?, h']

theorem but_sto (w : World) (b : Nat) (x : EntV) : But b w ((((w.setCell ⟨b, 0, none⟩ (.int .i64 x.key.k)).setCell ⟨b, 1, none⟩ (.string x.key.t)).setCell ⟨b, 2, none⟩ (.int .i64 x.key.n)).setCell ⟨b, 3, none⟩ (.int .i64 x.v)) := by
  repeat (with_reducible refine But.setCell ?_ _ _)
  exact But.refl _ _

set_option maxHeartbeats 800000 in
theorem get_T (w : World) (s : Nat) (L : List EntV) (x : EntV) (h : SetAt w s L) (hs : L.length ≤ 800000) (hh : has entCmp L x = true) :
    Calls Try.prog 74 #[.pointer (some ⟨s, 0, none⟩), .agg #[.int .i64 x.key.k, .string x.key.t, .int .i64 x.key.n, .int .i64 x.v]] w fun e w' => (∃ y, e = .returned (.tuple #[.agg #[.int .i64 y.key.k, .string y.key.t, .int .i64 y.key.n, .int .i64 y.v], .bool true]) ∧ L[pos entCmp L x]? = some y) ∧ Below w.heap.size w w' := by
  have hB0 : Below w.heap.size w ((w.alloc (.cells #[.int .i64 x.key.k, .string x.key.t, .int .i64 x.key.n, .int .i64 x.v] 93)).alloc (.cells #[.int .i64 0, .string ⟨#[]⟩, .int .i64 0, .int .i64 0] 93)) := ((Below.refl _ w).alloc (Nat.le_refl _) _).alloc (by simp) _
  have hz0 : ((w.alloc (.cells #[.int .i64 x.key.k, .string x.key.t, .int .i64 x.key.n, .int .i64 x.v] 93)).alloc (.cells #[.int .i64 0, .string ⟨#[]⟩, .int .i64 0, .int .i64 0] 93)).heap[w.heap.size + 1]? = some (.cells #[.int .i64 0, .string ⟨#[]⟩, .int .i64 0, .int .i64 0] 93 (0, 0)) := by simpa using heap_alloc_new (w.alloc (.cells #[.int .i64 x.key.k, .string x.key.t, .int .i64 x.key.n, .int .i64 x.v] 93)) (.cells #[.int .i64 0, .string ⟨#[]⟩, .int .i64 0, .int .i64 0] 93)
  obtain ⟨t, p, h1, h2, rfl, h4⟩ := h.below hB0
  obtain ⟨y, hy, -⟩ := has_at entCmp_lin t.list x h4 hh
  have Hy := Lib.hid hy
  have c1 := cell_of_one h1
  clear h1 h hy
  go_enter Try.func74, Try.ntmps74
  go_wp2_with fail
  refine (find_T t _ p x h2 h4 (by unfold Tr.size; omega)).mono ?_
  rintro e w1 ⟨rfl, hB1⟩
  go_wp2_with fail
  refine (at_T t w1 p _ y (h2.ext hB1) Hy.out (by unfold Tr.size; omega)).mono ?_
  rintro e w2 ⟨rfl, hB2⟩
  have hC2 := hB1.trans (hB2.mono hB1.size)
  have hB := hB0.trans (hC2.mono hB0.size)
  have hb1 : w2.heap[w.heap.size + 1]? = _ := (hC2.block _ (lt_of_block hz0)).trans hz0
  have hz1 := zero_cells hb1
  have Hb1 := Lib.hid hb1
  have Hz0 := Lib.hid hz0
  clear hb1 hz0
  go_wp2_with fail
  have hm := mem_sto w2 (w.heap.size + 1) y Hb1.out
  have hB3 : Below w.heap.size w ((((w2.setCell ⟨(w.heap.size + 1), 0, none⟩ (.int .i64 y.key.k)).setCell ⟨(w.heap.size + 1), 1, none⟩ (.string y.key.t)).setCell ⟨(w.heap.size + 1), 2, none⟩ (.int .i64 y.key.n)).setCell ⟨(w.heap.size + 1), 3, none⟩ (.int .i64 y.v)) := below_but hB (but_sto w2 (w.heap.size + 1) y) (by omega) (by have := hB.size; omega)
  generalize ((((w2.setCell ⟨w.heap.size + 1, 0, none⟩ (.int .i64 y.key.k)).setCell ⟨w.heap.size + 1, 1, none⟩ (.string y.key.t)).setCell ⟨w.heap.size + 1, 2, none⟩ (.int .i64 y.key.n)).setCell ⟨w.heap.size + 1, 3, none⟩ (.int .i64 y.v)) = W at hm hB3 ⊢
  exact bodyPost_ret (v := .tuple #[.agg #[.int .i64 y.key.k, .string y.key.t, .int .i64 y.key.n, .int .i64 y.v], .bool true]) (by simp [results, Try.results74, go_sem, hm]) rfl ⟨⟨y, rfl, Hy.out⟩, hB3⟩

end Go.Proofs.Ytfgpkbbbohipcaa.E

namespace Go.Proofs.Ytfgpkbbbohipcaa.E
open Go Go.RowKit

theorem clone_T (w : World) (s : Nat) (L : List EntV) (h : SetAt w s L) :
    Calls Try.prog 65 #[.pointer (some ⟨s, 0, none⟩)] w fun e w' => e = .returned (.pointer (some ⟨w.heap.size, 0, none⟩)) ∧ SetAt w' w.heap.size L ∧ Below w.heap.size w w' := by
  obtain ⟨t, p, h1, h2, rfl, h4⟩ := h
  have c1 := cell_of_one h1
  have hB0 : Below w.heap.size w (w.alloc (.cells #[.pointer p] 139)) := (Below.refl _ w).alloc (Nat.le_refl _) _
  clear h1
  go_enter Try.func65, Try.ntmps65
  go_wp2_with fail
  go_ret
  exact ⟨rfl, ⟨t, p, heap_alloc_new w _, h2.ext hB0, rfl, h4⟩, hB0⟩

def drop {α : Type} (cmp : α → α → Int) (l : List α) (x : α) : List α := if has cmp l x then l.eraseIdx (pos cmp l x) else l

theorem sorted_drop {α : Type} {cmp : α → α → Int} (l : List α) (x : α) (hs : Sorted cmp l) : Sorted cmp (drop cmp l x) := by
  unfold drop; split
  · exact List.Pairwise.sublist (List.eraseIdx_sublist _ _) hs
  · exact hs

theorem length_drop {α : Type} (cmp : α → α → Int) (l : List α) (x : α) : (drop cmp l x).length ≤ l.length := by
  unfold drop; split
  · exact (List.eraseIdx_sublist _ _).length_le
  · exact Nat.le_refl _

theorem mem_drop {α : Type} {cmp : α → α → Int} (hc : Lin cmp) (he : Exact cmp) {l : List α} {x a : α} (hs : Sorted cmp l) : a ∈ drop cmp l x ↔ a ∈ l ∧ a ≠ x := by
  unfold drop
  split
  · rename_i hh
    obtain ⟨y, hy, h0⟩ := has_at hc l x hs hh
    obtain rfl := (he _ _).1 h0
    obtain ⟨hi, hg⟩ := List.getElem?_eq_some_iff.1 hy
    generalize pos cmp l x = i at hi hg
    have e : l = l.take i ++ x :: l.drop (i + 1) := by
      conv => lhs; rw [← List.take_append_drop i l, List.drop_eq_getElem_cons hi, hg]
    have hs' := hs
    rw [e] at hs'
    obtain ⟨-, h2, h3⟩ := List.pairwise_append.1 hs'
    have h4 := (List.pairwise_cons.1 h2).1
    rw [List.eraseIdx_eq_take_drop_succ]
    have ne1 : ∀ b ∈ l.take i, b ≠ x := fun b hb e => by
      have := h3 b hb x (by simp); rw [e, (he x x).2 rfl] at this; omega
    have ne2 : ∀ b ∈ l.drop (i + 1), b ≠ x := fun b hb e => by
      have := h4 b hb; rw [e, (he x x).2 rfl] at this; omega
    have hm : a ∈ l ↔ a ∈ l.take i ∨ a = x ∨ a ∈ l.drop (i + 1) := by
      conv => lhs; rw [e]
      simp
    rw [hm, List.mem_append]
    constructor
    · rintro (h | h)
      · exact ⟨.inl h, ne1 a h⟩
      · exact ⟨.inr (.inr h), ne2 a h⟩
    · rintro ⟨h | h | h, hn⟩
      · exact .inl h
      · exact absurd h hn
      · exact .inr h
  · rename_i hh
    constructor
    · intro h
      exact ⟨h, fun e => hh ((has_iff he).2 (e ▸ h))⟩
    · exact fun h => h.1

theorem drop_T (w : World) (s : Nat) (L : List EntV) (x : EntV) (h : SetAt w s L) (hs : L.length ≤ 800000) :
    Calls Try.prog 49 #[.pointer (some ⟨s, 0, none⟩), .agg #[.int .i64 x.key.k, .string x.key.t, .int .i64 x.key.n, .int .i64 x.v]] w fun e w' => e = .returned (.bool (has entCmp L x)) ∧ SetAt w' s (drop entCmp L x) ∧ But s w w' := by
  have hB0 : Below w.heap.size w (w.alloc (.cells #[.int .i64 x.key.k, .string x.key.t, .int .i64 x.key.n, .int .i64 x.v] 93)) := (Below.refl _ w).alloc (Nat.le_refl _) _
  have hx0 := mem_new w x
  have hsz : w.heap.size < (w.alloc (.cells #[.int .i64 x.key.k, .string x.key.t, .int .i64 x.key.n, .int .i64 x.v] 93)).heap.size := by simp
  have hS0 := h.below hB0
  obtain ⟨t, p, h1, h2, rfl, h4⟩ := hS0
  have c1 := cell_of_one h1
  have H1 := Lib.hid h1
  clear h1
  by_cases hh : has entCmp t.list x = true
  · have hput : drop entCmp t.list x = t.list.eraseIdx (pos entCmp t.list x) := by simp [drop, hh]
    obtain ⟨y, hy, -⟩ := has_at entCmp_lin t.list x h4 hh
    have hpl := (List.getElem?_eq_some_iff.1 hy).1
    have Hput := Lib.hid hput
    have Hpl := Lib.hid hpl
    clear hput hy hpl
    go_enter Try.func49, Try.ntmps49
    go_wp2_with fail
    generalize (w.alloc (.cells #[.int .i64 x.key.k, .string x.key.t, .int .i64 x.key.n, .int .i64 x.v] 93)) = W0 at hB0 hx0 hsz h2 c1 H1 ⊢
    refine (find_T t _ p x h2 h4 (by unfold Tr.size; omega)).mono ?_
    rintro e w1 ⟨rfl, hB1⟩
    go_wp2_with fail
    refine (remove_T t w1 p _ _ (h2.ext hB1) rfl (by unfold Tr.size; exact Hpl.out) (by unfold Tr.size; omega)).mono ?_
    rintro e w2 ⟨t2, p2, rfl, ht2, hL2, hB2⟩
    have hC2 := hB1.trans (hB2.mono hB1.size)
    have k1 := (hC2.block s (lt_of_block H1.out)).trans H1.out
    have d1 := cell_of_one k1
    have f1 := free_of_one k1
    have K1 := Lib.hid k1
    have HL2 := Lib.hid hL2
    clear k1 hL2
    go_wp2_with fail
    go_ret
    have hB := hB0.trans (hC2.mono hB0.size)
    refine ⟨by simp [hh], ⟨t2, p2, one_setCell K1.out, ht2.setCell K1.out (by decide) _, ?_, ?_⟩, (But.of_below hB).setCell _ _⟩
    · rw [Hput.out, HL2.out]
    · exact sorted_drop _ _ h4
  · have hh : has entCmp t.list x = false := by simpa using hh
    have hput : drop entCmp t.list x = t.list := by simp [drop, hh]
    have Hput := Lib.hid hput
    clear hput
    go_enter Try.func49, Try.ntmps49
    go_wp2_with fail
    generalize (w.alloc (.cells #[.int .i64 x.key.k, .string x.key.t, .int .i64 x.key.n, .int .i64 x.v] 93)) = W0 at hB0 hx0 hsz h2 c1 H1 ⊢
    refine (find_T t _ p x h2 h4 (by unfold Tr.size; omega)).mono ?_
    rintro e w1 ⟨rfl, hB1⟩
    go_wp2_with fail
    go_ret
    have hB := hB0.trans (hB1.mono hB0.size)
    refine ⟨by simp [hh], ?_, But.of_below hB⟩
    rw [Hput.out]
    exact h.below hB

end Go.Proofs.Ytfgpkbbbohipcaa.E
