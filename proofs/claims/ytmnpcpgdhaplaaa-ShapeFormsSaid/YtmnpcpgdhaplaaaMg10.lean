/- What Get and At of a set answer where there is nothing. Conditions: the set lies in memory; at most 800000 members.
What remove of a tree's nodes and Drop of a set do. Conditions: the tree, the set lie in memory; at most 800000 members.
What Clone and Drop of a set do. Conditions: the set lies in memory; at most 800000 members. -/
import Derived.Test.YtmnpcpgdhaplaaaMg8
namespace Go.Proofs.Ytmnpcpgdhaplaaa.V
open Go Go.RowKit

set_option maxHeartbeats 800000 in
theorem get_no_T (w : World) (s : Nat) (L : List VarV) (x : VarV) (h : SetAt w s L) (hs : L.length ≤ 800000) (hh : has varCmp L x = false) :
    Calls Try.prog 121 #[.pointer (some ⟨s, 0, none⟩), .agg #[.string x.name, .int .i64 x.nth]] w fun e w' => e = .returned (.tuple #[.agg #[.string ⟨#[]⟩, .int .i64 0], .bool false]) ∧ Below w.heap.size w w' := by
  have hB0 : Below w.heap.size w ((w.alloc (.cells #[.string x.name, .int .i64 x.nth] 121)).alloc (.cells #[.string ⟨#[]⟩, .int .i64 0] 121)) := ((Below.refl _ w).alloc (Nat.le_refl _) _).alloc (by simp) _
  have hz0 : ((w.alloc (.cells #[.string x.name, .int .i64 x.nth] 121)).alloc (.cells #[.string ⟨#[]⟩, .int .i64 0] 121)).heap[w.heap.size + 1]? = some (.cells #[.string ⟨#[]⟩, .int .i64 0] 121 (0, 0)) := by simpa using heap_alloc_new (w.alloc (.cells #[.string x.name, .int .i64 x.nth] 121)) (.cells #[.string ⟨#[]⟩, .int .i64 0] 121)
  obtain ⟨t, p, h1, h2, rfl, h4⟩ := h.below hB0
  have c1 := cell_of_one h1
  have Hh := Lib.hid hh
  clear h1 h
  go_enter Try.func121, Try.ntmps121
  go_wp2_with fail
  refine (find_T t _ p x h2 h4 (by unfold Tr.size; omega)).mono ?_
  rw [Hh.out]
  rintro e w1 ⟨rfl, hB1⟩
  have hB := hB0.trans (hB1.mono hB0.size)
  have hBz : Below w1.heap.size w1 (w1.alloc (.cells #[.string ⟨#[]⟩, .int .i64 0] 121)) := (Below.refl _ w1).alloc (Nat.le_refl _) _
  have hb1 : (w1.alloc (.cells #[.string ⟨#[]⟩, .int .i64 0] 121)).heap[w.heap.size + 1]? = _ := (hBz.block _ (lt_of_block ((hB1.block _ (lt_of_block hz0)).trans hz0))).trans ((hB1.block _ (lt_of_block hz0)).trans hz0)
  have hbn := heap_alloc_new w1 (.cells #[.string ⟨#[]⟩, .int .i64 0] 121)
  have hz1 := zero_cells hb1
  have hz2 := zero_cells hbn
  have Hb1 := Lib.hid hb1
  have hB2 := hB.trans (hBz.mono hB.size)
  have hszz : w.heap.size + 1 < (w1.alloc (.cells #[.string ⟨#[]⟩, .int .i64 0] 121)).heap.size := lt_of_block hb1
  clear hb1 hz0 hbn
  go_wp2_with fail
  have hm : (((w1.alloc (.cells #[.string ⟨#[]⟩, .int .i64 0] 121)).setCell ⟨w.heap.size + 1, 0, none⟩ (.string ⟨#[]⟩)).setCell ⟨w.heap.size + 1, 1, none⟩ (.int .i64 0)).cell? ⟨w.heap.size + 1, 0, none⟩ = some (.string ⟨#[]⟩) ∧ (((w1.alloc (.cells #[.string ⟨#[]⟩, .int .i64 0] 121)).setCell ⟨w.heap.size + 1, 0, none⟩ (.string ⟨#[]⟩)).setCell ⟨w.heap.size + 1, 1, none⟩ (.int .i64 0)).cell? ⟨w.heap.size + 1, 1, none⟩ = some (.int .i64 0) := mem_sto (w1.alloc (.cells #[.string ⟨#[]⟩, .int .i64 0] 121)) (w.heap.size + 1) (⟨⟨#[]⟩, 0⟩ : VarV) Hb1.out
  have hB3 : Below w.heap.size w (((w1.alloc (.cells #[.string ⟨#[]⟩, .int .i64 0] 121)).setCell ⟨w.heap.size + 1, 0, none⟩ (.string ⟨#[]⟩)).setCell ⟨w.heap.size + 1, 1, none⟩ (.int .i64 0)) := below_but hB2 (but_sto (w1.alloc (.cells #[.string ⟨#[]⟩, .int .i64 0] 121)) (w.heap.size + 1) (⟨⟨#[]⟩, 0⟩ : VarV)) (by omega) (by have := hB2.size; omega)
  generalize (((w1.alloc (.cells #[.string ⟨#[]⟩, .int .i64 0] 121)).setCell ⟨w.heap.size + 1, 0, none⟩ (.string ⟨#[]⟩)).setCell ⟨w.heap.size + 1, 1, none⟩ (.int .i64 0)) = W at hm hB3 ⊢
  exact bodyPost_ret (v := .tuple #[.agg #[.string ⟨#[]⟩, .int .i64 0], .bool false]) (by simp [results, Try.results121, go_sem, hm]) rfl ⟨rfl, hB3⟩

end Go.Proofs.Ytmnpcpgdhaplaaa.V

namespace Go.Proofs.Ytmnpcpgdhaplaaa.V
open Go Go.RowKit

/-- A tree with the members L, old or new; nothing that was there has changed. -/
def Left (w : World) (L : List VarV) (e : Ending) (w' : World) : Prop :=
  ∃ t p, e = .returned (.pointer p) ∧ LT w' t p ∧ t.list = L ∧ Below w.heap.size w w'

theorem erase_less {α : Type} (l r : List α) (i : Nat) (y : α) (h : i < l.length) : l.eraseIdx i ++ y :: r = (l ++ y :: r).eraseIdx i := (List.eraseIdx_append_of_lt_length h _).symm
theorem erase_more {α : Type} (l r : List α) (j : Nat) (y : α) : l ++ y :: r.eraseIdx j = (l ++ y :: r).eraseIdx (l.length + 1 + j) := by
  rw [List.eraseIdx_append_of_length_le (by omega), show l.length + 1 + j - l.length = j + 1 by omega]; rfl
theorem erase_here {α : Type} (l r : List α) (y : α) : l ++ r = (l ++ y :: r).eraseIdx l.length := by
  rw [List.eraseIdx_append_of_length_le (by omega)]; simp

end Go.Proofs.Ytmnpcpgdhaplaaa.V

namespace Go.Proofs.Ytmnpcpgdhaplaaa.V
open Go Go.RowKit

theorem clone_T (w : World) (s : Nat) (L : List VarV) (h : SetAt w s L) :
    Calls Try.prog 118 #[.pointer (some ⟨s, 0, none⟩)] w fun e w' => e = .returned (.pointer (some ⟨w.heap.size, 0, none⟩)) ∧ SetAt w' w.heap.size L ∧ Below w.heap.size w w' := by
  obtain ⟨t, p, h1, h2, rfl, h4⟩ := h
  have c1 := cell_of_one h1
  have hB0 : Below w.heap.size w (w.alloc (.cells #[.pointer p] 134)) := (Below.refl _ w).alloc (Nat.le_refl _) _
  clear h1
  go_enter Try.func118, Try.ntmps118
  go_wp2_with fail
  go_ret
  exact ⟨rfl, ⟨t, p, heap_alloc_new w _, h2.ext hB0, rfl, h4⟩, hB0⟩

def drop {α : Type} (cmp : α → α → Int) (l : List α) (x : α) : List α := if has cmp l x then l.eraseIdx (pos cmp l x) else l

theorem sorted_drop {α : Type} {cmp : α → α → Int} (l : List α) (x : α) (hs : Sorted cmp l) : Sorted cmp (drop cmp l x) := by
  unfold drop; split
  · exact List.Pairwise.sublist (List.eraseIdx_sublist _ _) hs
  · exact hs

theorem length_drop {α : Type} (cmp : α → α → Int) (l : List α) (x : α) : (drop cmp l x).length ≤ l.length := by
  unfold drop; split
  · exact (List.eraseIdx_sublist _ _).length_le
  · exact Nat.le_refl _

theorem mem_drop {α : Type} {cmp : α → α → Int} (hc : Lin cmp) (he : Exact cmp) {l : List α} {x a : α} (hs : Sorted cmp l) : a ∈ drop cmp l x ↔ a ∈ l ∧ a ≠ x := by
  unfold drop
  split
  · rename_i hh
    obtain ⟨y, hy, h0⟩ := has_at hc l x hs hh
    obtain rfl := (he _ _).1 h0
    obtain ⟨hi, hg⟩ := List.getElem?_eq_some_iff.1 hy
    generalize pos cmp l x = i at hi hg
    have e : l = l.take i ++ x :: l.drop (i + 1) := by
      conv => lhs; rw [← List.take_append_drop i l, List.drop_eq_getElem_cons hi, hg]
    have hs' := hs
    rw [e] at hs'
    obtain ⟨-, h2, h3⟩ := List.pairwise_append.1 hs'
    have h4 := (List.pairwise_cons.1 h2).1
    rw [List.eraseIdx_eq_take_drop_succ]
    have ne1 : ∀ b ∈ l.take i, b ≠ x := fun b hb e => by
      have := h3 b hb x (by simp); rw [e, (he x x).2 rfl] at this; omega
    have ne2 : ∀ b ∈ l.drop (i + 1), b ≠ x := fun b hb e => by
      have := h4 b hb; rw [e, (he x x).2 rfl] at this; omega
    have hm : a ∈ l ↔ a ∈ l.take i ∨ a = x ∨ a ∈ l.drop (i + 1) := by
      conv => lhs; rw [e]
      simp
    rw [hm, List.mem_append]
    constructor
    · rintro (h | h)
      · exact ⟨.inl h, ne1 a h⟩
      · exact ⟨.inr (.inr h), ne2 a h⟩
    · rintro ⟨h | h | h, hn⟩
      · exact .inl h
      · exact absurd h hn
      · exact .inr h
  · rename_i hh
    constructor
    · intro h
      exact ⟨h, fun e => hh ((has_iff he).2 (e ▸ h))⟩
    · exact fun h => h.1

end Go.Proofs.Ytmnpcpgdhaplaaa.V
