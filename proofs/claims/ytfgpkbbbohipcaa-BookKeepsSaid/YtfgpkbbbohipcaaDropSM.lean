/- What Clone and Drop of a set do. Conditions: the set lies in memory; at most 800000 members. -/
import Derived.Test.YtfgpkbbbohipcaaMg17
import Derived.Test.YtfgpkbbbohipcaaGetSM
namespace Go.Proofs.Ytfgpkbbbohipcaa.M
open Go Go.RowKit

def drop {α : Type} (cmp : α → α → Int) (l : List α) (x : α) : List α := if has cmp l x then l.eraseIdx (pos cmp l x) else l

theorem sorted_drop {α : Type} {cmp : α → α → Int} (l : List α) (x : α) (hs : Sorted cmp l) : Sorted cmp (drop cmp l x) := by
  unfold drop; split
  · exact List.Pairwise.sublist (List.eraseIdx_sublist _ _) hs
  · exact hs

theorem length_drop {α : Type} (cmp : α → α → Int) (l : List α) (x : α) : (drop cmp l x).length ≤ l.length := by
  unfold drop; split
  · exact (List.eraseIdx_sublist _ _).length_le
  · exact Nat.le_refl _

theorem mem_drop {α : Type} {cmp : α → α → Int} (hc : Lin cmp) (he : Exact cmp) {l : List α} {x a : α} (hs : Sorted cmp l) : a ∈ drop cmp l x ↔ a ∈ l ∧ a ≠ x := by
  unfold drop
  split
  · rename_i hh
    obtain ⟨y, hy, h0⟩ := has_at hc l x hs hh
    obtain rfl := (he _ _).1 h0
    obtain ⟨hi, hg⟩ := List.getElem?_eq_some_iff.1 hy
    generalize pos cmp l x = i at hi hg
    have e : l = l.take i ++ x :: l.drop (i + 1) := by
      conv => lhs; rw [← List.take_append_drop i l, List.drop_eq_getElem_cons hi, hg]
    have hs' := hs
    rw [e] at hs'
    obtain ⟨-, h2, h3⟩ := List.pairwise_append.1 hs'
    have h4 := (List.pairwise_cons.1 h2).1
    rw [List.eraseIdx_eq_take_drop_succ]
    have ne1 : ∀ b ∈ l.take i, b ≠ x := fun b hb e => by
      have := h3 b hb x (by simp); rw [e, (he x x).2 rfl] at this; omega
    have ne2 : ∀ b ∈ l.drop (i + 1), b ≠ x := fun b hb e => by
      have := h4 b hb; rw [e, (he x x).2 rfl] at this; omega
    have hm : a ∈ l ↔ a ∈ l.take i ∨ a = x ∨ a ∈ l.drop (i + 1) := by
      conv => lhs; rw [e]
      simp
    rw [hm, List.mem_append]
    constructor
    · rintro (h | h)
      · exact ⟨.inl h, ne1 a h⟩
      · exact ⟨.inr (.inr h), ne2 a h⟩
    · rintro ⟨h | h | h, hn⟩
      · exact .inl h
      · exact absurd h hn
      · exact .inr h
  · rename_i hh
    constructor
    · intro h
      exact ⟨h, fun e => hh ((has_iff he).2 (e ▸ h))⟩
    · exact fun h => h.1

theorem drop_T (w : World) (s : Nat) (L : List EntM) (x : EntM) (h : SetAt w s L) (hs : L.length ≤ 800000) :
    Calls Try.prog 60 #[.pointer (some ⟨s, 0, none⟩), .agg #[.int .i64 x.key.id.k, .string x.key.id.t, .int .i64 x.key.id.n, .int .i64 x.key.attr.k, .string x.key.attr.t, .int .i64 x.key.attr.n, .int .i64 x.key.val.k, .string x.key.val.t, .int .i64 x.key.val.n, .bool x.key.acc, .bool x.key.goal, .int .i64 x.key.tag, .int .i64 x.v]] w fun e w' => e = .returned (.bool (has entCmpM L x)) ∧ SetAt w' s (drop entCmpM L x) ∧ But s w w' := by
  have hB0 : Below w.heap.size w (w.alloc (.cells #[.int .i64 x.key.id.k, .string x.key.id.t, .int .i64 x.key.id.n, .int .i64 x.key.attr.k, .string x.key.attr.t, .int .i64 x.key.attr.n, .int .i64 x.key.val.k, .string x.key.val.t, .int .i64 x.key.val.n, .bool x.key.acc, .bool x.key.goal, .int .i64 x.key.tag, .int .i64 x.v] 110)) := (Below.refl _ w).alloc (Nat.le_refl _) _
  have hx0 := mem_new w x
  have hsz : w.heap.size < (w.alloc (.cells #[.int .i64 x.key.id.k, .string x.key.id.t, .int .i64 x.key.id.n, .int .i64 x.key.attr.k, .string x.key.attr.t, .int .i64 x.key.attr.n, .int .i64 x.key.val.k, .string x.key.val.t, .int .i64 x.key.val.n, .bool x.key.acc, .bool x.key.goal, .int .i64 x.key.tag, .int .i64 x.v] 110)).heap.size := by simp
  have hS0 := h.below hB0
  obtain ⟨t, p, h1, h2, rfl, h4⟩ := hS0
  have c1 := cell_of_one h1
  have H1 := Lib.hid h1
  clear h1
  by_cases hh : has entCmpM t.list x = true
  · have hput : drop entCmpM t.list x = t.list.eraseIdx (pos entCmpM t.list x) := by simp [drop, hh]
    obtain ⟨y, hy, -⟩ := has_at entCmpM_lin t.list x h4 hh
    have hpl := (List.getElem?_eq_some_iff.1 hy).1
    have Hput := Lib.hid hput
    have Hpl := Lib.hid hpl
    clear hput hy hpl
    go_enter Try.func60, Try.ntmps60
    go_wp2_with fail
    generalize (w.alloc (.cells #[.int .i64 x.key.id.k, .string x.key.id.t, .int .i64 x.key.id.n, .int .i64 x.key.attr.k, .string x.key.attr.t, .int .i64 x.key.attr.n, .int .i64 x.key.val.k, .string x.key.val.t, .int .i64 x.key.val.n, .bool x.key.acc, .bool x.key.goal, .int .i64 x.key.tag, .int .i64 x.v] 110)) = W0 at hB0 hx0 hsz h2 c1 H1 ⊢
    refine (find_T t _ p x h2 h4 (by unfold Tr.size; omega)).mono ?_
    rintro e w1 ⟨rfl, hB1⟩
    go_wp2_with fail
    refine (remove_T t w1 p _ _ (h2.ext hB1) rfl (by unfold Tr.size; exact Hpl.out) (by unfold Tr.size; omega)).mono ?_
    rintro e w2 ⟨t2, p2, rfl, ht2, hL2, hB2⟩
    have hC2 := hB1.trans (hB2.mono hB1.size)
    have k1 := (hC2.block s (lt_of_block H1.out)).trans H1.out
    have d1 := cell_of_one k1
    have f1 := free_of_one k1
    have K1 := Lib.hid k1
    have HL2 := Lib.hid hL2
    clear k1 hL2
    go_wp2_with fail
    go_ret
    have hB := hB0.trans (hC2.mono hB0.size)
    refine ⟨by simp [hh], ⟨t2, p2, one_setCell K1.out, ht2.setCell K1.out (by decide) _, ?_, ?_⟩, (But.of_below hB).setCell _ _⟩
    · rw [Hput.out, HL2.out]
    · exact sorted_drop _ _ h4
  · have hh : has entCmpM t.list x = false := by simpa using hh
    have hput : drop entCmpM t.list x = t.list := by simp [drop, hh]
    have Hput := Lib.hid hput
    clear hput
    go_enter Try.func60, Try.ntmps60
    go_wp2_with fail
    generalize (w.alloc (.cells #[.int .i64 x.key.id.k, .string x.key.id.t, .int .i64 x.key.id.n, .int .i64 x.key.attr.k, .string x.key.attr.t, .int .i64 x.key.attr.n, .int .i64 x.key.val.k, .string x.key.val.t, .int .i64 x.key.val.n, .bool x.key.acc, .bool x.key.goal, .int .i64 x.key.tag, .int .i64 x.v] 110)) = W0 at hB0 hx0 hsz h2 c1 H1 ⊢
    refine (find_T t _ p x h2 h4 (by unfold Tr.size; omega)).mono ?_
    rintro e w1 ⟨rfl, hB1⟩
    go_wp2_with fail
    go_ret
    have hB := hB0.trans (hB1.mono hB0.size)
    refine ⟨by simp [hh], ?_, But.of_below hB⟩
    rw [Hput.out]
    exact h.below hB

end Go.Proofs.Ytfgpkbbbohipcaa.M
