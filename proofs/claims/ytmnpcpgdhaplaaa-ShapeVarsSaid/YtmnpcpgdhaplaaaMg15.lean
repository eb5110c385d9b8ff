/- What Get and At of a set answer where there is nothing. Conditions: the set lies in memory; at most 800000 members.
What remove of a tree's nodes and Drop of a set do. Conditions: the tree, the set lie in memory; at most 800000 members.
What Clone and Drop of a set do. Conditions: the set lies in memory; at most 800000 members.
What newScope, learn, knows, allows, inner of a scope do. Conditions: the scope lies in memory; at most 10000 variables. -/
import Derived.Test.YtmnpcpgdhaplaaaMg14
namespace Go.Proofs.Ytmnpcpgdhaplaaa.V
open Go Go.RowKit

set_option maxHeartbeats 800000 in
theorem get_no_T (w : World) (s : Nat) (L : List VarV) (x : VarV) (h : SetAt w s L) (hs : L.length ≤ 800000) (hh : has varCmp L x = false) :
    Calls Try.prog 121 #[.pointer (some ⟨s, 0, none⟩), .agg #[.string x.name, .int .i64 x.nth]] w fun e w' => e = .returned (.tuple #[.agg #[.string ⟨#[]⟩, .int .i64 0], .bool false]) ∧ Below w.heap.size w w' := by
  have hB0 : Below w.heap.size w ((w.alloc (.cells #[.string x.name, .int .i64 x.nth] 121)).alloc (.cells #[.string ⟨#[]⟩, .int .i64 0] 121)) := ((Below.refl _ w).alloc (Nat.le_refl _) _).alloc (by simp) _
  have hz0 : ((w.alloc (.cells #[.string x.name, .int .i64 x.nth] 121)).alloc (.cells #[.string ⟨#[]⟩, .int .i64 0] 121)).heap[w.heap.size + 1]? = some (.cells #[.string ⟨#[]⟩, .int .i64 0] 121 (0, 0)) := by simpa using heap_alloc_new (w.alloc (.cells #[.string x.name, .int .i64 x.nth] 121)) (.cells #[.string ⟨#[]⟩, .int .i64 0] 121)
  obtain ⟨t, p, h1, h2, rfl, h4⟩ := h.below hB0
  have c1 := cell_of_one h1
  have Hh := Lib.hid hh
  clear h1 h
  go_enter Try.func121, Try.ntmps121
  go_wp2_with fail
  refine (find_T t _ p x h2 h4 (by unfold Tr.size; omega)).mono ?_
  rw [Hh.out]
  rintro e w1 ⟨rfl, hB1⟩
  have hB := hB0.trans (hB1.mono hB0.size)
  have hBz : Below w1.heap.size w1 (w1.alloc (.cells #[.string ⟨#[]⟩, .int .i64 0] 121)) := (Below.refl _ w1).alloc (Nat.le_refl _) _
  have hb1 : (w1.alloc (.cells #[.string ⟨#[]⟩, .int .i64 0] 121)).heap[w.heap.size + 1]? = _ := (hBz.block _ (lt_of_block ((hB1.block _ (lt_of_block hz0)).trans hz0))).trans ((hB1.block _ (lt_of_block hz0)).trans hz0)
  have hbn := heap_alloc_new w1 (.cells #[.string ⟨#[]⟩, .int .i64 0] 121)
  have hz1 := zero_cells hb1
  have hz2 := zero_cells hbn
  have Hb1 := Lib.hid hb1
  have hB2 := hB.trans (hBz.mono hB.size)
  have hszz : w.heap.size + 1 < (w1.alloc (.cells #[.string ⟨#[]⟩, .int .i64 0] 121)).heap.size := lt_of_block hb1
  clear hb1 hz0 hbn
  go_wp2_with fail
  have hm : (((w1.alloc (.cells #[.string ⟨#[]⟩, .int .i64 0] 121)).setCell ⟨w.heap.size + 1, 0, none⟩ (.string ⟨#[]⟩)).setCell ⟨w.heap.size + 1, 1, none⟩ (.int .i64 0)).cell? ⟨w.heap.size + 1, 0, none⟩ = some (.string ⟨#[]⟩) ∧ (((w1.alloc (.cells #[.string ⟨#[]⟩, .int .i64 0] 121)).setCell ⟨w.heap.size + 1, 0, none⟩ (.string ⟨#[]⟩)).setCell ⟨w.heap.size + 1, 1, none⟩ (.int .i64 0)).cell? ⟨w.heap.size + 1, 1, none⟩ = some (.int .i64 0) := mem_sto (w1.alloc (.cells #[.string ⟨#[]⟩, .int .i64 0] 121)) (w.heap.size + 1) (⟨⟨#[]⟩, 0⟩ : VarV) Hb1.out
  have hB3 : Below w.heap.size w (((w1.alloc (.cells #[.string ⟨#[]⟩, .int .i64 0] 121)).setCell ⟨w.heap.size + 1, 0, none⟩ (.string ⟨#[]⟩)).setCell ⟨w.heap.size + 1, 1, none⟩ (.int .i64 0)) := below_but hB2 (but_sto (w1.alloc (.cells #[.string ⟨#[]⟩, .int .i64 0] 121)) (w.heap.size + 1) (⟨⟨#[]⟩, 0⟩ : VarV)) (by omega) (by have := hB2.size; omega)
  generalize (((w1.alloc (.cells #[.string ⟨#[]⟩, .int .i64 0] 121)).setCell ⟨w.heap.size + 1, 0, none⟩ (.string ⟨#[]⟩)).setCell ⟨w.heap.size + 1, 1, none⟩ (.int .i64 0)) = W at hm hB3 ⊢
  exact bodyPost_ret (v := .tuple #[.agg #[.string ⟨#[]⟩, .int .i64 0], .bool false]) (by simp [results, Try.results121, go_sem, hm]) rfl ⟨rfl, hB3⟩

end Go.Proofs.Ytmnpcpgdhaplaaa.V

namespace Go.Proofs.Ytmnpcpgdhaplaaa.V
open Go Go.RowKit

/-- A tree with the members L, old or new; nothing that was there has changed. -/
def Left (w : World) (L : List VarV) (e : Ending) (w' : World) : Prop :=
  ∃ t p, e = .returned (.pointer p) ∧ LT w' t p ∧ t.list = L ∧ Below w.heap.size w w'

theorem erase_less {α : Type} (l r : List α) (i : Nat) (y : α) (h : i < l.length) : l.eraseIdx i ++ y :: r = (l ++ y :: r).eraseIdx i := (List.eraseIdx_append_of_lt_length h _).symm
theorem erase_more {α : Type} (l r : List α) (j : Nat) (y : α) : l ++ y :: r.eraseIdx j = (l ++ y :: r).eraseIdx (l.length + 1 + j) := by
  rw [List.eraseIdx_append_of_length_le (by omega), show l.length + 1 + j - l.length = j + 1 by omega]; rfl
theorem erase_here {α : Type} (l r : List α) (y : α) : l ++ r = (l ++ y :: r).eraseIdx l.length := by
  rw [List.eraseIdx_append_of_length_le (by omega)]; simp

end Go.Proofs.Ytmnpcpgdhaplaaa.V

namespace Go.Proofs.Ytmnpcpgdhaplaaa.V
open Go Go.RowKit

theorem clone_T (w : World) (s : Nat) (L : List VarV) (h : SetAt w s L) :
    Calls Try.prog 118 #[.pointer (some ⟨s, 0, none⟩)] w fun e w' => e = .returned (.pointer (some ⟨w.heap.size, 0, none⟩)) ∧ SetAt w' w.heap.size L ∧ Below w.heap.size w w' := by
  obtain ⟨t, p, h1, h2, rfl, h4⟩ := h
  have c1 := cell_of_one h1
  have hB0 : Below w.heap.size w (w.alloc (.cells #[.pointer p] 134)) := (Below.refl _ w).alloc (Nat.le_refl _) _
  clear h1
  go_enter Try.func118, Try.ntmps118
  go_wp2_with fail
  go_ret
  exact ⟨rfl, ⟨t, p, heap_alloc_new w _, h2.ext hB0, rfl, h4⟩, hB0⟩

def drop {α : Type} (cmp : α → α → Int) (l : List α) (x : α) : List α := if has cmp l x then l.eraseIdx (pos cmp l x) else l

theorem sorted_drop {α : Type} {cmp : α → α → Int} (l : List α) (x : α) (hs : Sorted cmp l) : Sorted cmp (drop cmp l x) := by
  unfold drop; split
  · exact List.Pairwise.sublist (List.eraseIdx_sublist _ _) hs
  · exact hs

theorem length_drop {α : Type} (cmp : α → α → Int) (l : List α) (x : α) : (drop cmp l x).length ≤ l.length := by
  unfold drop; split
  · exact (List.eraseIdx_sublist _ _).length_le
  · exact Nat.le_refl _

theorem mem_drop {α : Type} {cmp : α → α → Int} (hc : Lin cmp) (he : Exact cmp) {l : List α} {x a : α} (hs : Sorted cmp l) : a ∈ drop cmp l x ↔ a ∈ l ∧ a ≠ x := by
  unfold drop
  split
  · rename_i hh
    obtain ⟨y, hy, h0⟩ := has_at hc l x hs hh
    obtain rfl := (he _ _).1 h0
    obtain ⟨hi, hg⟩ := List.getElem?_eq_some_iff.1 hy
    generalize pos cmp l x = i at hi hg
    have e : l = l.take i ++ x :: l.drop (i + 1) := by
      conv => lhs; rw [← List.take_append_drop i l, List.drop_eq_getElem_cons hi, hg]
    have hs' := hs
    rw [e] at hs'
    obtain ⟨-, h2, h3⟩ := List.pairwise_append.1 hs'
    have h4 := (List.pairwise_cons.1 h2).1
    rw [List.eraseIdx_eq_take_drop_succ]
    have ne1 : ∀ b ∈ l.take i, b ≠ x := fun b hb e => by
      have := h3 b hb x (by simp); rw [e, (he x x).2 rfl] at this; omega
    have ne2 : ∀ b ∈ l.drop (i + 1), b ≠ x := fun b hb e => by
      have := h4 b hb; rw [e, (he x x).2 rfl] at this; omega
    have hm : a ∈ l ↔ a ∈ l.take i ∨ a = x ∨ a ∈ l.drop (i + 1) := by
      conv => lhs; rw [e]
      simp
    rw [hm, List.mem_append]
    constructor
    · rintro (h | h)
      · exact ⟨.inl h, ne1 a h⟩
      · exact ⟨.inr (.inr h), ne2 a h⟩
    · rintro ⟨h | h | h, hn⟩
      · exact .inl h
      · exact absurd h hn
      · exact .inr h
  · rename_i hh
    constructor
    · intro h
      exact ⟨h, fun e => hh ((has_iff he).2 (e ▸ h))⟩
    · exact fun h => h.1

end Go.Proofs.Ytmnpcpgdhaplaaa.V

namespace Go.Proofs.Ytmnpcpgdhaplaaa
open Go Go.RowKit

/-- The set in block s holds the variables K. -/
def Sc (w : World) (s : Nat) (K : List ByteArray) : Prop := V.SetAt w s (setOf K) ∧ (setOf K).length = K.length

theorem Sc.below {w w' : World} {s : Nat} {K : List ByteArray} (h : Sc w s K) (hB : Below w.heap.size w w') : Sc w' s K := ⟨h.1.below hB, h.2⟩
theorem Sc.lt {w : World} {s : Nat} {K : List ByteArray} (h : Sc w s K) : s < w.heap.size := h.1.lt

theorem newScope_T (w : World) : Calls Try.prog 75 #[] w fun e w' => ∃ s, e = .returned (.agg #[.pointer (some ⟨s, 0, none⟩)]) ∧ w.heap.size ≤ s ∧ Sc w' s [] ∧ Below w.heap.size w w' := by
  have hB0 : Below w.heap.size w (w.alloc (.cells #[.pointer none] 85)) := (Below.refl _ w).alloc (Nat.le_refl _) _
  have hb0 := heap_alloc_new w (.cells #[.pointer none] 85)
  go_enter Try.func75, Try.ntmps75
  go_wp2_with fail
  generalize (w.alloc (.cells #[.pointer none] 85)) = W0 at hB0 hb0 ⊢
  refine (V.new_T W0 _ [] ⟨none, 0, rfl, .inl rfl⟩ (by simp)).mono ?_
  rintro e w1 ⟨s, rfl, hs, hS, hB1⟩
  have hb1 := (hB1.block _ (lt_of_block hb0)).trans hb0
  have q0 := cell_of_one hb1
  have q1 := free_of_one hb1
  have hC := hB0.trans (hB1.mono hB0.size)
  have hbs : (w1.setCell ⟨w.heap.size, 0, none⟩ (.pointer (some ⟨s, 0, none⟩))).heap[w.heap.size]? = some (.cells #[.pointer (some ⟨s, 0, none⟩)] 85 (0, 0)) := by
    have := V.set_block (o := 0) hb1 (.pointer (some ⟨s, 0, none⟩))
    simpa using this
  have hb : But w.heap.size w1 (w1.setCell ⟨w.heap.size, 0, none⟩ (.pointer (some ⟨s, 0, none⟩))) := (But.refl _ _).setCell 0 _
  have hne : w.heap.size ≠ s := by have := lt_of_block hb0; omega
  have hS2 := hS.but hb hne hb1 (by decide)
  have hC2 := V.below_but hC hb (Nat.le_refl _) hC.size
  have Hc := Lib.hid (cell_of_one hbs)
  have HS := Lib.hid hS2
  have HC := Lib.hid hC2
  clear hbs hb hS2 hC2
  go_wp2_with fail
  have hc := Hc.out
  exact bodyPost_ret (v := .agg #[.pointer (some ⟨s, 0, none⟩)]) (by simp [results, Try.results75, go_sem, hc]) rfl ⟨s, rfl, Nat.le_trans hB0.size hs, ⟨by simpa [setOf] using HS.out, by simp [setOf]⟩, HC.out⟩

theorem boxSc (w : World) (s : Nat) : Below w.heap.size w (w.alloc (.cells #[.pointer (some ⟨s, 0, none⟩)] 85)) := (Below.refl _ w).alloc (Nat.le_refl _) _

set_option maxHeartbeats 800000 in
theorem learn_T (w : World) (s : Nat) (K : List ByteArray) (n : ByteArray) (h : Sc w s K) (hK : K.length ≤ 10000) :
    Calls Try.prog 119 #[.agg #[.pointer (some ⟨s, 0, none⟩)], .string n] w fun e w' => (∃ v, e = .returned v) ∧ Sc w' s (learn K n) ∧ But s w w' := by
  have hB0 := boxSc w s
  have hb0 := heap_alloc_new w (.cells #[.pointer (some ⟨s, 0, none⟩)] 85)
  have h0 := h.below hB0
  have hlt := h.lt
  go_enter Try.func119, Try.ntmps119
  go_wp2_with fail
  generalize (w.alloc (.cells #[.pointer (some ⟨s, 0, none⟩)] 85)) = W0 at hB0 hb0 h0 ⊢
  have q0 := cell_of_one hb0
  have hlen := V.len_T W0.drew s _ (h0.1.below (Below.refl _ _).drew)
  rw [h.2] at hlen
  have hput := V.put_T W0.drew s (setOf K) ⟨n, (K.length : Int)⟩ (h0.1.below (Below.refl _ _).drew) (by rw [h.2]; omega)
  rw [put_learn] at hput
  have hq : ∀ W, But s W0.drew W → W.cell? ⟨w.heap.size, 0, none⟩ = some (.pointer (some ⟨s, 0, none⟩)) := fun W hb => by
    have e := (hb.block w.heap.size (lt_of_block hb0) (by omega)).trans hb0
    exact cell_of_one e
  dsimp only at hput
  go_region_held3 (fun W => W.cell? ⟨w.heap.size, 0, none⟩ = some (.pointer (some ⟨s, 0, none⟩)))
    (first | go_keep | assumption)
    (first
      | ((with_reducible refine hlen.mono ?_); rintro e w1 ⟨rfl, rfl⟩; have hh0 := hq _ (But.refl _ _))
      | ((with_reducible refine hput.mono ?_); rintro e w2 ⟨rfl, hS2, hb2⟩; have hh2 := hq w2 hb2)
      | fail "no arm")
  go_wp2_with fail
  go_end0
  exact ⟨⟨_, rfl⟩, ⟨hS2, learn_len h.2 n⟩, (But.of_below hB0).trans ((But.of_below (Below.refl _ _).drew).trans hb2)⟩

set_option maxHeartbeats 800000 in
theorem knows_T (w : World) (s : Nat) (K : List ByteArray) (n : ByteArray) (h : Sc w s K) (hK : K.length ≤ 10000) :
    Calls Try.prog 111 #[.agg #[.pointer (some ⟨s, 0, none⟩)], .string n] w fun e w' => e = .returned (.bool (knowsB K n)) ∧ Below w.heap.size w w' := by
  have hB0 := boxSc w s
  have h0 := h.below hB0
  have hs : (setOf K).length ≤ 800000 := by rw [h.2]; omega
  cases hh : has varCmp (setOf K) ⟨n, 0⟩
  · have hg := V.get_no_T _ s (setOf K) ⟨n, 0⟩ h0.1 hs hh
    have Hk : Hid (knowsB K n = false) := Lib.hid (by rw [← has_setOf K ⟨n, 0⟩]; exact hh)
    clear hh
    dsimp only at hg
    go_enter Try.func111, Try.ntmps111
    go_wp2_with fail
    refine hg.mono ?_
    rintro e w1 ⟨rfl, hB1⟩
    have hC := hB0.trans (hB1.mono hB0.size)
    go_wp2_with fail
    go_ret
    exact ⟨by rw [Hk.out]; rfl, hC.alloc hC.size _⟩
  · have hg := V.get_T _ s (setOf K) ⟨n, 0⟩ h0.1 hs hh
    have Hk : Hid (knowsB K n = true) := Lib.hid (by rw [← has_setOf K ⟨n, 0⟩]; exact hh)
    clear hh
    dsimp only at hg
    go_enter Try.func111, Try.ntmps111
    go_wp2_with fail
    refine hg.mono ?_
    rintro e w1 ⟨⟨y, rfl, -⟩, hB1⟩
    have hC := hB0.trans (hB1.mono hB0.size)
    go_wp2_with fail
    go_ret
    exact ⟨by rw [Hk.out]; rfl, hC.alloc hC.size _⟩

set_option maxHeartbeats 800000 in
theorem allows_T (w : World) (s : Nat) (K : List ByteArray) (n : ByteArray) (h : Sc w s K) (hK : K.length ≤ 10000) :
    Calls Try.prog 98 #[.agg #[.pointer (some ⟨s, 0, none⟩)], .string n] w fun e w' => e = .returned (.bool (allowsB K n)) ∧ Below w.heap.size w w' := by
  have hB0 := boxSc w s
  have hkn := knows_T _ s K n (h.below hB0) hK
  cases he : n.toList.isEmpty
  · have He := Lib.hid he
    have he2 : ¬ n.toList = [] := by intro h; rw [h] at he; cases he
    go_enter Try.func98, Try.ntmps98
    go_wp2_with fail
    refine hkn.mono ?_
    rintro e w1 ⟨rfl, hB1⟩
    go_wp2_with fail
    go_ret
    exact ⟨by rw [allowsB, He.out]; rfl, hB0.trans (hB1.mono hB0.size)⟩
  · have He := Lib.hid he
    have he2 : n.toList = [] := by simpa using he
    go_enter Try.func98, Try.ntmps98
    go_wp2_with fail
    go_ret
    exact ⟨by rw [allowsB, He.out]; rfl, hB0⟩

theorem inner_T' (w : World) (s : Nat) (K : List ByteArray) (h : Sc w s K) :
    Calls Try.prog 109 #[.agg #[.pointer (some ⟨s, 0, none⟩)]] w fun e w' => ∃ s', e = .returned (.agg #[.pointer (some ⟨s', 0, none⟩)]) ∧ w.heap.size ≤ s' ∧ Sc w' s' K ∧ Below w.heap.size w w' := by
  have hB0 : Below w.heap.size w ((w.alloc (.cells #[.pointer (some ⟨s, 0, none⟩)] 85)).alloc (.cells #[.pointer none] 85)) := ((Below.refl _ w).alloc (Nat.le_refl _) _).alloc (by simp) _
  have hb0 := heap_alloc_new (w.alloc (.cells #[.pointer (some ⟨s, 0, none⟩)] 85)) (.cells #[.pointer none] 85)
  rw [World.size_alloc] at hb0
  have h0 := h.below hB0
  have hsz : w.heap.size + 1 < ((w.alloc (.cells #[.pointer (some ⟨s, 0, none⟩)] 85)).alloc (.cells #[.pointer none] 85)).heap.size := by simp
  go_enter Try.func109, Try.ntmps109
  go_wp2_with fail
  generalize ((w.alloc (.cells #[.pointer (some ⟨s, 0, none⟩)] 85)).alloc (.cells #[.pointer none] 85)) = W0 at hB0 hb0 h0 hsz ⊢
  refine (V.clone_T W0 s _ h0.1).mono ?_
  rintro e w1 ⟨rfl, hS, hB1⟩
  have hb1 := (hB1.block _ (lt_of_block hb0)).trans hb0
  have q0 := cell_of_one hb1
  have q1 := free_of_one hb1
  have hC := hB0.trans (hB1.mono hB0.size)
  have hbs : (w1.setCell ⟨w.heap.size + 1, 0, none⟩ (.pointer (some ⟨W0.heap.size, 0, none⟩))).heap[w.heap.size + 1]? = some (.cells #[.pointer (some ⟨W0.heap.size, 0, none⟩)] 85 (0, 0)) := by
    have := V.set_block (o := 0) hb1 (.pointer (some ⟨W0.heap.size, 0, none⟩))
    simpa using this
  have hb : But (w.heap.size + 1) w1 (w1.setCell ⟨w.heap.size + 1, 0, none⟩ (.pointer (some ⟨W0.heap.size, 0, none⟩))) := (But.refl _ _).setCell 0 _
  have hS2 := hS.but hb (by omega) hb1 (by decide)
  have hC2 := V.below_but hC hb (Nat.le_succ _) hC.size
  have Hc := Lib.hid (cell_of_one hbs)
  have HS := Lib.hid hS2
  have HC := Lib.hid hC2
  clear hbs hb hS2 hC2
  go_wp2_with fail
  have hc := Hc.out
  exact bodyPost_ret (v := .agg #[.pointer (some ⟨W0.heap.size, 0, none⟩)]) (by simp [results, Try.results109, go_sem, hc]) rfl ⟨W0.heap.size, rfl, hB0.size, ⟨HS.out, h.2⟩, HC.out⟩

end Go.Proofs.Ytmnpcpgdhaplaaa
