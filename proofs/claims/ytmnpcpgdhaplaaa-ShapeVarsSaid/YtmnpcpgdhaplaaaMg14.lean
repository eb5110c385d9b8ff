/- What Len, Place, Put, Get and At of a set answer. Conditions: the set lies in memory; at most 800000 members.
What Get, At and New of a set answer. Conditions: the set, the list lie in memory; at most 800000 members.
What At of a set answers. Conditions: the set lies in memory; at most 800000 members; the index is in range.
What New of a set answers. Conditions: the list lies in memory; at most 700000 members.
Which variables are known, plainly. Conditions: none. -/
import Derived.Test.YtmnpcpgdhaplaaaMg12
import Derived.Test.YtmnpcpgdhaplaaaFindSV
import Derived.Deep.LoopGhost
import Derived.Test.YtmnpcpgdhaplaaaMg6
namespace Go.Proofs.Ytmnpcpgdhaplaaa.V
open Go Go.RowKit

/-- The set in block s has the members L. -/
def SetAt (w : World) (s : Nat) (L : List VarV) : Prop :=
  ∃ t p, w.heap[s]? = some (.cells #[.pointer p] 134 (0, 0)) ∧ LT w t p ∧ t.list = L ∧ Sorted varCmp L

theorem SetAt.lt {w : World} {s : Nat} {L : List VarV} (h : SetAt w s L) : s < w.heap.size := by
  obtain ⟨t, p, h1, -⟩ := h
  exact lt_of_block h1

theorem SetAt.below {w w' : World} {s : Nat} {L : List VarV} (h : SetAt w s L) (hB : Below w.heap.size w w') : SetAt w' s L := by
  obtain ⟨t, p, h1, h2, h3⟩ := h
  exact ⟨t, p, (hB.block s (lt_of_block h1)).trans h1, h2.ext hB, h3⟩

/-- Another set, or anything of another type, is changed. -/
theorem SetAt.but {w w' : World} {s r : Nat} {L : List VarV} (h : SetAt w s L) (hb : But r w w') (hr : r ≠ s) {c : Array Value} {T : TypeId} {f : Nat × Nat} (ha : w.heap[r]? = some (.cells c T f)) (hT : T ≠ 142) : SetAt w' s L := by
  obtain ⟨t, p, h1, h2, h3⟩ := h
  exact ⟨t, p, (hb.block s (lt_of_block h1) (Ne.symm hr)).trans h1, h2.but hb ha hT, h3⟩

set_option maxHeartbeats 400000 in
theorem len_T (w : World) (s : Nat) (L : List VarV) (h : SetAt w s L) :
    Calls Try.prog 80 #[.pointer (some ⟨s, 0, none⟩)] w fun e w' => e = .returned (.int .i64 L.length) ∧ w = w' := by
  obtain ⟨t, p, h1, h2, h3, -⟩ := h
  have c1 := cell_of_one h1
  have H3 := Lib.hid h3
  clear h1 h3
  go_enter Try.func80, Try.ntmps80
  go_wp2_with fail
  refine (count_T _ _ _ h2).mono ?_
  rintro e w' ⟨rfl, rfl⟩
  go_wp2_with fail
  go_ret
  exact ⟨by rw [← H3.out]; rfl, rfl⟩

theorem put_T (w : World) (s : Nat) (L : List VarV) (x : VarV) (h : SetAt w s L) (hs : L.length ≤ 800000) :
    Calls Try.prog 108 #[.pointer (some ⟨s, 0, none⟩), .agg #[.string x.name, .int .i64 x.nth]] w fun e w' => e = .returned (.bool (!has varCmp L x)) ∧ SetAt w' s (put varCmp L x) ∧ But s w w' := by
  have hB0 : Below w.heap.size w (w.alloc (.cells #[.string x.name, .int .i64 x.nth] 121)) := (Below.refl _ w).alloc (Nat.le_refl _) _
  have hx0 := mem_new w x
  have hsz : w.heap.size < (w.alloc (.cells #[.string x.name, .int .i64 x.nth] 121)).heap.size := by simp
  have hS0 := h.below hB0
  obtain ⟨t, p, h1, h2, rfl, h4⟩ := hS0
  have c1 := cell_of_one h1
  have H1 := Lib.hid h1
  clear h1
  by_cases hh : has varCmp t.list x = true
  · have hput : put varCmp t.list x = t.list := by simp [put, hh]
    have Hput := Lib.hid hput
    clear hput
    go_enter Try.func108, Try.ntmps108
    go_wp2_with fail
    generalize (w.alloc (.cells #[.string x.name, .int .i64 x.nth] 121)) = W0 at hB0 hx0 hsz h2 c1 H1 ⊢
    refine (find_T t _ p x h2 h4 (by unfold Tr.size; omega)).mono ?_
    rintro e w1 ⟨rfl, hB1⟩
    go_wp2_with fail
    go_ret
    have hB := hB0.trans (hB1.mono hB0.size)
    refine ⟨by simp [hh], ?_, But.of_below hB⟩
    rw [Hput.out]
    exact h.below hB
  · have hh : has varCmp t.list x = false := by simpa using hh
    have hput : put varCmp t.list x = ins varCmp t.list x := by simp [put, hh]
    have Hput := Lib.hid hput
    clear hput
    go_enter Try.func108, Try.ntmps108
    go_wp2_with fail
    generalize (w.alloc (.cells #[.string x.name, .int .i64 x.nth] 121)) = W0 at hB0 hx0 hsz h2 c1 H1 ⊢
    refine (find_T t _ p x h2 h4 (by unfold Tr.size; omega)).mono ?_
    rintro e w1 ⟨rfl, hB1⟩
    have hx1 := mem_below hB1 hsz hx0
    go_wp2_with fail
    refine (insert_T t w1 p _ _ x (h2.ext hB1) rfl (pos_le _ _) (by unfold Tr.size; omega)).mono ?_
    rintro e w2 ⟨t2, b2, rfl, ht2, hL2, hB2⟩
    have hC2 := hB1.trans (hB2.mono hB1.size)
    have k1 := (hC2.block s (lt_of_block H1.out)).trans H1.out
    have d1 := cell_of_one k1
    have f1 := free_of_one k1
    have K1 := Lib.hid k1
    have HL2 := Lib.hid hL2
    clear k1 hL2
    go_wp2_with fail
    go_ret
    have hB := hB0.trans (hC2.mono hB0.size)
    refine ⟨by simp [hh], ⟨t2, some ⟨b2, 0, none⟩, one_setCell K1.out, ht2.setCell K1.out (by decide) _, ?_, ?_⟩, (But.of_below hB).setCell _ _⟩
    · rw [Hput.out, HL2.out]; rfl
    · rw [Hput.out]; exact sorted_ins varCmp_lin _ _ h4 hh

end Go.Proofs.Ytmnpcpgdhaplaaa.V

namespace Go.Proofs.Ytmnpcpgdhaplaaa.V
open Go Go.RowKit

set_option maxHeartbeats 800000

theorem zero_cells {w : World} {b : Nat} (h : w.heap[b]? = some (.cells #[.string ⟨#[]⟩, .int .i64 0] 121 (0, 0))) : w.cell? ⟨b, 0, none⟩ = some (.string ⟨#[]⟩) ∧ w.cell? ⟨b, 1, none⟩ = some (.int .i64 0) ∧ w.frozen? ⟨b, 0, none⟩ = false ∧ w.frozen? ⟨b, 1, none⟩ = false := by
  simp [World.cell?, World.frozen?, h]

theorem set_block {w : World} {b o : Nat} {c : Array Value} {T : TypeId} {f : Nat × Nat} (h : w.heap[b]? = some (.cells c T f)) (v : Value) : (w.setCell ⟨b, o, none⟩ v).heap[b]? = some (.cells (c.setIfInBounds o v) T f) := by
  have hlt := lt_of_block h
  have h' : w.heap[b] = .cells c T f := by simpa [Array.getElem?_eq_getElem hlt] using h
  show (w.heap.modify b _)[b]? = _
  rw [Array.getElem?_eq_getElem (by simpa using hlt), Array.getElem_modify_self, h']
  rfl

theorem sto_block (w : World) (b : Nat) (x : VarV) (h : w.heap[b]? = some (.cells #[.string ⟨#[]⟩, .int .i64 0] 121 (0, 0))) : ((w.setCell ⟨b, 0, none⟩ (.string x.name)).setCell ⟨b, 1, none⟩ (.int .i64 x.nth)).heap[b]? = some (.cells #[.string x.name, .int .i64 x.nth] 121 (0, 0)) := by
  have := set_block (o := 1) (set_block (o := 0) (h) (.string x.name)) (.int .i64 x.nth)
  simpa using this

theorem below_but {B s : Nat} {w W W' : World} (h : Below B w W) (hb : But s W W') (hs : B ≤ s) (hB : B ≤ W.heap.size) : Below B w W' :=
  ⟨hb.os.trans h.os, hb.tape.trans h.tape, hb.output.trans h.output, Nat.le_trans h.size hb.size, fun k hk => (hb.block k (by omega) (by omega)).trans (h.block k hk)⟩

theorem mem_sto (w : World) (b : Nat) (x : VarV) (h : w.heap[b]? = some (.cells #[.string ⟨#[]⟩, .int .i64 0] 121 (0, 0))) : ((w.setCell ⟨b, 0, none⟩ (.string x.name)).setCell ⟨b, 1, none⟩ (.int .i64 x.nth)).cell? ⟨b, 0, none⟩ = some (.string x.name) ∧ ((w.setCell ⟨b, 0, none⟩ (.string x.name)).setCell ⟨b, 1, none⟩ (.int .i64 x.nth)).cell? ⟨b, 1, none⟩ = some (.int .i64 x.nth) := by
  have h' := sto_block w b x h
  generalize ((w.setCell ⟨b, 0, none⟩ (.string x.name)).setCell ⟨b, 1, none⟩ (.int .i64 x.nth)) = W at h' ⊢
  simp [World.cell?, h']

theorem but_sto (w : World) (b : Nat) (x : VarV) : But b w ((w.setCell ⟨b, 0, none⟩ (.string x.name)).setCell ⟨b, 1, none⟩ (.int .i64 x.nth)) := by
  repeat (with_reducible refine But.setCell ?_ _ _)
  exact But.refl _ _

set_option maxHeartbeats 800000 in
theorem get_T (w : World) (s : Nat) (L : List VarV) (x : VarV) (h : SetAt w s L) (hs : L.length ≤ 800000) (hh : has varCmp L x = true) :
    Calls Try.prog 121 #[.pointer (some ⟨s, 0, none⟩), .agg #[.string x.name, .int .i64 x.nth]] w fun e w' => (∃ y, e = .returned (.tuple #[.agg #[.string y.name, .int .i64 y.nth], .bool true]) ∧ L[pos varCmp L x]? = some y) ∧ Below w.heap.size w w' := by
  have hB0 : Below w.heap.size w ((w.alloc (.cells #[.string x.name, .int .i64 x.nth] 121)).alloc (.cells #[.string ⟨#[]⟩, .int .i64 0] 121)) := ((Below.refl _ w).alloc (Nat.le_refl _) _).alloc (by simp) _
  have hz0 : ((w.alloc (.cells #[.string x.name, .int .i64 x.nth] 121)).alloc (.cells #[.string ⟨#[]⟩, .int .i64 0] 121)).heap[w.heap.size + 1]? = some (.cells #[.string ⟨#[]⟩, .int .i64 0] 121 (0, 0)) := by simpa using heap_alloc_new (w.alloc (.cells #[.string x.name, .int .i64 x.nth] 121)) (.cells #[.string ⟨#[]⟩, .int .i64 0] 121)
  obtain ⟨t, p, h1, h2, rfl, h4⟩ := h.below hB0
  obtain ⟨y, hy, -⟩ := has_at varCmp_lin t.list x h4 hh
  have Hy := Lib.hid hy
  have c1 := cell_of_one h1
  clear h1 h hy
  go_enter Try.func121, Try.ntmps121
  go_wp2_with fail
  refine (find_T t _ p x h2 h4 (by unfold Tr.size; omega)).mono ?_
  rintro e w1 ⟨rfl, hB1⟩
  go_wp2_with fail
  refine (at_T t w1 p _ y (h2.ext hB1) Hy.out (by unfold Tr.size; omega)).mono ?_
  rintro e w2 ⟨rfl, hB2⟩
  have hC2 := hB1.trans (hB2.mono hB1.size)
  have hB := hB0.trans (hC2.mono hB0.size)
  have hb1 : w2.heap[w.heap.size + 1]? = _ := (hC2.block _ (lt_of_block hz0)).trans hz0
  have hz1 := zero_cells hb1
  have Hb1 := Lib.hid hb1
  have Hz0 := Lib.hid hz0
  clear hb1 hz0
  go_wp2_with fail
  have hm := mem_sto w2 (w.heap.size + 1) y Hb1.out
  have hB3 : Below w.heap.size w ((w2.setCell ⟨(w.heap.size + 1), 0, none⟩ (.string y.name)).setCell ⟨(w.heap.size + 1), 1, none⟩ (.int .i64 y.nth)) := below_but hB (but_sto w2 (w.heap.size + 1) y) (by omega) (by have := hB.size; omega)
  generalize ((w2.setCell ⟨w.heap.size + 1, 0, none⟩ (.string y.name)).setCell ⟨w.heap.size + 1, 1, none⟩ (.int .i64 y.nth)) = W at hm hB3 ⊢
  exact bodyPost_ret (v := .tuple #[.agg #[.string y.name, .int .i64 y.nth], .bool true]) (by simp [results, Try.results121, go_sem, hm]) rfl ⟨⟨y, rfl, Hy.out⟩, hB3⟩

end Go.Proofs.Ytmnpcpgdhaplaaa.V

namespace Go.Proofs.Ytmnpcpgdhaplaaa.V
open Go Go.RowKit

end Go.Proofs.Ytmnpcpgdhaplaaa.V

namespace Go.Proofs.Ytmnpcpgdhaplaaa.V
open Go Go.RowKit

/-- The values xs lie one behind the other in block b, from off on. -/
def Elems (w : World) (b off : Nat) (xs : List VarV) : Prop := ∀ i x, xs[i]? = some x → w.cell? ⟨b, off + i * 2, none⟩ = some (.string x.name) ∧ w.cell? ⟨b, off + i * 2 + 1, none⟩ = some (.int .i64 x.nth)

/-- v is a slice of the values xs. -/
def SliceOf (w : World) (v : Value) (xs : List VarV) : Prop :=
  ∃ a cap, v = .slice a xs.length cap ∧ (xs = [] ∨ ∃ b off, a = some ⟨b, off, none⟩ ∧ Elems w b off xs)

theorem Elems.below {w w' : World} {b off : Nat} {xs : List VarV} (h : Elems w b off xs) {B : Nat} (hB : Below B w w') (hb : b < B) : Elems w' b off xs := by
  intro i x hx
  have h0 := h i x hx
  simp only [← hB.cell (p := ⟨b, _, none⟩) hb] at h0
  exact h0

theorem SliceOf.below {w w' : World} {v : Value} {xs : List VarV} (h : SliceOf w v xs) (hB : Below w.heap.size w w') : SliceOf w' v xs := by
  obtain ⟨a, cap, rfl, h⟩ := h
  refine ⟨a, cap, rfl, ?_⟩
  rcases h with h | ⟨b, off, rfl, h⟩
  · exact .inl h
  · cases xs with
    | nil => exact .inl rfl
    | cons x xs =>
      refine .inr ⟨b, off, rfl, h.below hB ?_⟩
      exact World.block_lt_of_cell? w _ (h 0 x rfl).1

theorem putl_length (xs l : List VarV) : (xs.foldl (put varCmp) l).length ≤ l.length + xs.length := by
  induction xs generalizing l with
  | nil => simp
  | cons x xs ih =>
    have := ih (put varCmp l x)
    have := length_put varCmp l x
    simp; omega

set_option maxHeartbeats 800000 in
theorem new_T (w : World) (v : Value) (xs : List VarV) (h : SliceOf w v xs) (hs : xs.length ≤ 700000) :
    Calls Try.prog 96 #[v] w fun e w' => ∃ s, e = .returned (.pointer (some ⟨s, 0, none⟩)) ∧ w.heap.size ≤ s ∧ SetAt w' s (xs.foldl (put varCmp) []) ∧ Below w.heap.size w w' := by
  obtain ⟨a, cap, rfl, hc⟩ := h
  have hB0 : Below w.heap.size w (w.alloc (.cells #[.pointer none] 134)) := (Below.refl _ w).alloc (Nat.le_refl _) _
  have hS0 : SetAt (w.alloc (.cells #[.pointer none] 134)) w.heap.size [] := ⟨.nil, none, heap_alloc_new w _, rfl, rfl, List.Pairwise.nil⟩
  have HS0 := Lib.hid hS0
  clear hS0
  go_enter Try.func96, Try.ntmps96
  go_wp2_with fail
  go_loopg [10] xs.length (fun k i wr => ∃ j : Nat, i = .int .i64 j ∧ j ≤ xs.length ∧ Hid (k = xs.length - j) ∧ Hid (SetAt wr w.heap.size ((xs.take j).foldl (put varCmp) [])) ∧ Below w.heap.size w wr)
  case atStart => exact ⟨0, rfl, by omega, Lib.hid rfl, HS0, hB0⟩
  case round =>
    obtain ⟨j, rfl, hj, Hk, HS, hB⟩ := hrel
    by_cases hlt : j < xs.length
    · rcases hc with rfl | ⟨b, off, rfl, hel⟩
      · simp at hlt
      · obtain ⟨x, hx⟩ : ∃ x, xs[j]? = some x := ⟨xs[j], by simp [hlt]⟩
        have hm := hel j x hx
        have hm1 := (hel.below hB (World.block_lt_of_cell? w _ hm.1)) j x hx
        have Hx := Lib.hid hx
        clear hx hm
        have hB1 : Below wr.heap.size wr (wr.alloc (.cells #[.string x.name, .int .i64 x.nth] 121)) := (Below.refl _ wr).alloc (Nat.le_refl _) _
        have hlen : ((xs.take j).foldl (put varCmp) []).length ≤ 800000 := by have := putl_length (xs.take j) []; simp at this; omega
        go_wp2_with fail
        refine (put_T _ _ _ x (HS.out.below hB1) hlen).mono ?_
        rintro e w2 ⟨rfl, hS2, hb2⟩
        have HS2 := Lib.hid hS2
        clear hS2
        go_wp2_with fail
        go_roundg (xs.length - (j + 1))
        case measure => rw [Hk.out]; omega
        case rel =>
          refine ⟨j + 1, by go_num, by omega, Lib.hid rfl, Lib.hid ?_, below_but (hB.trans (hB1.mono hB.size)) hb2 (Nat.le_refl _) (Nat.le_trans hB.size hB1.size)⟩
          have e : xs.take (j + 1) = xs.take j ++ [x] := by rw [List.take_add_one, Hx.out]; rfl
          rw [e, List.foldl_append]
          exact HS2.out
    · obtain rfl : j = xs.length := by omega
      have hs' := HS.out
      rw [List.take_length] at hs'
      have HS' := Lib.hid hs'
      clear hs'
      go_wp2_with fail
      go_ret
      exact ⟨w.heap.size, rfl, Nat.le_refl _, HS'.out, hB⟩

end Go.Proofs.Ytmnpcpgdhaplaaa.V

namespace Go.Proofs.Ytmnpcpgdhaplaaa
open Go Go.RowKit

theorem Lin.zsymm {α : Type} {cmp : α → α → Int} (h : Lin cmp) {x y : α} (e : cmp x y = 0) : cmp y x = 0 := by
  have := h.swap x y; have := h.swap y x; omega
theorem Lin.ztrans {α : Type} {cmp : α → α → Int} (h : Lin cmp) {x y z : α} (e : cmp x y = 0) (f : cmp y z = 0) : cmp x z = 0 := by
  have a := h.trans x y z (by omega) (by omega)
  have b := h.trans z y x (by have := Lin.zsymm h f; omega) (by have := Lin.zsymm h e; omega)
  have := h.swap x z; have := h.swap z x; omega

theorem has_put {α : Type} {cmp : α → α → Int} (hc : Lin cmp) (l : List α) (x y : α) : has cmp (put cmp l y) x = (has cmp l x || cmp x y == 0) := by
  unfold put
  cases h : has cmp l y
  · rw [if_neg (by simp), ins]
    conv => rhs; rw [← List.take_append_drop (pos cmp l y) l]
    unfold has
    simp only [List.any_append, List.any_cons]
    rw [Bool.eq_iff_iff]; simp only [Bool.or_eq_true]
    constructor
    · rintro (h | h | h)
      · exact .inl (.inl h)
      · exact .inr h
      · exact .inl (.inr h)
    · rintro ((h | h) | h)
      · exact .inl h
      · exact .inr (.inr h)
      · exact .inr (.inl h)
  · rw [if_pos rfl, Bool.eq_iff_iff, Bool.or_eq_true]
    constructor
    · exact .inl
    · rintro (k | k)
      · exact k
      · obtain ⟨z, hz, h0⟩ := List.any_eq_true.1 h
        have k' : cmp x y = 0 := by simpa using k
        have h0' : cmp y z = 0 := by simpa using h0
        exact List.any_eq_true.2 ⟨z, hz, by simpa using Lin.ztrans hc k' h0'⟩

/-- The set of the variables K, in the order in which they became known. -/
def setOf (K : List ByteArray) : List VarV := K.zipIdx.foldl (fun L p => put varCmp L ⟨p.1, (p.2 : Int)⟩) []
def knowsB (K : List ByteArray) (n : ByteArray) : Bool := K.any (fun m => scmp n m == 0)
def learn (K : List ByteArray) (n : ByteArray) : List ByteArray := if knowsB K n then K else K ++ [n]
def allowsB (K : List ByteArray) (n : ByteArray) : Bool := n.toList.isEmpty || knowsB K n

theorem setOf_snoc (K : List ByteArray) (n : ByteArray) : setOf (K ++ [n]) = put varCmp (setOf K) ⟨n, (K.length : Int)⟩ := by
  simp [setOf, List.zipIdx_append]

theorem has_setOf (K : List ByteArray) (x : VarV) : has varCmp (setOf K) x = knowsB K x.name := by
  have key : ∀ n, has varCmp (setOf (K.take n)) x = knowsB (K.take n) x.name := by
    intro n
    induction n with
    | zero => simp [setOf, has, knowsB]
    | succ n ih =>
      rcases Nat.lt_or_ge n K.length with hn | hn
      · rw [List.take_add_one, List.getElem?_eq_getElem hn]
        show has varCmp (setOf (K.take n ++ [K[n]])) x = knowsB (K.take n ++ [K[n]]) x.name
        rw [setOf_snoc, has_put varCmp_lin, ih]
        simp only [knowsB, varCmp, List.any_append, List.any_cons, List.any_nil, Bool.or_false]
      · rw [List.take_of_length_le (by omega : K.length ≤ n + 1)]
        rw [List.take_of_length_le hn] at ih; exact ih
  have := key K.length
  rwa [List.take_length] at this

theorem put_learn (K : List ByteArray) (n : ByteArray) : put varCmp (setOf K) ⟨n, (K.length : Int)⟩ = setOf (learn K n) := by
  unfold learn
  cases h : knowsB K n
  · rw [if_neg (by simp), setOf_snoc]
  · rw [if_pos rfl, put, has_setOf, h, if_pos rfl]

theorem learn_len {K : List ByteArray} (h : (setOf K).length = K.length) (n : ByteArray) : (setOf (learn K n)).length = (learn K n).length := by
  unfold learn
  cases hk : knowsB K n
  · rw [if_neg (by simp), setOf_snoc, put, has_setOf, hk, if_neg (by simp), length_ins, h]; simp
  · rw [if_pos rfl]; exact h

theorem learn_le (K : List ByteArray) (n : ByteArray) : (learn K n).length ≤ K.length + 1 := by
  unfold learn; split <;> simp

/-- What tests, a condition itself make known; whether they use what is known alone. -/
def meetTs : List ByteArray → List TestV → List ByteArray × Bool
  | K, [] => (K, true)
  | K, t :: ts =>
    let K' := if t.rel == 1 && !t.var.toList.isEmpty then learn K t.var else K
    if allowsB K' t.var then meetTs K' ts else (K', false)
def meetH (K : List ByteArray) (h : CondH) : List ByteArray × Bool :=
  let K1 := if h.goal then learn K h.id else K
  if knowsB K1 h.id then
    let r := meetTs K1 h.attrs
    if r.2 then meetTs r.1 h.values else r
  else (K1, false)

mutual
/-- What conditions from place z on make known; the place behind them, or of the first that is wrong. -/
def passC : List ByteArray → Int → CondV → List ByteArray × Int × Bool
  | K, z, .mk h l => if h.kind == 3 then (K, (passL K (z + 1) l).2) else if h.kind == 2 then (K, if (meetH K h).2 then z + 1 else z, (meetH K h).2) else ((meetH K h).1, if (meetH K h).2 then z + 1 else z, (meetH K h).2)
def passL : List ByteArray → Int → List CondV → List ByteArray × Int × Bool
  | K, z, [] => (K, z, true)
  | K, z, c :: cs => if (passC K z c).2.2 then passL (passC K z c).1 (passC K z c).2.1 cs else passC K z c
end

theorem passC_eq (K : List ByteArray) (z : Int) (c : CondV) : passC K z c = if c.h.kind == 3 then (K, (passL K (z + 1) c.inner).2) else if c.h.kind == 2 then (K, if (meetH K c.h).2 then z + 1 else z, (meetH K c.h).2) else ((meetH K c.h).1, if (meetH K c.h).2 then z + 1 else z, (meetH K c.h).2) := by
  cases c; rw [passC]; rfl
theorem passL_nil (K : List ByteArray) (z : Int) : passL K z [] = (K, z, true) := by rw [passL]
theorem passL_cons (K : List ByteArray) (z : Int) (c : CondV) (cs : List CondV) : passL K z (c :: cs) = if (passC K z c).2.2 then passL (passC K z c).1 (passC K z c).2.1 cs else passC K z c := by rw [passL]

end Go.Proofs.Ytmnpcpgdhaplaaa
