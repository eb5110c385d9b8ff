/- What At of a set answers. Conditions: the set lies in memory; at most 800000 members; the index is in range.
What New of a set answers. Conditions: the list lies in memory; at most 700000 members.
Which variables are known, plainly. Conditions: none. -/
import Derived.Test.YtmnpcpgdhaplaaaMg7
import Derived.Test.YtmnpcpgdhaplaaaMg2
namespace Go.Proofs.Ytmnpcpgdhaplaaa.V
open Go Go.RowKit

end Go.Proofs.Ytmnpcpgdhaplaaa.V

namespace Go.Proofs.Ytmnpcpgdhaplaaa.V
open Go Go.RowKit

/-- The values xs lie one behind the other in block b, from off on. -/
def Elems (w : World) (b off : Nat) (xs : List VarV) : Prop := ∀ i x, xs[i]? = some x → w.cell? ⟨b, off + i * 2, none⟩ = some (.string x.name) ∧ w.cell? ⟨b, off + i * 2 + 1, none⟩ = some (.int .i64 x.nth)

/-- v is a slice of the values xs. -/
def SliceOf (w : World) (v : Value) (xs : List VarV) : Prop :=
  ∃ a cap, v = .slice a xs.length cap ∧ (xs = [] ∨ ∃ b off, a = some ⟨b, off, none⟩ ∧ Elems w b off xs)

theorem Elems.below {w w' : World} {b off : Nat} {xs : List VarV} (h : Elems w b off xs) {B : Nat} (hB : Below B w w') (hb : b < B) : Elems w' b off xs := by
  intro i x hx
  have h0 := h i x hx
  simp only [← hB.cell (p := ⟨b, _, none⟩) hb] at h0
  exact h0

theorem SliceOf.below {w w' : World} {v : Value} {xs : List VarV} (h : SliceOf w v xs) (hB : Below w.heap.size w w') : SliceOf w' v xs := by
  obtain ⟨a, cap, rfl, h⟩ := h
  refine ⟨a, cap, rfl, ?_⟩
  rcases h with h | ⟨b, off, rfl, h⟩
  · exact .inl h
  · cases xs with
    | nil => exact .inl rfl
    | cons x xs =>
      refine .inr ⟨b, off, rfl, h.below hB ?_⟩
      exact World.block_lt_of_cell? w _ (h 0 x rfl).1

theorem putl_length (xs l : List VarV) : (xs.foldl (put varCmp) l).length ≤ l.length + xs.length := by
  induction xs generalizing l with
  | nil => simp
  | cons x xs ih =>
    have := ih (put varCmp l x)
    have := length_put varCmp l x
    simp; omega

set_option maxHeartbeats 800000 in
theorem new_T (w : World) (v : Value) (xs : List VarV) (h : SliceOf w v xs) (hs : xs.length ≤ 700000) :
    Calls Try.prog 96 #[v] w fun e w' => ∃ s, e = .returned (.pointer (some ⟨s, 0, none⟩)) ∧ w.heap.size ≤ s ∧ SetAt w' s (xs.foldl (put varCmp) []) ∧ Below w.heap.size w w' := by
  obtain ⟨a, cap, rfl, hc⟩ := h
  have hB0 : Below w.heap.size w (w.alloc (.cells #[.pointer none] 134)) := (Below.refl _ w).alloc (Nat.le_refl _) _
  have hS0 : SetAt (w.alloc (.cells #[.pointer none] 134)) w.heap.size [] := ⟨.nil, none, heap_alloc_new w _, rfl, rfl, List.Pairwise.nil⟩
  have HS0 := Lib.hid hS0
  clear hS0
  go_enter Try.func96, Try.ntmps96
  go_wp2_with fail
  go_loopg [10] xs.length (fun k i wr => ∃ j : Nat, i = .int .i64 j ∧ j ≤ xs.length ∧ Hid (k = xs.length - j) ∧ Hid (SetAt wr w.heap.size ((xs.take j).foldl (put varCmp) [])) ∧ Below w.heap.size w wr)
  case atStart => exact ⟨0, rfl, by omega, Lib.hid rfl, HS0, hB0⟩
  case round =>
    obtain ⟨j, rfl, hj, Hk, HS, hB⟩ := hrel
    by_cases hlt : j < xs.length
    · rcases hc with rfl | ⟨b, off, rfl, hel⟩
      · simp at hlt
      · obtain ⟨x, hx⟩ : ∃ x, xs[j]? = some x := ⟨xs[j], by simp [hlt]⟩
        have hm := hel j x hx
        have hm1 := (hel.below hB (World.block_lt_of_cell? w _ hm.1)) j x hx
        have Hx := Lib.hid hx
        clear hx hm
        have hB1 : Below wr.heap.size wr (wr.alloc (.cells #[.string x.name, .int .i64 x.nth] 121)) := (Below.refl _ wr).alloc (Nat.le_refl _) _
        have hlen : ((xs.take j).foldl (put varCmp) []).length ≤ 800000 := by have := putl_length (xs.take j) []; simp at this; omega
        go_wp2_with fail
        refine (put_T _ _ _ x (HS.out.below hB1) hlen).mono ?_
        rintro e w2 ⟨rfl, hS2, hb2⟩
        have HS2 := Lib.hid hS2
        clear hS2
        go_wp2_with fail
        go_roundg (xs.length - (j + 1))
        case measure => rw [Hk.out]; omega
        case rel =>
          refine ⟨j + 1, by go_num, by omega, Lib.hid rfl, Lib.hid ?_, below_but (hB.trans (hB1.mono hB.size)) hb2 (Nat.le_refl _) (Nat.le_trans hB.size hB1.size)⟩
          have e : xs.take (j + 1) = xs.take j ++ [x] := by rw [List.take_add_one, Hx.out]; rfl
          rw [e, List.foldl_append]
          exact HS2.out
    · obtain rfl : j = xs.length := by omega
      have hs' := HS.out
      rw [List.take_length] at hs'
      have HS' := Lib.hid hs'
      clear hs'
      go_wp2_with fail
      go_ret
      exact ⟨w.heap.size, rfl, Nat.le_refl _, HS'.out, hB⟩

end Go.Proofs.Ytmnpcpgdhaplaaa.V

namespace Go.Proofs.Ytmnpcpgdhaplaaa
open Go Go.RowKit

theorem Lin.zsymm {α : Type} {cmp : α → α → Int} (h : Lin cmp) {x y : α} (e : cmp x y = 0) : cmp y x = 0 := by
  have := h.swap x y; have := h.swap y x; omega
theorem Lin.ztrans {α : Type} {cmp : α → α → Int} (h : Lin cmp) {x y z : α} (e : cmp x y = 0) (f : cmp y z = 0) : cmp x z = 0 := by
  have a := h.trans x y z (by omega) (by omega)
  have b := h.trans z y x (by have := Lin.zsymm h f; omega) (by have := Lin.zsymm h e; omega)
  have := h.swap x z; have := h.swap z x; omega

theorem has_put {α : Type} {cmp : α → α → Int} (hc : Lin cmp) (l : List α) (x y : α) : has cmp (put cmp l y) x = (has cmp l x || cmp x y == 0) := by
  unfold put
  cases h : has cmp l y
  · rw [if_neg (by simp), ins]
    conv => rhs; rw [← List.take_append_drop (pos cmp l y) l]
    unfold has
    simp only [List.any_append, List.any_cons]
    rw [Bool.eq_iff_iff]; simp only [Bool.or_eq_true]
    constructor
    · rintro (h | h | h)
      · exact .inl (.inl h)
      · exact .inr h
      · exact .inl (.inr h)
    · rintro ((h | h) | h)
      · exact .inl h
      · exact .inr (.inr h)
      · exact .inr (.inl h)
  · rw [if_pos rfl, Bool.eq_iff_iff, Bool.or_eq_true]
    constructor
    · exact .inl
    · rintro (k | k)
      · exact k
      · obtain ⟨z, hz, h0⟩ := List.any_eq_true.1 h
        have k' : cmp x y = 0 := by simpa using k
        have h0' : cmp y z = 0 := by simpa using h0
        exact List.any_eq_true.2 ⟨z, hz, by simpa using Lin.ztrans hc k' h0'⟩

/-- The set of the variables K, in the order in which they became known. -/
def setOf (K : List ByteArray) : List VarV := K.zipIdx.foldl (fun L p => put varCmp L ⟨p.1, (p.2 : Int)⟩) []
def knowsB (K : List ByteArray) (n : ByteArray) : Bool := K.any (fun m => scmp n m == 0)
def learn (K : List ByteArray) (n : ByteArray) : List ByteArray := if knowsB K n then K else K ++ [n]
def allowsB (K : List ByteArray) (n : ByteArray) : Bool := n.toList.isEmpty || knowsB K n

theorem setOf_snoc (K : List ByteArray) (n : ByteArray) : setOf (K ++ [n]) = put varCmp (setOf K) ⟨n, (K.length : Int)⟩ := by
  simp [setOf, List.zipIdx_append]

theorem has_setOf (K : List ByteArray) (x : VarV) : has varCmp (setOf K) x = knowsB K x.name := by
  have key : ∀ n, has varCmp (setOf (K.take n)) x = knowsB (K.take n) x.name := by
    intro n
    induction n with
    | zero => simp [setOf, has, knowsB]
    | succ n ih =>
      rcases Nat.lt_or_ge n K.length with hn | hn
      · rw [List.take_add_one, List.getElem?_eq_getElem hn]
        show has varCmp (setOf (K.take n ++ [K[n]])) x = knowsB (K.take n ++ [K[n]]) x.name
        rw [setOf_snoc, has_put varCmp_lin, ih]
        simp only [knowsB, varCmp, List.any_append, List.any_cons, List.any_nil, Bool.or_false]
      · rw [List.take_of_length_le (by omega : K.length ≤ n + 1)]
        rw [List.take_of_length_le hn] at ih; exact ih
  have := key K.length
  rwa [List.take_length] at this

theorem put_learn (K : List ByteArray) (n : ByteArray) : put varCmp (setOf K) ⟨n, (K.length : Int)⟩ = setOf (learn K n) := by
  unfold learn
  cases h : knowsB K n
  · rw [if_neg (by simp), setOf_snoc]
  · rw [if_pos rfl, put, has_setOf, h, if_pos rfl]

theorem learn_len {K : List ByteArray} (h : (setOf K).length = K.length) (n : ByteArray) : (setOf (learn K n)).length = (learn K n).length := by
  unfold learn
  cases hk : knowsB K n
  · rw [if_neg (by simp), setOf_snoc, put, has_setOf, hk, if_neg (by simp), length_ins, h]; simp
  · rw [if_pos rfl]; exact h

theorem learn_le (K : List ByteArray) (n : ByteArray) : (learn K n).length ≤ K.length + 1 := by
  unfold learn; split <;> simp

/-- What tests, a condition itself make known; whether they use what is known alone. -/
def meetTs : List ByteArray → List TestV → List ByteArray × Bool
  | K, [] => (K, true)
  | K, t :: ts =>
    let K' := if t.rel == 1 && !t.var.toList.isEmpty then learn K t.var else K
    if allowsB K' t.var then meetTs K' ts else (K', false)
def meetH (K : List ByteArray) (h : CondH) : List ByteArray × Bool :=
  let K1 := if h.goal then learn K h.id else K
  if knowsB K1 h.id then
    let r := meetTs K1 h.attrs
    if r.2 then meetTs r.1 h.values else r
  else (K1, false)

mutual
/-- What conditions from place z on make known; the place behind them, or of the first that is wrong. -/
def passC : List ByteArray → Int → CondV → List ByteArray × Int × Bool
  | K, z, .mk h l => if h.kind == 3 then (K, (passL K (z + 1) l).2) else if h.kind == 2 then (K, if (meetH K h).2 then z + 1 else z, (meetH K h).2) else ((meetH K h).1, if (meetH K h).2 then z + 1 else z, (meetH K h).2)
def passL : List ByteArray → Int → List CondV → List ByteArray × Int × Bool
  | K, z, [] => (K, z, true)
  | K, z, c :: cs => if (passC K z c).2.2 then passL (passC K z c).1 (passC K z c).2.1 cs else passC K z c
end

theorem passC_eq (K : List ByteArray) (z : Int) (c : CondV) : passC K z c = if c.h.kind == 3 then (K, (passL K (z + 1) c.inner).2) else if c.h.kind == 2 then (K, if (meetH K c.h).2 then z + 1 else z, (meetH K c.h).2) else ((meetH K c.h).1, if (meetH K c.h).2 then z + 1 else z, (meetH K c.h).2) := by
  cases c; rw [passC]; rfl
theorem passL_nil (K : List ByteArray) (z : Int) : passL K z [] = (K, z, true) := by rw [passL]
theorem passL_cons (K : List ByteArray) (z : Int) (c : CondV) (cs : List CondV) : passL K z (c :: cs) = if (passC K z c).2.2 then passL (passC K z c).1 (passC K z c).2.1 cs else passC K z c := by rw [passL]

end Go.Proofs.Ytmnpcpgdhaplaaa
