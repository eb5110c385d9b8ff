/- Rows of elements that a list of a set's members is made of. Conditions: none. -/
import Derived.Test.YtcpgjekkcpfpaaaListSO
import Derived.Test.YtcpgjekkcpfpaaaMg11
namespace Go.Proofs.Ytcpgjekkcpfpaaa.O
open Go Go.RowKit Go.Shelf

theorem flatk : ∀ (xs : List ElmV) (i j : Nat) (x : ElmV) (u : Value), xs[i]? = some x → ([.int .i64 x.id.k, .string x.id.t, .int .i64 x.id.n, .int .i64 x.attr.k, .string x.attr.t, .int .i64 x.attr.n, .int .i64 x.val.k, .string x.val.t, .int .i64 x.val.n, .bool x.acc, .bool x.goal, .int .i64 x.tag] : List Value)[j]? = some u →
    (xs.flatMap fun x => ([.int .i64 x.id.k, .string x.id.t, .int .i64 x.id.n, .int .i64 x.attr.k, .string x.attr.t, .int .i64 x.attr.n, .int .i64 x.val.k, .string x.val.t, .int .i64 x.val.n, .bool x.acc, .bool x.goal, .int .i64 x.tag] : List Value))[i * 12 + j]? = some u
  | [], _, _, _, _, h, _ => by simp at h
  | y :: ys, 0, j, x, u, h, hu => by
    obtain rfl : y = x := by simpa using h
    have hj := (List.getElem?_eq_some_iff.1 hu).1
    rw [List.flatMap_cons, List.getElem?_append_left (by simpa using hj)]
    simpa using hu
  | y :: ys, i + 1, j, x, u, h, hu => by
    have := flatk ys i j x u (by simpa using h) hu
    rw [List.flatMap_cons, List.getElem?_append_right (by simp; omega)]
    rw [← this]
    congr 1
    simp; omega

theorem flatk_length (xs : List ElmV) : (xs.flatMap fun x => ([.int .i64 x.id.k, .string x.id.t, .int .i64 x.id.n, .int .i64 x.attr.k, .string x.attr.t, .int .i64 x.attr.n, .int .i64 x.val.k, .string x.val.t, .int .i64 x.val.n, .bool x.acc, .bool x.goal, .int .i64 x.tag] : List Value)).length = xs.length * 12 := by
  induction xs with
  | nil => rfl
  | cons x xs ih => simp [List.flatMap_cons, ih]; omega

/-- A slice of the values xs, in a block from B on. -/
def SliceGe (B : Nat) (w : World) (v : Value) (xs : List ElmV) : Prop :=
  ∃ a cap, v = .slice a xs.length cap ∧ (xs = [] ∨ ∃ b off, B ≤ b ∧ a = some ⟨b, off, none⟩ ∧ Elems w b off xs)

theorem SliceGe.slice {B : Nat} {w : World} {v : Value} {xs : List ElmV} (h : SliceGe B w v xs) : SliceOf w v xs := by
  obtain ⟨a, cap, rfl, h | ⟨b, off, -, h⟩⟩ := h
  · exact ⟨a, cap, rfl, .inl h⟩
  · exact ⟨a, cap, rfl, .inr ⟨b, off, h⟩⟩

theorem SliceGe.mono {B B' : Nat} {w : World} {v : Value} {xs : List ElmV} (h : SliceGe B w v xs) (hB : B' ≤ B) : SliceGe B' w v xs := by
  obtain ⟨a, cap, rfl, h | ⟨b, off, hb, h⟩⟩ := h
  · exact ⟨a, cap, rfl, .inl h⟩
  · exact ⟨a, cap, rfl, .inr ⟨b, off, by omega, h⟩⟩

theorem Elems.but {w w' : World} {b off s : Nat} {xs : List ElmV} (h : Elems w b off xs) (hb : But s w w') (hs : b ≠ s) : Elems w' b off xs := by
  intro i x hx
  have h0 := h i x hx
  have e : w'.heap[b]? = w.heap[b]? := hb.block b (World.block_lt_of_cell? w _ h0.1) hs
  have k : ∀ o, w'.cell? ⟨b, o, none⟩ = w.cell? ⟨b, o, none⟩ := fun o => World.cell?_of_block e
  simp only [k]
  exact h0

theorem SliceGe.but {B s : Nat} {w w' : World} {v : Value} {xs : List ElmV} (h : SliceGe B w v xs) (hb : But s w w') (hs : s < B) : SliceGe B w' v xs := by
  obtain ⟨a, cap, rfl, h | ⟨b, off, hB, rfl, h⟩⟩ := h
  · exact ⟨a, cap, rfl, .inl h⟩
  · exact ⟨_, cap, rfl, .inr ⟨b, off, hB, rfl, h.but hb (by omega)⟩⟩

theorem SliceGe.below {B : Nat} {w w' : World} {v : Value} {xs : List ElmV} (h : SliceGe B w v xs) (hB : Below w.heap.size w w') : SliceGe B w' v xs := by
  obtain ⟨a, cap, rfl, h | ⟨b, off, hb, rfl, h⟩⟩ := h
  · exact ⟨a, cap, rfl, .inl h⟩
  · cases xs with
    | nil => exact ⟨_, cap, rfl, .inl rfl⟩
    | cons x xs => exact ⟨_, cap, rfl, .inr ⟨b, off, hb, rfl, h.below hB (World.block_lt_of_cell? w _ (h 0 x rfl).1)⟩⟩

theorem Made.ge {B : Nat} {W : World} {v : Value} {xs : List ElmV} (h : Made B W v xs) : SliceGe B W v xs := by
  rcases h.2 with ⟨rfl, h0⟩ | ⟨g, cap, cur, rfl, hb, hg, hn, hm, hs, ht⟩
  · have : xs = [] := List.length_eq_zero_iff.1 h0
    subst this
    exact ⟨none, 0, rfl, .inl rfl⟩
  · refine ⟨some ⟨g, 0, none⟩, cap, rfl, .inr ⟨g, 0, hb, rfl, fun i x hx => ?_⟩⟩
    have hi : i < xs.length := (List.getElem?_eq_some_iff.1 hx).1
    rw [Nat.zero_add]
    have key : ∀ j u, ([.int .i64 x.id.k, .string x.id.t, .int .i64 x.id.n, .int .i64 x.attr.k, .string x.attr.t, .int .i64 x.attr.n, .int .i64 x.val.k, .string x.val.t, .int .i64 x.val.n, .bool x.acc, .bool x.goal, .int .i64 x.tag] : List Value)[j]? = some u → W.cell? ⟨g, i * 12 + j, none⟩ = some u := fun j u hu => by
      have hj := (List.getElem?_eq_some_iff.1 hu).1
      exact (World.ownsRow.cellAt h (i * 12 + j) (by simp at hj; omega)).trans (flatk xs i j x u hx hu)
    exact ⟨key 0 _ rfl, key 1 _ rfl, key 2 _ rfl, key 3 _ rfl, key 4 _ rfl, key 5 _ rfl, key 6 _ rfl, key 7 _ rfl, key 8 _ rfl, key 9 _ rfl, key 10 _ rfl, key 11 _ rfl⟩

theorem SetAt.other {w w' : World} {s r : Nat} {L M : List ElmV} (h : SetAt w s L) (h' : SetAt w r M) (hb : But r w w') (hr : r ≠ s) : SetAt w' s L := by
  obtain ⟨_, _, h1, _⟩ := h'
  exact h.but hb hr h1 (by decide)

end Go.Proofs.Ytcpgjekkcpfpaaa.O
