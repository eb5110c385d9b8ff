/- What the statements' list of a set of symbols answers, and what stays of it when a set is changed. Conditions: at most 800000 members. -/
import Derived.Test.YtimeamehmefgnaaGreatDoorListSS
import Derived.Test.YtimeamehmefgnaaGreatDoorNewSS
namespace Go.Proofs.YtimeamehmefgnaaGreatDoor.S
open Go Go.RowKit Go.Shelf

theorem flat3 : ∀ (xs : List SymV) (i : Nat) (x : SymV), xs[i]? = some x →
    (xs.flatMap fun x => ([.int .i64 x.k, .string x.t, .int .i64 x.n] : List Value))[i * 3]? = some (.int .i64 x.k) ∧ (xs.flatMap fun x => ([.int .i64 x.k, .string x.t, .int .i64 x.n] : List Value))[i * 3 + 1]? = some (.string x.t) ∧ (xs.flatMap fun x => ([.int .i64 x.k, .string x.t, .int .i64 x.n] : List Value))[i * 3 + 2]? = some (.int .i64 x.n)
  | [], _, _, h => by simp at h
  | y :: ys, 0, x, h => by
    obtain rfl : y = x := by simpa using h
    simp
  | y :: ys, i + 1, x, h => by
    have := flat3 ys i x (by simpa using h)
    rw [show (i + 1) * 3 = i * 3 + 1 + 1 + 1 by omega, show i * 3 + 1 + 1 + 1 + 1 = (i * 3 + 1) + 1 + 1 + 1 by omega, show i * 3 + 1 + 1 + 1 + 2 = (i * 3 + 2) + 1 + 1 + 1 by omega]
    simpa [List.flatMap_cons] using this

theorem flat3_length (xs : List SymV) : (xs.flatMap fun x => ([.int .i64 x.k, .string x.t, .int .i64 x.n] : List Value)).length = xs.length * 3 := by
  induction xs with
  | nil => rfl
  | cons x xs ih => simp [List.flatMap_cons, ih]; omega

/-- A slice of the values xs, in a block from B on. -/
def SliceGe (B : Nat) (w : World) (v : Value) (xs : List SymV) : Prop :=
  ∃ a cap, v = .slice a xs.length cap ∧ (xs = [] ∨ ∃ b off, B ≤ b ∧ a = some ⟨b, off, none⟩ ∧ Elems w b off xs)

theorem SliceGe.slice {B : Nat} {w : World} {v : Value} {xs : List SymV} (h : SliceGe B w v xs) : SliceOf w v xs := by
  obtain ⟨a, cap, rfl, h | ⟨b, off, -, h⟩⟩ := h
  · exact ⟨a, cap, rfl, .inl h⟩
  · exact ⟨a, cap, rfl, .inr ⟨b, off, h⟩⟩

theorem SliceGe.mono {B B' : Nat} {w : World} {v : Value} {xs : List SymV} (h : SliceGe B w v xs) (hB : B' ≤ B) : SliceGe B' w v xs := by
  obtain ⟨a, cap, rfl, h | ⟨b, off, hb, h⟩⟩ := h
  · exact ⟨a, cap, rfl, .inl h⟩
  · exact ⟨a, cap, rfl, .inr ⟨b, off, by omega, h⟩⟩

theorem Elems.but {w w' : World} {b off s : Nat} {xs : List SymV} (h : Elems w b off xs) (hb : But s w w') (hs : b ≠ s) : Elems w' b off xs := by
  intro i x hx
  have h0 := h i x hx
  have e : w'.heap[b]? = w.heap[b]? := hb.block b (World.block_lt_of_cell? w _ h0.1) hs
  have k : ∀ o, w'.cell? ⟨b, o, none⟩ = w.cell? ⟨b, o, none⟩ := fun o => World.cell?_of_block e
  simp only [k]
  exact h0

theorem SliceGe.but {B s : Nat} {w w' : World} {v : Value} {xs : List SymV} (h : SliceGe B w v xs) (hb : But s w w') (hs : s < B) : SliceGe B w' v xs := by
  obtain ⟨a, cap, rfl, h | ⟨b, off, hB, rfl, h⟩⟩ := h
  · exact ⟨a, cap, rfl, .inl h⟩
  · exact ⟨_, cap, rfl, .inr ⟨b, off, hB, rfl, h.but hb (by omega)⟩⟩

theorem SliceGe.below {B : Nat} {w w' : World} {v : Value} {xs : List SymV} (h : SliceGe B w v xs) (hB : Below w.heap.size w w') : SliceGe B w' v xs := by
  obtain ⟨a, cap, rfl, h | ⟨b, off, hb, rfl, h⟩⟩ := h
  · exact ⟨a, cap, rfl, .inl h⟩
  · cases xs with
    | nil => exact ⟨_, cap, rfl, .inl rfl⟩
    | cons x xs => exact ⟨_, cap, rfl, .inr ⟨b, off, hb, rfl, h.below hB (World.block_lt_of_cell? w _ (h 0 x rfl).1)⟩⟩

theorem Made.ge {B : Nat} {W : World} {v : Value} {xs : List SymV} (h : Made B W v xs) : SliceGe B W v xs := by
  rcases h.2 with ⟨rfl, h0⟩ | ⟨g, cap, cur, rfl, hb, hg, hn, hm, hs, ht⟩
  · have : xs = [] := List.length_eq_zero_iff.1 h0
    subst this
    exact ⟨none, 0, rfl, .inl rfl⟩
  · refine ⟨some ⟨g, 0, none⟩, cap, rfl, .inr ⟨g, 0, hb, rfl, fun i x hx => ?_⟩⟩
    have hi : i < xs.length := (List.getElem?_eq_some_iff.1 hx).1
    obtain ⟨h1, h2, h3⟩ := flat3 xs i x hx
    rw [Nat.zero_add]
    exact ⟨(World.ownsRow.cellAt h (i * 3) (by omega)).trans h1, (World.ownsRow.cellAt h (i * 3 + 1) (by omega)).trans h2, (World.ownsRow.cellAt h (i * 3 + 2) (by omega)).trans h3⟩

theorem SetAt.other {w w' : World} {s r : Nat} {L M : List SymV} (h : SetAt w s L) (h' : SetAt w r M) (hb : But r w w') (hr : r ≠ s) : SetAt w' s L := by
  obtain ⟨_, _, h1, _⟩ := h'
  exact h.but hb hr h1 (by decide)

end Go.Proofs.YtimeamehmefgnaaGreatDoor.S
