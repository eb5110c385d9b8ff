/- Slices of symbols: where they lie. Conditions: none. -/
import Derived.Test.YtbpibbcehfkeeaaCmp
namespace Go.Proofs.Ytbpibbcehfkeeaa.S
open Go Go.RowKit

theorem mem_below {w w' : World} {B b : Nat} {x : SymV} (hB : Below B w w') (hb : b < B) (h : w.cell? ⟨b, 0, none⟩ = some (.int .i64 x.k) ∧ w.cell? ⟨b, 1, none⟩ = some (.string x.t) ∧ w.cell? ⟨b, 2, none⟩ = some (.int .i64 x.n)) : w'.cell? ⟨b, 0, none⟩ = some (.int .i64 x.k) ∧ w'.cell? ⟨b, 1, none⟩ = some (.string x.t) ∧ w'.cell? ⟨b, 2, none⟩ = some (.int .i64 x.n) := by
  simp only [← hB.cell (p := ⟨b, _, none⟩) hb] at h
  exact h

theorem mem_new (w : World) (x : SymV) : (w.alloc (.cells #[.int .i64 x.k, .string x.t, .int .i64 x.n] 26)).cell? ⟨w.heap.size, 0, none⟩ = some (.int .i64 x.k) ∧ (w.alloc (.cells #[.int .i64 x.k, .string x.t, .int .i64 x.n] 26)).cell? ⟨w.heap.size, 1, none⟩ = some (.string x.t) ∧ (w.alloc (.cells #[.int .i64 x.k, .string x.t, .int .i64 x.n] 26)).cell? ⟨w.heap.size, 2, none⟩ = some (.int .i64 x.n) := by
  simp only [World.cell?, heap_alloc_new]
  and_intros <;> rfl

/-- The values xs lie one behind the other in block b, from off on. -/
def Elems (w : World) (b off : Nat) (xs : List SymV) : Prop := ∀ i x, xs[i]? = some x → w.cell? ⟨b, off + i * 3, none⟩ = some (.int .i64 x.k) ∧ w.cell? ⟨b, off + i * 3 + 1, none⟩ = some (.string x.t) ∧ w.cell? ⟨b, off + i * 3 + 2, none⟩ = some (.int .i64 x.n)

/-- v is a slice of the values xs. -/
def SliceOf (w : World) (v : Value) (xs : List SymV) : Prop :=
  ∃ a cap, v = .slice a xs.length cap ∧ (xs = [] ∨ ∃ b off, a = some ⟨b, off, none⟩ ∧ Elems w b off xs)

theorem Elems.below {w w' : World} {b off : Nat} {xs : List SymV} (h : Elems w b off xs) {B : Nat} (hB : Below B w w') (hb : b < B) : Elems w' b off xs := by
  intro i x hx
  have h0 := h i x hx
  simp only [← hB.cell (p := ⟨b, _, none⟩) hb] at h0
  exact h0

theorem SliceOf.below {w w' : World} {v : Value} {xs : List SymV} (h : SliceOf w v xs) (hB : Below w.heap.size w w') : SliceOf w' v xs := by
  obtain ⟨a, cap, rfl, h⟩ := h
  refine ⟨a, cap, rfl, ?_⟩
  rcases h with h | ⟨b, off, rfl, h⟩
  · exact .inl h
  · cases xs with
    | nil => exact .inl rfl
    | cons x xs =>
      refine .inr ⟨b, off, rfl, h.below hB ?_⟩
      exact World.block_lt_of_cell? w _ (h 0 x rfl).1

theorem putl_length (xs l : List SymV) : (xs.foldl (put symCmp) l).length ≤ l.length + xs.length := by
  induction xs generalizing l with
  | nil => simp
  | cons x xs ih =>
    have := ih (put symCmp l x)
    have := length_put symCmp l x
    simp; omega

end Go.Proofs.Ytbpibbcehfkeeaa.S
