/- What remove of a tree's nodes and Drop of a set do. Conditions: the tree, the set lie in memory; at most 800000 members. -/
import Derived.Test.YtimeamehmefgnaaGreatDoorSetSS
namespace Go.Proofs.YtimeamehmefgnaaGreatDoor.S
open Go Go.RowKit

/-- A tree with the members L, old or new; nothing that was there has changed. -/
def Left (w : World) (L : List SymV) (e : Ending) (w' : World) : Prop :=
  ∃ t p, e = .returned (.pointer p) ∧ LT w' t p ∧ t.list = L ∧ Below w.heap.size w w'

theorem erase_less {α : Type} (l r : List α) (i : Nat) (y : α) (h : i < l.length) : l.eraseIdx i ++ y :: r = (l ++ y :: r).eraseIdx i := (List.eraseIdx_append_of_lt_length h _).symm
theorem erase_more {α : Type} (l r : List α) (j : Nat) (y : α) : l ++ y :: r.eraseIdx j = (l ++ y :: r).eraseIdx (l.length + 1 + j) := by
  rw [List.eraseIdx_append_of_length_le (by omega), show l.length + 1 + j - l.length = j + 1 by omega]; rfl
theorem erase_here {α : Type} (l r : List α) (y : α) : l ++ r = (l ++ y :: r).eraseIdx l.length := by
  rw [List.eraseIdx_append_of_length_le (by omega)]; simp

end Go.Proofs.YtimeamehmefgnaaGreatDoor.S
