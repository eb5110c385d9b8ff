/- What 'at' of a tree's nodes answers. Conditions: the tree lies in memory; the index is in range; at most 900000 members. -/
import Derived.Test.YtimeamehmefgnaaDoorTreeSS
import Derived.Deep.LoopGhost
namespace Go.Proofs.YtimeamehmefgnaaDoor.S
open Go Go.RowKit

theorem at_less {α : Type} (l r : List α) (x y : α) (j : Nat) (h : (l ++ y :: r)[j]? = some x) (hj : j < l.length) : l[j]? = some x := by
  rwa [List.getElem?_append_left hj] at h
theorem at_more {α : Type} (l r : List α) (x y : α) (j : Nat) (h : (l ++ y :: r)[j]? = some x) (hj : l.length < j) : r[j - l.length - 1]? = some x := by
  rw [List.getElem?_append_right (by omega)] at h
  rwa [show j - l.length = (j - l.length - 1) + 1 by omega, List.getElem?_cons_succ] at h
theorem at_here {α : Type} (l r : List α) (x y : α) (h : (l ++ y :: r)[l.length]? = some x) : y = x := by
  rw [List.getElem?_append_right (by omega)] at h
  simpa using h