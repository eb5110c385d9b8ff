/- What Same of two sets answers. Conditions: the sets lie in memory; at most 800000 members. -/
import Derived.Test.YtimeamehmefgnaaGreatDoorAllSS
import Derived.RangeFuncBox
import Derived.Stop.RegionWithIn
import Derived.Deep.RegionHeld3
namespace Go.Proofs.YtimeamehmefgnaaGreatDoor.S
open Go Go.RowKit Go.Shelf

attribute [local go_sem] Oper.semAt_some

theorem mixed : Tryz.prog.follows .mixedOrders = true := by kernel_rfl

/-- The code is left at its end alone, with one frame and one world. -/
def OnlyAt (a0 : Act) (w0 : World) : Exit → Act → World → Prop
  | .normal, a, w => a = a0 ∧ w = w0
  | _, _, _ => False
theorem OnlyAt.imp {Q : Exit → Act → World → Prop} {a0 : Act} {w0 : World} (h : Q .normal a0 w0) : ∀ e a w, OnlyAt a0 w0 e a w → Q e a w := by
  intro e a w hq
  cases e <;> first | exact (hq : False).elim | (obtain ⟨rfl, rfl⟩ := hq; exact h)

theorem keepsFrom_below {B : Nat} {W W' : World} (h : Below W.heap.size W W') : KeepsFrom B W W' := ⟨h.size, fun k _ _ hk _ => (h.block k (lt_of_block hk)).trans hk⟩

end Go.Proofs.YtimeamehmefgnaaGreatDoor.S
