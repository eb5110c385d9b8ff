/- What Meet of two sets makes. Conditions: the sets lie in memory; at most 300000 members. -/
import Derived.Test.YtcpgjekkcpfpaaaPartSO
namespace Go.Proofs.Ytcpgjekkcpfpaaa.O
open Go Go.RowKit

theorem meet_T (w : World) (s r : Nat) (L R : List ElmV) (hS : SetAt w s L) (hR : SetAt w r R) (hs : L.length ≤ 300000) (hr : R.length ≤ 300000) :
    Calls Try.prog 11 #[.pointer (some ⟨s, 0, none⟩), .pointer (some ⟨r, 0, none⟩)] w fun e w' => ∃ c, e = .returned (.pointer (some ⟨c, 0, none⟩)) ∧ w.heap.size ≤ c ∧ SetAt w' c (L.filter (fun x => has elmCmp R x == true)) ∧ Below w.heap.size w w' := by
  go_enter Try.func11, Try.ntmps11
  go_wp2_with fail
  refine (part_T w s r true L R hS hR hs hr).mono ?_
  rintro e w1 ⟨c, rfl, h1, h2, h3⟩
  go_wp2_with fail
  go_ret
  exact ⟨c, rfl, h1, h2, h3⟩

end Go.Proofs.Ytcpgjekkcpfpaaa.O
