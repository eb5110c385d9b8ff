/- What the statements' own Part, Word, digits answer. Conditions: none. -/
import Derived.Test.YtlnnblfkigcipaaDoorSymTxS
import Derived.Laws.BytesArg
namespace Go.Proofs.YtlnnblfkigcipaaDoor
open Go Go.RowKit

theorem part_T (w : World) (c : Int) : Calls Tryd.prog 32 #[.int .u8 c] w fun e w' => e = .returned (.bool (innerI c)) ∧ w = w' := by
  go_enter Tryd.func32, Tryd.ntmps32
  go_wp2_with fail
  all_goals go_ret
  all_goals refine ⟨ret_b ?_, rfl⟩
  all_goals (rw [Bool.eq_iff_iff]; simp [innerI, smallI] <;> omega)

end Go.Proofs.YtlnnblfkigcipaaDoor
