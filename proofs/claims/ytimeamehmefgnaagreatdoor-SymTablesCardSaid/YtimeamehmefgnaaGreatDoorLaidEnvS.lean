/- What the row's laid variables give: strconv's table of powers and its two errors. Conditions: none. -/
import Derived.Test.YtimeamehmefgnaaGreatDoorRows
import Derived.Test.YtimeamehmefgnaaGreatDoorSymTxS
import Derived.Test.YtimeamehmefgnaaGreatDoorLaw
import Derived.LaidMore
import Derived.Stop.Joined
import Derived.Stop.LaidErr
import Derived.Lib.LaidTab
import Derived.Lib.SmallJoins
namespace Go.Proofs.YtimeamehmefgnaaGreatDoor
open Go Go.RowKit Go.ChangeShapes Go.WideShapes Go.ChangeAt

/-- The five listed variables. -/
def laid5 : List (String × DataW Unit) := [("math/bits.deBruijn32tab", Rows.laid_math_bits_deBruijn32tab), ("math/bits.deBruijn64tab", Rows.laid_math_bits_deBruijn64tab), ("internal/strconv.uint64pow10", Rows.laid_internal_strconv_uint64pow10), ("strconv.ErrRange", Rows.laid_strconv_ErrRange), ("strconv.ErrSyntax", Rows.laid_strconv_ErrSyntax)]

theorem pow10_data : (Rows.laid_internal_strconv_uint64pow10 : DataW Unit) = Lib.tabData .u64 Lib.pow10Tab := by rfl
theorem gPow : Tryz.prog.globalNamed "internal/strconv.uint64pow10" = some 2 := by kernel_rfl
theorem gSyn : Tryz.prog.globalNamed "strconv.ErrSyntax" = some 0 := by kernel_rfl
theorem gRng : Tryz.prog.globalNamed "strconv.ErrRange" = some 1 := by kernel_rfl
theorem gPowT : (Tryz.prog.globals[2]?).map (·.type) = some 145 := by kernel_rfl
theorem gSynT : (Tryz.prog.globals[0]?).map (·.type) = some 103 := by kernel_rfl
theorem gRngT : (Tryz.prog.globals[1]?).map (·.type) = some 103 := by kernel_rfl
theorem star_err : "*" ++ "errors.errorString" = "*errors.errorString" := by decide
theorem row_err (u : TypeId) (h : Tryz.prog.typeName? 3 u = some "*errors.errorString") : u = 152 :=
  typeName_ptr_named (nm := "errors.errorString") (by rw [star_err]; kernel_rfl) (by kernel_rfl) (by decide) u (by rw [star_err]; exact h)
theorem u64_cells : Tryz.prog.cellsOf 131 = 1 := by kernel_rfl
theorem pow_cells : Tryz.prog.cellsOf 145 = 20 := by kernel_rfl
theorem err_cells : Tryz.prog.cellsOf 154 = 1 := by kernel_rfl
theorem str_cells : Tryz.prog.cellsOf 9 = 1 := by kernel_rfl

theorem env_of {W : World} (h : laidMetH Tryz.prog laid5 W) : Env W := by
  rw [MakeChecks.laidMetH_plain _ _ _ (by kernel_rfl)] at h
  have h2 := h.tail.tail
  have h3 := h2.tail
  have h4 := h3.tail
  rw [pow10_data] at h2
  refine ⟨Lib.tabIs_of_head gPow gPowT Tryz.underlying145 Tryz.underlying131 u64_cells pow_cells h2, ?_, ?_⟩
  · obtain ⟨a, s, hv, -⟩ := laid_sentinel h4 gSyn gSynT Tryz.underlying103 row_err Tryz.underlying152 Tryz.underlying154 rfl rfl Tryz.underlying9 err_cells str_cells
    exact ⟨_, _, by simpa using World.var?_cell gSyn hv 0⟩
  · obtain ⟨a, s, hv, -⟩ := laid_sentinel h3 gRng gRngT Tryz.underlying103 row_err Tryz.underlying152 Tryz.underlying154 rfl rfl Tryz.underlying9 err_cells str_cells
    exact ⟨_, _, by simpa using World.var?_cell gRng hv 0⟩

/-- The door's own heap meets the condition. -/
theorem door_met (os : Os) (args : Array Value) : laidMetH Tryz.prog laid5 ((World.doorLaid Tryz.prog 400 os).forCall (fun _ _ => 0) ⟨#[], args, []⟩).memory :=
  laidMetH_of_parts3 (fuel := 8) (laidMet_of_run' 8 (by kernel_rfl) (by kernel_rfl)) (by kernel_rfl) (by kernel_rfl)

end Go.Proofs.YtimeamehmefgnaaGreatDoor
