/- What the row's laid variables give: strconv's table of powers and its two errors, the program's table of signs. Conditions: none. -/
import Derived.Test.YtlnnblfkigcipaaDoorRows
import Derived.Test.YtlnnblfkigcipaaDoorLxWakesK
import Derived.Test.YtlnnblfkigcipaaDoorLaw
import Derived.LaidMore
import Derived.Stop.Joined
import Derived.Stop.LaidErr
import Derived.Lib.LaidTab
import Derived.Lib.SmallJoins
import Derived.Lay
namespace Go.Proofs.YtlnnblfkigcipaaDoor
open Go Go.RowKit Go.ChangeShapes Go.WideShapes Go.ChangeAt

/-- The eight listed variables. -/
def laid8 : List (String × DataW Unit) := [("math/bits.deBruijn32tab", Rows.laid_math_bits_deBruijn32tab), ("math/bits.deBruijn64tab", Rows.laid_math_bits_deBruijn64tab), ("internal/strconv.uint64pow10", Rows.laid_internal_strconv_uint64pow10), ("unicode/utf8.acceptRanges", Rows.laid_unicode_utf8_acceptRanges), ("strconv.ErrRange", Rows.laid_strconv_ErrRange), ("strconv.ErrSyntax", Rows.laid_strconv_ErrSyntax), ("ponder/lex.signs", Rows.laid_ponder_lex_signs), ("unicode/utf8.first", Rows.laid_unicode_utf8_first)]

theorem pow10_data : (Rows.laid_internal_strconv_uint64pow10 : DataW Unit) = Lib.tabData .u64 Lib.pow10Tab := by rfl
theorem gPow : Tryd.prog.globalNamed "internal/strconv.uint64pow10" = some 6 := by kernel_rfl
theorem gSyn : Tryd.prog.globalNamed "strconv.ErrSyntax" = some 4 := by kernel_rfl
theorem gRng : Tryd.prog.globalNamed "strconv.ErrRange" = some 5 := by kernel_rfl
theorem gSig : Tryd.prog.globalNamed "ponder/lex.signs" = some 0 := by kernel_rfl
theorem gPowT : (Tryd.prog.globals[6]?).map (·.type) = some 121 := by kernel_rfl
theorem gSynT : (Tryd.prog.globals[4]?).map (·.type) = some 80 := by kernel_rfl
theorem gRngT : (Tryd.prog.globals[5]?).map (·.type) = some 80 := by kernel_rfl
theorem gSigT : (Tryd.prog.globals[0]?).map (·.type) = some 68 := by kernel_rfl
theorem star_err : "*" ++ "errors.errorString" = "*errors.errorString" := by decide
theorem row_err (u : TypeId) (h : Tryd.prog.typeName? 3 u = some "*errors.errorString") : u = 117 :=
  typeName_ptr_named (nm := "errors.errorString") (by rw [star_err]; kernel_rfl) (by kernel_rfl) (by decide) u (by rw [star_err]; exact h)
theorem u64_cells : Tryd.prog.cellsOf 103 = 1 := by kernel_rfl
theorem pow_cells : Tryd.prog.cellsOf 121 = 20 := by kernel_rfl
theorem err_cells : Tryd.prog.cellsOf 119 = 1 := by kernel_rfl
theorem str_cells : Tryd.prog.cellsOf 9 = 1 := by kernel_rfl
theorem sig_cells : Tryd.prog.cellsOf 68 = 20 := by kernel_rfl

/-- A table of texts, as a datum. -/
def strData (ss : List (List UInt8)) : DataW Unit := .agg (ss.map fun s => .lit (.string s))

theorem signs_data : (Rows.laid_ponder_lex_signs : DataW Unit) = strData signsL := by rfl

theorem cells_of_strs {enc : TypeId × Value → Unit} {P : Program} {w : World} {base : Nat} {sp : Nat → Bool} {held : Bool} {fuel : Nat} {t e : TypeId} {n : Nat} {cs : List Value} {ss : List (List UInt8)} {p : List MemPlace}
    (ht : P.underlying t = some (.array n e)) (he : P.underlying e = some .string) (hce : P.cellsOf e = 1) (hct : P.cellsOf t = n)
    (h : DataW.trod enc P w base sp held fuel t cs = some (strData ss, p)) : cs = ss.map fun s => Value.string ⟨s.toArray⟩ := by
  cases fuel with
  | zero => simp [DataW.trod] at h
  | succ fuel =>
    simp only [DataW.trod, ht, hce, hct, Nat.mul_one] at h
    split at h
    · rename_i hl
      obtain ⟨xs, hm, hx⟩ := Option.map_eq_some_iff.1 h
      have hxs : xs.map (·.1) = ss.map fun s => (DataW.lit (.string s) : DataW Unit) := by
        have := congrArg Prod.fst hx
        simpa [strData] using this
      have hxl : xs.length = n := by simpa using Lib.mapM_length hm
      have hsl : ss.length = n := by
        have := congrArg List.length hxs
        simp at this
        omega
      apply List.ext_getElem?
      intro i
      by_cases hi : i < n
      · obtain ⟨b, hb, hf⟩ := Lib.mapM_at hm i i (by simp [hi])
        obtain ⟨s, hc, rfl, _⟩ := DataW.trod_string he hf
        have h1 : cs[i]? = some (.string s) := by
          have := congrArg (·[0]?) hc
          simpa [List.getElem?_take, List.getElem?_drop] using this
        have h2 : (xs.map (·.1))[i]? = some (DataW.lit (.string s.data.toList) : DataW Unit) := by simp [hb]
        rw [hxs] at h2
        simp only [List.getElem?_map, Option.map_eq_some_iff, DataW.lit.injEq, Lit.string.injEq] at h2
        obtain ⟨s', hs', rfl⟩ := h2
        simp [h1, hs']
      · rw [List.getElem?_eq_none (by omega), List.getElem?_eq_none (by simp; omega)]
    · cases h

theorem signs_of_head {W : World} {rest : List (String × DataW Unit)} (h : laidMet Tryd.prog (("ponder/lex.signs", strData signsL) :: rest) W) : SignsAt W := by
  obtain ⟨ps, ⟨g', t', cs, fuel, p, q, hg', ht', hvar, hd, _, _⟩, _⟩ := h
  obtain rfl := Option.some.inj (gSig.symm.trans hg')
  obtain rfl := Option.some.inj (gSigT.symm.trans ht')
  have e := cells_of_strs Tryd.underlying68 Tryd.underlying9 str_cells sig_cells hd
  intro j v hv
  have := World.var?_cell gSig hvar j
  rw [this]
  have e2 : cs = signsV := by
    apply Array.ext'
    rw [e]
    rfl
  rw [e2]
  simpa using hv

theorem env_of {W : World} (h : laidMetH Tryd.prog laid8 W) : EnvX W := by
  rw [MakeChecks.laidMetH_plain _ _ _ (by kernel_rfl)] at h
  have h2 := h.tail.tail
  have h4 := h2.tail.tail
  have h5 := h4.tail
  have h6 := h5.tail
  rw [pow10_data] at h2
  rw [signs_data] at h6
  refine ⟨⟨Lib.tabIs_of_head gPow gPowT Tryd.underlying121 Tryd.underlying103 u64_cells pow_cells h2, ?_, ?_⟩, signs_of_head h6⟩
  · obtain ⟨a, s, hv, -⟩ := laid_sentinel h5 gSyn gSynT Tryd.underlying80 row_err Tryd.underlying117 Tryd.underlying119 rfl rfl Tryd.underlying9 err_cells str_cells
    exact ⟨_, _, by simpa using World.var?_cell gSyn hv 0⟩
  · obtain ⟨a, s, hv, -⟩ := laid_sentinel h4 gRng gRngT Tryd.underlying80 row_err Tryd.underlying117 Tryd.underlying119 rfl rfl Tryd.underlying9 err_cells str_cells
    exact ⟨_, _, by simpa using World.var?_cell gRng hv 0⟩

/-- A heap in which the variables are laid meets the condition. -/
theorem lay_met (os : Os) (args : Array Value) : laidMetH Tryd.prog laid8 ((World.laidAll Tryd.prog os laid8).forCall (fun _ _ => 0) ⟨#[], args, []⟩).memory := by
  rw [MakeChecks.laidMetH_plain _ _ _ (by kernel_rfl)]
  exact laidMet_laidAll _ (by kernel_rfl) (by kernel_rfl)

end Go.Proofs.YtlnnblfkigcipaaDoor
