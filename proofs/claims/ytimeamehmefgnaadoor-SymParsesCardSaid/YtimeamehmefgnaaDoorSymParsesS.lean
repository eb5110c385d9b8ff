/- SymParses returns true, whatever it is given. Conditions: strconv's table of powers and its two errors lie as the program lays them. -/
import Derived.Test.YtimeamehmefgnaaDoorWakesSS
import Derived.Test.YtimeamehmefgnaaDoorSyParseS
namespace Go.Proofs.YtimeamehmefgnaaDoor
open Go Go.RowKit

set_option maxHeartbeats 1600000 in
theorem symparses_short (w : World) (t : ByteArray) (hs : t.size ≤ 200) (hE : Env w) : Calls Tryd.prog 4 #[.string t] w fun e w' => e = .returned (.bool true) ∧ Below w.heap.size w w' := by
  have f1 : ((200 : Int) < (t.size : Int)) = False := eq_false (by omega)
  have k1 := parse_T w t (by omega) hE
  have k2 := fun w => refparse_T w t (by omega)
  have k3 := fun w => word_T w t (by unfold maxLen; omega)
  have k4 := fun w => refword_T w t (by unfold maxLen; omega)
  have hsame : same ⟨(parseV t).k, (parseV t).t, (parseV t).n⟩ ⟨(parseV t).k, (parseV t).t, (parseV t).n⟩ = true := same_iff.2 rfl
  have hse := sym_eql
  obtain ⟨po, hpo⟩ : ∃ b, parseOk t = b := ⟨_, rfl⟩
  obtain ⟨pv, hpv⟩ : ∃ v, parseV t = v := ⟨_, rfl⟩
  obtain ⟨wo, hwo⟩ : ∃ b, wordB t = b := ⟨_, rfl⟩
  rw [hpo, hpv] at k1 k2
  rw [hwo] at k3 k4
  rw [hpv] at hsame
  clear hpo hpv hwo hs
  cases po <;> cases wo
  all_goals
    go_enter Tryd.func4, Tryd.ntmps4
    go_wp2_with fail
    refine k1.mono ?_
    rintro e w1 ⟨rfl, hB1⟩
    have hBx := box1_S w1 pv
    have hbx := heap_alloc_new w1 (.cells #[.int .i64 pv.k, .string pv.t, .int .i64 pv.n] 23)
    have hC2 := hB1.trans (hBx.mono hB1.size)
    go_wp2_with fail
    generalize (w1.alloc (.cells #[.int .i64 pv.k, .string pv.t, .int .i64 pv.n] 23)) = w2 at hBx hbx hC2 ⊢
    refine (k2 w2).mono ?_
    rintro e w3 ⟨rfl, hB3⟩
    have hbx3 := (hB3.block _ (lt_of_block hbx)).trans hbx
    have hC3 := hC2.trans (hB3.mono hC2.size)
    have d0 : w3.cell? ⟨w1.heap.size, 0, none⟩ = some (.int .i64 pv.k) := by simp [World.cell?, hbx3]
    have d1 : w3.cell? ⟨w1.heap.size, 1, none⟩ = some (.string pv.t) := by simp [World.cell?, hbx3]
    have d2 : w3.cell? ⟨w1.heap.size, 2, none⟩ = some (.int .i64 pv.n) := by simp [World.cell?, hbx3]
    have hl3 : w1.heap.size < w3.heap.size := lt_of_block hbx3
    have hBy := box1_S w3 pv
    have hC4 := hC3.trans (hBy.mono hC3.size)
    clear hbx hbx3
    go_wp2_with fail
    refine (k3 _).mono ?_
    rintro e w' ⟨rfl, rfl⟩
    go_wp2_with fail
    refine (k4 _).mono ?_
    rintro e w' ⟨rfl, rfl⟩
    go_wp2_with fail
    refine (wakes_T _ (hE.below hC4)).mono ?_
    rintro e w5 ⟨rfl, hB5⟩
    go_wp2_with fail
    go_ret
    exact ⟨rfl, hC4.trans (hB5.mono hC4.size)⟩

theorem symparses_walk (w : World) (t : ByteArray) (hE : Env w) : Calls Tryd.prog 4 #[.string t] w fun e w' => e = .returned (.bool true) ∧ Below w.heap.size w w' := by
  by_cases hs : t.size ≤ 200
  · exact symparses_short w t hs hE
  · have f1 : ((200 : Int) < (t.size : Int)) = True := eq_true (by omega)
    clear hs
    go_enter Tryd.func4, Tryd.ntmps4
    go_wp2_with fail
    refine (wakes_T w hE).mono ?_
    rintro e w1 ⟨rfl, hB1⟩
    go_wp2_with fail
    go_ret
    exact ⟨rfl, hB1⟩

end Go.Proofs.YtimeamehmefgnaaDoor
