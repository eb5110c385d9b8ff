/- What the statements' own Part, Word, Valid answer. Conditions: none. -/
import Derived.Test.YtmnpcpgdhaplaaaMg3
import Derived.Test.YtmnpcpgdhaplaaaMg13
import Derived.Laws.BytesArg
namespace Go.Proofs.Ytmnpcpgdhaplaaa
open Go Go.RowKit

theorem part_T (w : World) (c : Int) : Calls Try.prog 71 #[.int .u8 c] w fun e w' => e = .returned (.bool (innerI c)) ∧ w = w' := by
  go_enter Try.func71, Try.ntmps71
  go_wp2_with fail
  all_goals go_ret
  all_goals refine ⟨ret_b ?_, rfl⟩
  all_goals (rw [Bool.eq_iff_iff]; simp [innerI, smallI] <;> omega)

set_option maxHeartbeats 400000 in
theorem refword_T (w : World) (t : ByteArray) (hm : t.size ≤ maxLen) : Calls Try.prog 42 #[.string t] w fun e w' => e = .returned (.bool (wordB t)) ∧ w = w' := by
  unfold maxLen at hm
  by_cases h0 : t.size = 0
  · have f0 : ((t.size : Int) < 1) = True := eq_true (by omega)
    have H0 := Lib.hid h0
    clear h0
    go_enter Try.func42, Try.ntmps42
    go_wp2_with fail
    go_ret
    exact ⟨ret_b (by simp [wordB, H0.out]), rfl⟩
  · have hpos : 0 < t.size := by omega
    have hposi : (0 : Int) < (t.size : Int) := by omega
    have f0 : ((t.size : Int) < 1) = False := eq_false (by omega)
    by_cases h32 : t.size ≤ 32
    · have f1 : ((32 : Int) < (t.size : Int)) = False := eq_false (by omega)
      have hs := Lib.hid (hd_pos hpos)
      obtain ⟨c, hcc⟩ : ∃ c : Int, hd t = c := ⟨_, rfl⟩
      have Hc := Lib.hid hcc
      have hc' : ((t[0].toNat : Nat) : Int) = c := hs.out.symm.trans hcc
      have Hc' := Lib.hid hc'
      clear hcc hc'
      cases hsm : smallI ((t[0].toNat : Nat) : Int)
      · have hsm' : ((t[0].toNat : Nat) : Int) < 97 ∨ 122 < ((t[0].toNat : Nat) : Int) := by
          simp only [smallI, Bool.and_eq_false_iff, decide_eq_false_iff_not] at hsm; omega
        have Hsm := Lib.hid hsm
        clear hsm
        rcases hsm' with hsm' | hsm'
        · go_enter Try.func42, Try.ntmps42
          go_wp2_with fail
          go_ret
          exact ⟨ret_b (by simp [wordB, hs.out, Hsm.out]), rfl⟩
        · have hsm2 : (((t[0].toNat : Nat) : Int) < 97) = False := eq_false (by omega)
          go_enter Try.func42, Try.ntmps42
          go_wp2_with fail
          go_ret
          exact ⟨ret_b (by simp [wordB, hs.out, Hsm.out]), rfl⟩
      · have hsm' : 97 ≤ ((t[0].toNat : Nat) : Int) ∧ ((t[0].toNat : Nat) : Int) ≤ 122 := by
          simpa [smallI] using hsm
        have g1 : (((t[0].toNat : Nat) : Int) < 97) = False := eq_false (by omega)
        have g2 : ((122 : Int) < ((t[0].toNat : Nat) : Int)) = False := eq_false (by omega)
        have Hsm := Lib.hid hsm
        clear hsm hsm'
        go_enter Try.func42, Try.ntmps42
        go_wp2_with fail
        go_loopg [3] (t.size - 0) (fun k i wr => ∃ j : Nat, i = .int .i64 j ∧ j ≤ t.size ∧ Hid (k = t.size - j) ∧ Hid ((t.data.toList.take j).all (fun c => innerI (c.toNat : Int)) = true) ∧ w = wr)
        case atStart => exact ⟨0, rfl, by omega, Lib.hid rfl, Lib.hid rfl, rfl⟩
        case round =>
          obtain ⟨j, rfl, hj, Hk, Hall, rfl⟩ := hrel
          by_cases hlt : j < t.size
          · have Hts := Lib.hid (take_succ t j hlt)
            cases hin : innerI ((t[j].toNat : Nat) : Int)
            · go_wp2_with fail
              refine (part_T _ _).mono ?_
              rintro e w' ⟨rfl, rfl⟩
              go_wp2_with fail
              go_ret
              refine ⟨ret_b ?_, rfl⟩
              have : innerAll t = false := by
                unfold innerAll
                rw [List.all_eq_false]
                exact ⟨t.data.toList[j]'(by simpa using hlt), List.getElem_mem _, by show ¬ innerI ((t[j].toNat : Nat) : Int) = true; rw [hin]; simp⟩
              simp [wordB, this]
            · go_wp2_with fail
              refine (part_T _ _).mono ?_
              rintro e w' ⟨rfl, rfl⟩
              go_wp2_with fail
              go_roundg (t.size - (j + 1))
              case measure => rw [Hk.out]; omega
              case rel => exact ⟨j + 1, by go_num, by omega, Lib.hid rfl, Lib.hid (by rw [Hts.out, List.all_append, Hall.out]; simp [hin]), rfl⟩
          · obtain rfl : j = t.size := by omega
            go_wp2_with fail
            go_ret
            refine ⟨ret_b ?_, rfl⟩
            have h1 := Hall.out
            rw [List.take_of_length_le (by simp)] at h1
            simp [wordB, innerAll, h1, hpos, h32, hs.out, Hsm.out]
    · have f1 : ((32 : Int) < (t.size : Int)) = True := eq_true (by omega)
      go_enter Try.func42, Try.ntmps42
      go_wp2_with fail
      go_ret
      exact ⟨ret_b (by simp [wordB, h32]), rfl⟩

set_option maxHeartbeats 800000 in
theorem refvalid_T (w : World) (x : SymV) (hm : x.t.size ≤ maxLen) : Calls Try.prog 106 #[.agg #[.int .i64 x.k, .string x.t, .int .i64 x.n]] w fun e w' => e = .returned (.bool (validB x)) ∧ Below w.heap.size w w' := by
  have hB := Lib.hid (box1_S w x)
  by_cases k1 : x.k = 1
  · have b1 : (x.k == 1) = true := by simp [k1]
    have Hk := Lib.hid k1
    clear k1
    by_cases hz : x.t.size = 1
    · have hpos : 0 < x.t.size := by omega
      have z1 : ((x.t.size : Int) == 1) = true := by simp [hz]
      have Hz := Lib.hid hz
      have Hs := Lib.hid (hd_pos hpos)
      clear hz
      go_enter Try.func106, Try.ntmps106
      go_wp2_with fail
      all_goals go_ret
      all_goals refine ⟨ret_b ?_, hB.out⟩
      all_goals (rw [Bool.eq_iff_iff]; simp [validB, Hk.out, Hz.out, Hs.out, capI] <;> omega)
    · have z1 : ((x.t.size : Int) == 1) = false := by simp; omega
      have Hz := Lib.hid hz
      clear hz
      go_enter Try.func106, Try.ntmps106
      go_wp2_with fail
      go_ret
      exact ⟨ret_b (by simp [validB, Hk.out, Hz.out]), hB.out⟩
  · have b1 : (x.k == 1) = false := by simp [k1]
    have Hk := Lib.hid k1
    clear k1
    by_cases k2 : x.k = 2
    · have b2 : (x.k == 2) = true := by simp [k2]
      have Hk2 := Lib.hid k2
      clear k2
      by_cases h0 : x.t.size = 0
      · have e0 : x.t.toList = [] := by rw [ByteArray.toList_eq]; exact List.length_eq_zero_iff.1 (by simpa using h0)
        have e1 : x.t.toList.isEmpty = true := by rw [e0]; rfl
        have H0 := Lib.hid h0
        clear h0
        go_enter Try.func106, Try.ntmps106
        go_wp2_with fail
        all_goals go_ret
        · have h : -2147483647 ≤ x.n := by assumption
          exact ⟨ret_b (by simp [validB, Hk.out, Hk2.out, H0.out, h]), hB.out⟩
        · have h : x.n < -2147483647 := by assumption
          exact ⟨ret_b (by simp [validB, Hk.out, Hk2.out, Int.not_le.2 h]), hB.out⟩
      · have e1 : x.t.toList.isEmpty = false := by
          rw [ByteArray.toList_eq]
          cases hl : x.t.data.toList with
          | nil => exfalso; apply h0; have := congrArg List.length hl; simpa using this
          | cons _ _ => rfl
        have e2 : ¬ x.t.toList = [] := by intro h; rw [h] at e1; cases e1
        have H0 := Lib.hid h0
        clear h0
        go_enter Try.func106, Try.ntmps106
        go_wp2_with fail
        go_ret
        exact ⟨ret_b (by simp [validB, Hk.out, Hk2.out, H0.out]), hB.out⟩
    · have b2 : (x.k == 2) = false := by simp [k2]
      have Hk2 := Lib.hid k2
      clear k2
      by_cases k3 : x.k = 3
      · have b3 : (x.k == 3) = true := by simp [k3]
        have Hk3 := Lib.hid k3
        clear k3
        by_cases hn : x.n = 0
        · have n1 : (x.n == 0) = true := by simp [hn]
          have Hn := Lib.hid hn
          clear hn
          go_enter Try.func106, Try.ntmps106
          go_wp2_with fail
          refine (refword_T _ _ hm).mono ?_
          rintro e w' ⟨rfl, rfl⟩
          go_wp2_with fail
          go_ret
          exact ⟨ret_b (by simp [validB, Hk.out, Hk2.out, Hk3.out, Hn.out]), hB.out⟩
        · have n1 : (x.n == 0) = false := by simp [hn]
          have Hn := Lib.hid hn
          clear hn
          go_enter Try.func106, Try.ntmps106
          go_wp2_with fail
          go_ret
          exact ⟨ret_b (by simp [validB, Hk.out, Hk2.out, Hk3.out, Hn.out]), hB.out⟩
      · have b3 : (x.k == 3) = false := by simp [k3]
        have Hk3 := Lib.hid k3
        clear k3
        go_enter Try.func106, Try.ntmps106
        go_wp2_with fail
        go_ret
        exact ⟨ret_b (by simp [validB, Hk.out, Hk2.out, Hk3.out]), hB.out⟩

end Go.Proofs.Ytmnpcpgdhaplaaa
