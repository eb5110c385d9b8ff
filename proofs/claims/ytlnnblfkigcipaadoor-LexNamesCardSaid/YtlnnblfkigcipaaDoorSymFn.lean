/- What isCapital, isSmall, isInner, Word and Valid answer. Conditions: none. -/
import Derived.Test.YtlnnblfkigcipaaDoorSymPl
import Derived.Test.YtlnnblfkigcipaaDoorCmp
import Derived.Deep.LoopGhost
namespace Go.Proofs.YtlnnblfkigcipaaDoor
open Go Go.RowKit

theorem ret_b {a b : Bool} (h : a = b) : Ending.returned (.bool a) = Ending.returned (.bool b) := by rw [h]

theorem cap_T (w : World) (c : Int) : Calls Tryd.prog 59 #[.int .u8 c] w fun e w' => e = .returned (.bool (capI c)) ∧ w = w' := by
  go_enter Tryd.func59, Tryd.ntmps59
  go_wp2_with fail
  all_goals go_ret
  · have h : 65 ≤ c := by assumption
    exact ⟨ret_b (by simp [capI, h]), rfl⟩
  · have h : c < 65 := by assumption
    exact ⟨ret_b (by simp [capI, Int.not_le.2 h]), rfl⟩

theorem small_T (w : World) (c : Int) : Calls Tryd.prog 47 #[.int .u8 c] w fun e w' => e = .returned (.bool (smallI c)) ∧ w = w' := by
  go_enter Tryd.func47, Tryd.ntmps47
  go_wp2_with fail
  all_goals go_ret
  · have h : 97 ≤ c := by assumption
    exact ⟨ret_b (by simp [smallI, h]), rfl⟩
  · have h : c < 97 := by assumption
    exact ⟨ret_b (by simp [smallI, Int.not_le.2 h]), rfl⟩

theorem inner_T (w : World) (c : Int) : Calls Tryd.prog 48 #[.int .u8 c] w fun e w' => e = .returned (.bool (innerI c)) ∧ w = w' := by
  go_enter Tryd.func48, Tryd.ntmps48
  go_wp2_with fail
  refine (small_T _ _).mono ?_
  rintro e w' ⟨rfl, rfl⟩
  cases h1 : smallI c
  · go_wp2_with fail
    all_goals go_ret
    · have h2 : 48 ≤ c := by assumption
      have h3 : ¬ c = 45 := by assumption
      exact ⟨ret_b (by simp [innerI, h1, h2]), rfl⟩
    · have h2 : 48 ≤ c := by assumption
      have h3 : c ≤ 57 := by assumption
      exact ⟨ret_b (by simp [innerI, h2, h3]), rfl⟩
    · exact ⟨ret_b (by simp [innerI]), rfl⟩
    · have h2 : c < 48 := by assumption
      exact ⟨ret_b (by simp [innerI, h1, Int.not_le.2 h2]), rfl⟩
  · go_wp2_with fail
    go_ret
    exact ⟨ret_b (by simp [innerI, h1]), rfl⟩

theorem hd_pos {t : ByteArray} (h : 0 < t.size) : hd t = (t[0].toNat : Int) := by unfold hd; rw [dif_pos h]

theorem take_succ (s : ByteArray) (k : Nat) (h : k < s.size) : s.data.toList.take (k + 1) = s.data.toList.take k ++ [s[k]] := by
  rw [List.take_succ_eq_append_getElem (by simpa using h)]; rfl

set_option maxHeartbeats 400000 in
theorem word_any (w : World) (t : ByteArray) : Calls Tryd.prog 40 #[.string t] w fun e w' => e = .returned (.bool (wordB t)) ∧ w = w' := by
  by_cases h0 : t.size = 0
  · have e0 : t.toList = [] := by rw [ByteArray.toList_eq]; exact List.length_eq_zero_iff.1 (by simpa using h0)
    have e1 : t.toList.isEmpty = true := by rw [e0]; rfl
    go_enter Tryd.func40, Tryd.ntmps40
    go_wp2_with fail
    go_ret
    exact ⟨ret_b (by simp [wordB, h0]), rfl⟩
  · have hpos : 0 < t.size := by omega
    have e1 : t.toList.isEmpty = false := by
      rw [ByteArray.toList_eq]
      cases hl : t.data.toList with
      | nil => exfalso; apply h0; have := congrArg List.length hl; simpa using this
      | cons _ _ => rfl
    have e2 : ¬ t.toList = [] := by intro h; rw [h] at e1; cases e1
    by_cases h32 : t.size ≤ 32
    · have hm : t.size ≤ 9223372036854775807 := by omega
      have f1 : ((32 : Int) < (t.size : Int)) = False := eq_false (by omega)
      have hs := Lib.hid (hd_pos hpos)
      cases hsm : smallI (hd t)
      · rw [hs.out] at hsm
        go_enter Tryd.func40, Tryd.ntmps40
        go_wp2_with fail
        refine (small_T _ _).mono ?_
        rintro e w' ⟨rfl, rfl⟩
        go_wp2_with fail
        go_ret
        exact ⟨ret_b (by simp [wordB, hs.out, hsm]), rfl⟩
      · rw [hs.out] at hsm
        have Hsm := Lib.hid hsm
        go_enter Tryd.func40, Tryd.ntmps40
        go_wp2_with fail
        refine (small_T _ _).mono ?_
        rintro e w' ⟨rfl, rfl⟩
        go_wp2_with fail
        go_loopg [19] (t.size - 0) (fun k i wr => ∃ j : Nat, i = .int .i64 j ∧ j ≤ t.size ∧ Hid (k = t.size - j) ∧ Hid ((t.data.toList.take j).all (fun c => innerI (c.toNat : Int)) = true) ∧ w = wr)
        case atStart => exact ⟨0, rfl, by omega, Lib.hid rfl, Lib.hid rfl, rfl⟩
        case round =>
          obtain ⟨j, rfl, hj, Hk, Hall, rfl⟩ := hrel
          by_cases hlt : j < t.size
          · have Hts := Lib.hid (take_succ t j hlt)
            cases hin : innerI ((t[j].toNat : Nat) : Int)
            · go_wp2_with fail
              refine (inner_T _ _).mono ?_
              rintro e w' ⟨rfl, rfl⟩
              go_wp2_with fail
              go_ret
              refine ⟨ret_b ?_, rfl⟩
              have : innerAll t = false := by
                unfold innerAll
                rw [List.all_eq_false]
                exact ⟨t.data.toList[j]'(by simpa using hlt), List.getElem_mem _, by show ¬ innerI ((t[j].toNat : Nat) : Int) = true; rw [hin]; simp⟩
              simp [wordB, this]
            · go_wp2_with fail
              refine (inner_T _ _).mono ?_
              rintro e w' ⟨rfl, rfl⟩
              go_wp2_with fail
              go_roundg (t.size - (j + 1))
              case measure => rw [Hk.out]; omega
              case rel => exact ⟨j + 1, by go_num, by omega, Lib.hid rfl, Lib.hid (by rw [Hts.out, List.all_append, Hall.out]; simp [hin]), rfl⟩
          · obtain rfl : j = t.size := by omega
            go_wp2_with fail
            go_ret
            refine ⟨ret_b ?_, rfl⟩
            have h1 := Hall.out
            rw [List.take_of_length_le (by simp)] at h1
            simp [wordB, innerAll, h1, hpos, h32, hs.out, Hsm.out]
    · have f1 : ((32 : Int) < (t.size : Int)) = True := eq_true (by omega)
      go_enter Tryd.func40, Tryd.ntmps40
      go_wp2_with fail
      go_ret
      exact ⟨ret_b (by simp [wordB, h32]), rfl⟩

theorem word_T (w : World) (t : ByteArray) (_ : t.size ≤ maxLen) : Calls Tryd.prog 40 #[.string t] w fun e w' => e = .returned (.bool (wordB t)) ∧ w = w' := word_any w t

end Go.Proofs.YtlnnblfkigcipaaDoor
