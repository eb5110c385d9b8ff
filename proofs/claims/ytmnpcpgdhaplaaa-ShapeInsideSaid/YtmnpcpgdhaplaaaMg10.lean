/- What isCapital, isSmall, isInner, Word and Valid answer. Conditions: none.
What Valid answers. Conditions: none. -/
import Derived.Test.YtmnpcpgdhaplaaaMg2
import Derived.Deep.LoopGhost
namespace Go.Proofs.Ytmnpcpgdhaplaaa
open Go Go.RowKit

theorem ret_b {a b : Bool} (h : a = b) : Ending.returned (.bool a) = Ending.returned (.bool b) := by rw [h]

theorem cap_T (w : World) (c : Int) : Calls Try.prog 115 #[.int .u8 c] w fun e w' => e = .returned (.bool (capI c)) ∧ w = w' := by
  go_enter Try.func115, Try.ntmps115
  go_wp2_with fail
  all_goals go_ret
  · have h : 65 ≤ c := by assumption
    exact ⟨ret_b (by simp [capI, h]), rfl⟩
  · have h : c < 65 := by assumption
    exact ⟨ret_b (by simp [capI, Int.not_le.2 h]), rfl⟩

theorem small_T (w : World) (c : Int) : Calls Try.prog 88 #[.int .u8 c] w fun e w' => e = .returned (.bool (smallI c)) ∧ w = w' := by
  go_enter Try.func88, Try.ntmps88
  go_wp2_with fail
  all_goals go_ret
  · have h : 97 ≤ c := by assumption
    exact ⟨ret_b (by simp [smallI, h]), rfl⟩
  · have h : c < 97 := by assumption
    exact ⟨ret_b (by simp [smallI, Int.not_le.2 h]), rfl⟩

theorem inner_T (w : World) (c : Int) : Calls Try.prog 89 #[.int .u8 c] w fun e w' => e = .returned (.bool (innerI c)) ∧ w = w' := by
  go_enter Try.func89, Try.ntmps89
  go_wp2_with fail
  refine (small_T _ _).mono ?_
  rintro e w' ⟨rfl, rfl⟩
  cases h1 : smallI c
  · go_wp2_with fail
    all_goals go_ret
    · have h2 : 48 ≤ c := by assumption
      have h3 : ¬ c = 45 := by assumption
      exact ⟨ret_b (by simp [innerI, h1, h2]), rfl⟩
    · have h2 : 48 ≤ c := by assumption
      have h3 : c ≤ 57 := by assumption
      exact ⟨ret_b (by simp [innerI, h2, h3]), rfl⟩
    · exact ⟨ret_b (by simp [innerI]), rfl⟩
    · have h2 : c < 48 := by assumption
      exact ⟨ret_b (by simp [innerI, h1, Int.not_le.2 h2]), rfl⟩
  · go_wp2_with fail
    go_ret
    exact ⟨ret_b (by simp [innerI, h1]), rfl⟩

theorem hd_pos {t : ByteArray} (h : 0 < t.size) : hd t = (t[0].toNat : Int) := by unfold hd; rw [dif_pos h]

theorem take_succ (s : ByteArray) (k : Nat) (h : k < s.size) : s.data.toList.take (k + 1) = s.data.toList.take k ++ [s[k]] := by
  rw [List.take_succ_eq_append_getElem (by simpa using h)]; rfl

set_option maxHeartbeats 400000 in
theorem word_any (w : World) (t : ByteArray) : Calls Try.prog 62 #[.string t] w fun e w' => e = .returned (.bool (wordB t)) ∧ w = w' := by
  by_cases h0 : t.size = 0
  · have e0 : t.toList = [] := by rw [ByteArray.toList_eq]; exact List.length_eq_zero_iff.1 (by simpa using h0)
    have e1 : t.toList.isEmpty = true := by rw [e0]; rfl
    go_enter Try.func62, Try.ntmps62
    go_wp2_with fail
    go_ret
    exact ⟨ret_b (by simp [wordB, h0]), rfl⟩
  · have hpos : 0 < t.size := by omega
    have e1 : t.toList.isEmpty = false := by
      rw [ByteArray.toList_eq]
      cases hl : t.data.toList with
      | nil => exfalso; apply h0; have := congrArg List.length hl; simpa using this
      | cons _ _ => rfl
    have e2 : ¬ t.toList = [] := by intro h; rw [h] at e1; cases e1
    by_cases h32 : t.size ≤ 32
    · have hm : t.size ≤ 9223372036854775807 := by omega
      have f1 : ((32 : Int) < (t.size : Int)) = False := eq_false (by omega)
      have hs := Lib.hid (hd_pos hpos)
      cases hsm : smallI (hd t)
      · rw [hs.out] at hsm
        go_enter Try.func62, Try.ntmps62
        go_wp2_with fail
        refine (small_T _ _).mono ?_
        rintro e w' ⟨rfl, rfl⟩
        go_wp2_with fail
        go_ret
        exact ⟨ret_b (by simp [wordB, hs.out, hsm]), rfl⟩
      · rw [hs.out] at hsm
        have Hsm := Lib.hid hsm
        go_enter Try.func62, Try.ntmps62
        go_wp2_with fail
        refine (small_T _ _).mono ?_
        rintro e w' ⟨rfl, rfl⟩
        go_wp2_with fail
        go_loopg [19] (t.size - 0) (fun k i wr => ∃ j : Nat, i = .int .i64 j ∧ j ≤ t.size ∧ Hid (k = t.size - j) ∧ Hid ((t.data.toList.take j).all (fun c => innerI (c.toNat : Int)) = true) ∧ w = wr)
        case atStart => exact ⟨0, rfl, by omega, Lib.hid rfl, Lib.hid rfl, rfl⟩
        case round =>
          obtain ⟨j, rfl, hj, Hk, Hall, rfl⟩ := hrel
          by_cases hlt : j < t.size
          · have Hts := Lib.hid (take_succ t j hlt)
            cases hin : innerI ((t[j].toNat : Nat) : Int)
            · go_wp2_with fail
              refine (inner_T _ _).mono ?_
              rintro e w' ⟨rfl, rfl⟩
              go_wp2_with fail
              go_ret
              refine ⟨ret_b ?_, rfl⟩
              have : innerAll t = false := by
                unfold innerAll
                rw [List.all_eq_false]
                exact ⟨t.data.toList[j]'(by simpa using hlt), List.getElem_mem _, by show ¬ innerI ((t[j].toNat : Nat) : Int) = true; rw [hin]; simp⟩
              simp [wordB, this]
            · go_wp2_with fail
              refine (inner_T _ _).mono ?_
              rintro e w' ⟨rfl, rfl⟩
              go_wp2_with fail
              go_roundg (t.size - (j + 1))
              case measure => rw [Hk.out]; omega
              case rel => exact ⟨j + 1, by go_num, by omega, Lib.hid rfl, Lib.hid (by rw [Hts.out, List.all_append, Hall.out]; simp [hin]), rfl⟩
          · obtain rfl : j = t.size := by omega
            go_wp2_with fail
            go_ret
            refine ⟨ret_b ?_, rfl⟩
            have h1 := Hall.out
            rw [List.take_of_length_le (by simp)] at h1
            simp [wordB, innerAll, h1, hpos, h32, hs.out, Hsm.out]
    · have f1 : ((32 : Int) < (t.size : Int)) = True := eq_true (by omega)
      go_enter Try.func62, Try.ntmps62
      go_wp2_with fail
      go_ret
      exact ⟨ret_b (by simp [wordB, h32]), rfl⟩

theorem word_T (w : World) (t : ByteArray) (_ : t.size ≤ maxLen) : Calls Try.prog 62 #[.string t] w fun e w' => e = .returned (.bool (wordB t)) ∧ w = w' := word_any w t

end Go.Proofs.Ytmnpcpgdhaplaaa

namespace Go.Proofs.Ytmnpcpgdhaplaaa
open Go Go.RowKit

theorem box1_S (w : World) (x : SymV) : Below w.heap.size w (w.alloc (.cells #[.int .i64 x.k, .string x.t, .int .i64 x.n] 47)) := (Below.refl _ w).alloc (Nat.le_refl _) _

theorem size_one {t : ByteArray} (h : (t.size : Int) = 1) : 0 < t.size := by omega

set_option maxHeartbeats 800000 in
theorem valid_any (w : World) (x : SymV) : Calls Try.prog 104 #[.agg #[.int .i64 x.k, .string x.t, .int .i64 x.n]] w fun e w' => e = .returned (.bool (validB x)) ∧ Below w.heap.size w w' := by
  have hB := Lib.hid (box1_S w x)
  by_cases k1 : x.k = 1
  · have b1 : (x.k == 1) = true := by simp [k1]
    have Hk := Lib.hid k1
    clear k1
    by_cases hz : x.t.size = 1
    · have hpos : 0 < x.t.size := by omega
      have z1 : ((x.t.size : Int) == 1) = true := by simp [hz]
      have Hz := Lib.hid hz
      have Hs := Lib.hid (hd_pos hpos)
      clear hz
      cases hc : capI ((x.t[0].toNat : Nat) : Int)
      · go_enter Try.func104, Try.ntmps104
        go_wp2_with fail
        refine (cap_T _ _).mono ?_
        rintro e w' ⟨rfl, rfl⟩
        go_wp2_with fail
        go_ret
        exact ⟨ret_b (by simp [validB, Hk.out, Hs.out, hc]), hB.out⟩
      · go_enter Try.func104, Try.ntmps104
        go_wp2_with fail
        refine (cap_T _ _).mono ?_
        rintro e w' ⟨rfl, rfl⟩
        go_wp2_with fail
        all_goals go_ret
        · have h : 1 ≤ x.n := by assumption
          exact ⟨ret_b (by simp [validB, Hk.out, Hz.out, Hs.out, hc, h]), hB.out⟩
        · have h : x.n < 1 := by assumption
          exact ⟨ret_b (by simp [validB, Hk.out, Int.not_le.2 h]), hB.out⟩
    · have z1 : ((x.t.size : Int) == 1) = false := by simp; omega
      have Hz := Lib.hid hz
      clear hz
      go_enter Try.func104, Try.ntmps104
      go_wp2_with fail
      go_ret
      exact ⟨ret_b (by simp [validB, Hk.out, Hz.out]), hB.out⟩
  · have b1 : (x.k == 1) = false := by simp [k1]
    have Hk := Lib.hid k1
    clear k1
    by_cases k2 : x.k = 2
    · have b2 : (x.k == 2) = true := by simp [k2]
      have Hk2 := Lib.hid k2
      clear k2
      by_cases h0 : x.t.size = 0
      · have e0 : x.t.toList = [] := by rw [ByteArray.toList_eq]; exact List.length_eq_zero_iff.1 (by simpa using h0)
        have e1 : x.t.toList.isEmpty = true := by rw [e0]; rfl
        have H0 := Lib.hid h0
        clear h0
        go_enter Try.func104, Try.ntmps104
        go_wp2_with fail
        all_goals go_ret
        · have h : -2147483647 ≤ x.n := by assumption
          exact ⟨ret_b (by simp [validB, Hk.out, Hk2.out, H0.out, h]), hB.out⟩
        · have h : x.n < -2147483647 := by assumption
          exact ⟨ret_b (by simp [validB, Hk.out, Hk2.out, Int.not_le.2 h]), hB.out⟩
      · have e1 : x.t.toList.isEmpty = false := by
          rw [ByteArray.toList_eq]
          cases hl : x.t.data.toList with
          | nil => exfalso; apply h0; have := congrArg List.length hl; simpa using this
          | cons _ _ => rfl
        have e2 : ¬ x.t.toList = [] := by intro h; rw [h] at e1; cases e1
        have H0 := Lib.hid h0
        clear h0
        go_enter Try.func104, Try.ntmps104
        go_wp2_with fail
        go_ret
        exact ⟨ret_b (by simp [validB, Hk.out, Hk2.out, H0.out]), hB.out⟩
    · have b2 : (x.k == 2) = false := by simp [k2]
      have Hk2 := Lib.hid k2
      clear k2
      by_cases k3 : x.k = 3
      · have b3 : (x.k == 3) = true := by simp [k3]
        have Hk3 := Lib.hid k3
        clear k3
        by_cases hn : x.n = 0
        · have n1 : (x.n == 0) = true := by simp [hn]
          have Hn := Lib.hid hn
          clear hn
          go_enter Try.func104, Try.ntmps104
          go_wp2_with fail
          refine (word_any _ _).mono ?_
          rintro e w' ⟨rfl, rfl⟩
          go_wp2_with fail
          go_ret
          exact ⟨ret_b (by simp [validB, Hk.out, Hk2.out, Hk3.out, Hn.out]), hB.out⟩
        · have n1 : (x.n == 0) = false := by simp [hn]
          have Hn := Lib.hid hn
          clear hn
          go_enter Try.func104, Try.ntmps104
          go_wp2_with fail
          go_ret
          exact ⟨ret_b (by simp [validB, Hk.out, Hk2.out, Hk3.out, Hn.out]), hB.out⟩
      · have b3 : (x.k == 3) = false := by simp [k3]
        have Hk3 := Lib.hid k3
        clear k3
        go_enter Try.func104, Try.ntmps104
        go_wp2_with fail
        go_ret
        exact ⟨ret_b (by simp [validB, Hk.out, Hk2.out, Hk3.out]), hB.out⟩

theorem valid_T (w : World) (x : SymV) (_ : x.t.size ≤ maxLen) : Calls Try.prog 104 #[.agg #[.int .i64 x.k, .string x.t, .int .i64 x.n]] w fun e w' => e = .returned (.bool (validB x)) ∧ Below w.heap.size w w' := valid_any w x

end Go.Proofs.Ytmnpcpgdhaplaaa
