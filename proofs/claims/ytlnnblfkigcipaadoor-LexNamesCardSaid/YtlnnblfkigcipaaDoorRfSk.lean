/- What the statements' own blank, small, digit, skip, parts answer. Conditions: the text is not too long. -/
import Derived.Test.YtlnnblfkigcipaaDoorLxPl
import Derived.Test.YtlnnblfkigcipaaDoorSyReadS
import Derived.Lib.IndexBytes
namespace Go.Proofs.YtlnnblfkigcipaaDoor
open Go Go.RowKit

def blankI (c : Int) : Bool := c == 32 || c == 9 || c == 10 || c == 13
def digI (c : Int) : Bool := decide (48 ≤ c) && decide (c ≤ 57)

theorem blank_eq (c : UInt8) : blankI (c.toNat : Int) = blankC c := by
  have := byte_all (fun c => blankI (c.toNat : Int) == blankC c) (by decide +kernel) c
  simpa using this
theorem dig_eq (c : UInt8) : digI (c.toNat : Int) = digB c := by
  have := byte_all (fun c => digI (c.toNat : Int) == digB c) (by decide +kernel) c
  simpa using this

theorem rblank_T (w : World) (c : Int) : Calls Tryd.prog 23 #[.int .u8 c] w fun e w' => e = .returned (.bool (blankI c)) ∧ w = w' := by
  by_cases h1 : c = 32
  · subst h1
    go_enter Tryd.func23, Tryd.ntmps23
    go_wp2_with fail
    go_ret
    exact ⟨rfl, rfl⟩
  · by_cases h2 : c = 9
    · subst h2
      go_enter Tryd.func23, Tryd.ntmps23
      go_wp2_with fail
      go_ret
      exact ⟨rfl, rfl⟩
    · by_cases h3 : c = 10
      · subst h3
        go_enter Tryd.func23, Tryd.ntmps23
        go_wp2_with fail
        go_ret
        exact ⟨rfl, rfl⟩
      · have b1 : (c == 32) = false := by simpa using h1
        have b2 : (c == 9) = false := by simpa using h2
        have b3 : (c == 10) = false := by simpa using h3
        have he : blankI c = (c == 13) := by simp [blankI, b1, b2, b3]
        rw [he]
        clear h1 h2 h3 he
        go_enter Tryd.func23, Tryd.ntmps23
        go_wp2_with fail
        go_ret
        exact ⟨rfl, rfl⟩

theorem rsmall_T (w : World) (c : Int) : Calls Tryd.prog 24 #[.int .u8 c] w fun e w' => e = .returned (.bool (smallI c)) ∧ w = w' := by
  go_enter Tryd.func24, Tryd.ntmps24
  go_wp2_with fail
  all_goals go_ret
  · have h : 97 ≤ c := by assumption
    exact ⟨ret_b (by simp [smallI, h]), rfl⟩
  · have h : c < 97 := by assumption
    exact ⟨ret_b (by simp [smallI, Int.not_le.2 h]), rfl⟩

theorem rdigit_T (w : World) (c : Int) : Calls Tryd.prog 27 #[.int .u8 c] w fun e w' => e = .returned (.bool (digI c)) ∧ w = w' := by
  go_enter Tryd.func27, Tryd.ntmps27
  go_wp2_with fail
  all_goals go_ret
  · have h : 48 ≤ c := by assumption
    exact ⟨ret_b (by simp [digI, h]), rfl⟩
  · have h : c < 48 := by assumption
    exact ⟨ret_b (by simp [digI, Int.not_le.2 h]), rfl⟩

theorem drop_at (t : ByteArray) (j : Nat) (h : j < t.size) : t.data.toList.drop j = t[j] :: t.data.toList.drop (j + 1) := by
  rw [List.drop_eq_getElem_cons (by rw [← size_list]; exact h)]
  rfl

set_option maxHeartbeats 400000 in
theorem parts_T (w : World) (t : ByteArray) (i : Nat) (hm : t.size ≤ 100000) (hi : i ≤ t.size) :
    Calls Tryd.prog 25 #[.string t, .int .i64 i] w fun e w' => e = .returned (.int .i64 ((i + ((t.data.toList.drop i).takeWhile innC).length : Nat))) ∧ w' = w := by
  have hts := Lib.hid (drop_at t)
  obtain ⟨Q, hQ⟩ : ∃ Q, i + ((t.data.toList.drop i).takeWhile innC).length = Q := ⟨_, rfl⟩
  rw [hQ]
  have HQ := Lib.hid hQ
  clear hQ
  go_enter Tryd.func25, Tryd.ntmps25
  go_wp2_with fail
  go_loopg [1] (t.size - i) (fun k iv wr => ∃ j : Nat, iv = .int .i64 j ∧ j ≤ t.size ∧ Hid (k = t.size - j) ∧ Hid (j + ((t.data.toList.drop j).takeWhile innC).length = Q) ∧ wr = w)
  case atStart => exact ⟨i, rfl, hi, Lib.hid rfl, HQ, rfl⟩
  case round =>
    obtain ⟨j, rfl, hj, Hk, Hq, rfl⟩ := hrel
    by_cases hlt : j < t.size
    · have hd := hts.out j hlt
      have hq := Hq.out
      rw [hd] at hq
      have hin : innerI ((t[j].toNat : Nat) : Int) = innC t[j] := rfl
      have Hin := Lib.hid hin
      clear hd hin
      cases hb : innerI ((t[j].toNat : Nat) : Int)
      · have hQ : j = Q := by rw [Hin.out] at hb; simpa [hb] using hq
        have HQ2 := Lib.hid hQ
        have Hb := Lib.hid hb
        clear hq hQ hb
        go_wp2_with fail
        refine (part_T _ _).mono ?_
        rw [Hb.out]
        rintro e w' ⟨rfl, rfl⟩
        go_wp2_with fail
        go_ret
        exact ⟨congrArg (fun q : Nat => Ending.returned (Value.int .i64 (q : Int))) HQ2.out, rfl⟩
      · have hQ : j + 1 + ((t.data.toList.drop (j + 1)).takeWhile innC).length = Q := by
          rw [Hin.out] at hb
          simp only [List.takeWhile_cons, hb, if_true, List.length_cons] at hq
          omega
        have HQ2 := Lib.hid hQ
        have Hb := Lib.hid hb
        clear hq hQ hb
        go_wp2_with fail
        refine (part_T _ _).mono ?_
        rw [Hb.out]
        rintro e w' ⟨rfl, rfl⟩
        go_wp2_with fail
        go_roundg (t.size - (j + 1))
        case measure => rw [Hk.out]; omega
        case rel => exact ⟨j + 1, by go_num, by omega, Lib.hid rfl, HQ2, rfl⟩
    · obtain rfl : j = t.size := by omega
      have hQ : t.size = Q := by
        have := Hq.out
        rw [List.drop_eq_nil_of_le (by rw [← size_list]; exact Nat.le_refl _)] at this
        simpa using this
      have HQ2 := Lib.hid hQ
      clear hQ
      go_wp2_with fail
      go_ret
      exact ⟨by rw [← HQ2.out]; rfl, rfl⟩

set_option maxHeartbeats 800000 in
theorem rskip_T (w : World) (t : ByteArray) (i : Nat) (hm : t.size ≤ 100000) (hi : i ≤ t.size) :
    Calls Tryd.prog 19 #[.string t, .int .i64 i] w fun e w' => e = .returned (.int .i64 ((t.size - (skipM false (t.data.toList.drop i)).length : Nat))) ∧ w' = w := by
  have hts := Lib.hid (drop_at t)
  obtain ⟨Q, hQ⟩ : ∃ Q, skipM false (t.data.toList.drop i) = Q := ⟨_, rfl⟩
  rw [hQ]
  have hend : t.data.toList.drop t.size = [] := List.drop_eq_nil_of_le (by rw [← size_list]; exact Nat.le_refl _)
  have Hend := Lib.hid hend
  have HQ := Lib.hid hQ
  obtain ⟨R, hR⟩ : ∃ R : Nat, R = t.size - Q.length := ⟨_, rfl⟩
  rw [← hR]
  have HR := Lib.hid hR
  have hlen : ∀ j, j ≤ t.size → (t.data.toList.drop j).length = t.size - j := fun j _ => by rw [List.length_drop, ← size_list]
  have Hlen := Lib.hid hlen
  clear hQ hend hR hlen
  go_enter Tryd.func19, Tryd.ntmps19
  go_wp2_with fail
  go_loopg [1, 10, 17] (t.size - i) (fun k iv b1v b2v wr => ∃ j : Nat, iv = .int .i64 j ∧ j ≤ t.size ∧ Hid (k = t.size - j) ∧ Hid (skipM false (t.data.toList.drop j) = Q) ∧ wr = w)
  case atStart => exact ⟨i, rfl, hi, Lib.hid rfl, HQ, rfl⟩
  case round =>
    obtain ⟨j, rfl, hj, Hk, Hq, rfl⟩ := hrel
    by_cases hlt : j < t.size
    · have hd := hts.out j hlt
      have hq := Hq.out
      rw [hd] at hq
      have hbe := blank_eq t[j]
      have Hbe := Lib.hid hbe
      have Hd := Lib.hid hd
      clear hd hbe
      cases hb : blankI ((t[j].toNat : Nat) : Int)
      · have hbc : blankC t[j] = false := by rw [← Hbe.out]; exact hb
        by_cases h35 : t[j] = 35
        · have hq2 : skipM true (t.data.toList.drop j) = Q := by
            rw [Hd.out, h35]
            rw [h35] at hq
            rw [skip_hash] at hq
            simpa [skipM] using hq
          have HQ2 := Lib.hid hq2
          have Hb := Lib.hid hb
          have b35 : (((t[j].toNat : Nat) : Int) == 35) = true := by rw [h35]; rfl
          have hlt' := Lib.hid hlt
          have h35' := Lib.hid h35
          clear hq hq2 hb hbc h35
          go_wp2_with fail
          refine (rblank_T _ _).mono ?_
          rw [Hb.out]
          rintro e w' ⟨rfl, rfl⟩
          go_wp2_with fail
          go_loopg [1] (t.size - j) (fun k iv wr2 => ∃ q : Nat, iv = .int .i64 q ∧ j ≤ q ∧ q ≤ t.size ∧ Hid (k = t.size - q) ∧ Hid (skipM true (t.data.toList.drop q) = Q) ∧ wr2 = wr)
          case atStart => exact ⟨j, rfl, Nat.le_refl _, by omega, Lib.hid rfl, HQ2, rfl⟩
          case round =>
            obtain ⟨q, rfl, hjq, hqs, Hk2, Hq2, rfl⟩ := hrel
            by_cases hq : q < t.size
            · have hdq := hts.out q hq
              have hqq := Hq2.out
              rw [hdq] at hqq
              have Hdq := Lib.hid hdq
              clear hdq
              by_cases h10 : t[q] = 10
              · have hq3 : skipM false (t.data.toList.drop q) = Q := by
                  rw [Hdq.out, h10]
                  rw [h10] at hqq
                  simpa [skipM, blankC] using hqq
                have HQ3 := Lib.hid hq3
                have b10 : (((t[q].toNat : Nat) : Int) != 10) = false := by rw [h10]; rfl
                have b11 : (((t[q].toNat : Nat) : Int) = 10) = True := by rw [h10]; exact eq_true rfl
                have hne : q ≠ j := by
                  rintro rfl
                  have h1 := h35'.out
                  rw [h10] at h1
                  revert h1
                  decide
                have Hne := Lib.hid hne
                clear hqq hq3 h10 hne
                go_wp2_with fail
                go_roundg (t.size - q)
                case measure => have := Hne.out; rw [Hk.out]; omega
                case rel => exact ⟨q, rfl, hqs, Lib.hid rfl, HQ3, rfl⟩
              · have hq3 : skipM true (t.data.toList.drop (q + 1)) = Q := by
                  simpa [skipM, h10] using hqq
                have HQ3 := Lib.hid hq3
                have b9 : ¬ ((t[q].toNat : Nat) : Int) = 10 := by
                  intro e
                  exact h10 (UInt8.toNat_inj.1 (by have : t[q].toNat = 10 := by omega
                                                   rw [this]; rfl))
                have b10 : (((t[q].toNat : Nat) : Int) != 10) = true := by simpa using b9
                have b11 : (((t[q].toNat : Nat) : Int) = 10) = False := eq_false b9
                clear hqq hq3 h10 b9
                go_wp2_with fail
                go_roundg (t.size - (q + 1))
                case measure => rw [Hk2.out]; omega
                case rel => exact ⟨q + 1, by go_num, by omega, by omega, Lib.hid rfl, HQ3, rfl⟩
            · obtain rfl : q = t.size := by omega
              have hq3 : skipM false (t.data.toList.drop t.size) = Q := by
                have := Hq2.out
                rw [Hend.out] at this ⊢
                exact this
              have HQ3 := Lib.hid hq3
              have hlt2 := hlt'.out
              clear hq3
              go_wp2_with fail
              go_roundg (t.size - t.size)
              case measure => rw [Hk.out]; omega
              case rel => exact ⟨t.size, rfl, Nat.le_refl _, Lib.hid rfl, HQ3, rfl⟩
        · have hq2 : Q = t.data.toList.drop j := by
            rw [Hd.out, ← hq]
            exact skip_stop hbc h35
          have hRj : R = j := by
            rw [HR.out, hq2, Hlen.out j hj]
            omega
          have HRj := Lib.hid hRj
          have Hb := Lib.hid hb
          have b9 : ¬ ((t[j].toNat : Nat) : Int) = 35 := by
            intro e
            exact h35 (UInt8.toNat_inj.1 (by have : t[j].toNat = 35 := by omega
                                             rw [this]; rfl))
          have b35 : (((t[j].toNat : Nat) : Int) == 35) = false := by simpa using b9
          clear hq hq2 hb hbc h35 hRj b9
          go_wp2_with fail
          refine (rblank_T _ _).mono ?_
          rw [Hb.out]
          rintro e w' ⟨rfl, rfl⟩
          go_wp2_with fail
          go_ret
          exact ⟨congrArg (fun q : Nat => Ending.returned (Value.int .i64 (q : Int))) HRj.out.symm, rfl⟩
      · have hbc : blankC t[j] = true := by rw [← Hbe.out]; exact hb
        have hq2 : skipM false (t.data.toList.drop (j + 1)) = Q := by simpa [skipM, hbc] using hq
        have HQ2 := Lib.hid hq2
        have Hb := Lib.hid hb
        clear hq hq2 hb hbc
        go_wp2_with fail
        refine (rblank_T _ _).mono ?_
        rw [Hb.out]
        rintro e w' ⟨rfl, rfl⟩
        go_wp2_with fail
        go_roundg (t.size - (j + 1))
        case measure => rw [Hk.out]; omega
        case rel => exact ⟨j + 1, by go_num, by omega, Lib.hid rfl, HQ2, rfl⟩
    · obtain rfl : j = t.size := by omega
      have hRj : R = t.size := by
        have := Hq.out
        rw [Hend.out] at this
        rw [HR.out, ← this]
        rfl
      have HRj := Lib.hid hRj
      clear hRj
      go_wp2_with fail
      go_ret
      exact ⟨congrArg (fun q : Nat => Ending.returned (Value.int .i64 (q : Int))) HRj.out.symm, rfl⟩

end Go.Proofs.YtlnnblfkigcipaaDoor
