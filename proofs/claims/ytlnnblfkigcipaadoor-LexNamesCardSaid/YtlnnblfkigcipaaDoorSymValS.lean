/- What Valid answers. Conditions: none. -/
import Derived.Test.YtlnnblfkigcipaaDoorSymFn
namespace Go.Proofs.YtlnnblfkigcipaaDoor
open Go Go.RowKit

theorem box1_S (w : World) (x : SymV) : Below w.heap.size w (w.alloc (.cells #[.int .i64 x.k, .string x.t, .int .i64 x.n] 62)) := (Below.refl _ w).alloc (Nat.le_refl _) _

theorem size_one {t : ByteArray} (h : (t.size : Int) = 1) : 0 < t.size := by omega

set_option maxHeartbeats 800000 in
theorem valid_any (w : World) (x : SymV) : Calls Tryd.prog 50 #[.agg #[.int .i64 x.k, .string x.t, .int .i64 x.n]] w fun e w' => e = .returned (.bool (validB x)) ∧ Below w.heap.size w w' := by
  have hB := Lib.hid (box1_S w x)
  by_cases k1 : x.k = 1
  · have b1 : (x.k == 1) = true := by simp [k1]
    have Hk := Lib.hid k1
    clear k1
    by_cases hz : x.t.size = 1
    · have hpos : 0 < x.t.size := by omega
      have z1 : ((x.t.size : Int) == 1) = true := by simp [hz]
      have Hz := Lib.hid hz
      have Hs := Lib.hid (hd_pos hpos)
      clear hz
      cases hc : capI ((x.t[0].toNat : Nat) : Int)
      · go_enter Tryd.func50, Tryd.ntmps50
        go_wp2_with fail
        refine (cap_T _ _).mono ?_
        rintro e w' ⟨rfl, rfl⟩
        go_wp2_with fail
        go_ret
        exact ⟨ret_b (by simp [validB, Hk.out, Hs.out, hc]), hB.out⟩
      · go_enter Tryd.func50, Tryd.ntmps50
        go_wp2_with fail
        refine (cap_T _ _).mono ?_
        rintro e w' ⟨rfl, rfl⟩
        go_wp2_with fail
        all_goals go_ret
        · have h : 1 ≤ x.n := by assumption
          exact ⟨ret_b (by simp [validB, Hk.out, Hz.out, Hs.out, hc, h]), hB.out⟩
        · have h : x.n < 1 := by assumption
          exact ⟨ret_b (by simp [validB, Hk.out, Int.not_le.2 h]), hB.out⟩
    · have z1 : ((x.t.size : Int) == 1) = false := by simp; omega
      have Hz := Lib.hid hz
      clear hz
      go_enter Tryd.func50, Tryd.ntmps50
      go_wp2_with fail
      go_ret
      exact ⟨ret_b (by simp [validB, Hk.out, Hz.out]), hB.out⟩
  · have b1 : (x.k == 1) = false := by simp [k1]
    have Hk := Lib.hid k1
    clear k1
    by_cases k2 : x.k = 2
    · have b2 : (x.k == 2) = true := by simp [k2]
      have Hk2 := Lib.hid k2
      clear k2
      by_cases h0 : x.t.size = 0
      · have e0 : x.t.toList = [] := by rw [ByteArray.toList_eq]; exact List.length_eq_zero_iff.1 (by simpa using h0)
        have e1 : x.t.toList.isEmpty = true := by rw [e0]; rfl
        have H0 := Lib.hid h0
        clear h0
        go_enter Tryd.func50, Tryd.ntmps50
        go_wp2_with fail
        all_goals go_ret
        · have h : -2147483647 ≤ x.n := by assumption
          exact ⟨ret_b (by simp [validB, Hk.out, Hk2.out, H0.out, h]), hB.out⟩
        · have h : x.n < -2147483647 := by assumption
          exact ⟨ret_b (by simp [validB, Hk.out, Hk2.out, Int.not_le.2 h]), hB.out⟩
      · have e1 : x.t.toList.isEmpty = false := by
          rw [ByteArray.toList_eq]
          cases hl : x.t.data.toList with
          | nil => exfalso; apply h0; have := congrArg List.length hl; simpa using this
          | cons _ _ => rfl
        have e2 : ¬ x.t.toList = [] := by intro h; rw [h] at e1; cases e1
        have H0 := Lib.hid h0
        clear h0
        go_enter Tryd.func50, Tryd.ntmps50
        go_wp2_with fail
        go_ret
        exact ⟨ret_b (by simp [validB, Hk.out, Hk2.out, H0.out]), hB.out⟩
    · have b2 : (x.k == 2) = false := by simp [k2]
      have Hk2 := Lib.hid k2
      clear k2
      by_cases k3 : x.k = 3
      · have b3 : (x.k == 3) = true := by simp [k3]
        have Hk3 := Lib.hid k3
        clear k3
        by_cases hn : x.n = 0
        · have n1 : (x.n == 0) = true := by simp [hn]
          have Hn := Lib.hid hn
          clear hn
          go_enter Tryd.func50, Tryd.ntmps50
          go_wp2_with fail
          refine (word_any _ _).mono ?_
          rintro e w' ⟨rfl, rfl⟩
          go_wp2_with fail
          go_ret
          exact ⟨ret_b (by simp [validB, Hk.out, Hk2.out, Hk3.out, Hn.out]), hB.out⟩
        · have n1 : (x.n == 0) = false := by simp [hn]
          have Hn := Lib.hid hn
          clear hn
          go_enter Tryd.func50, Tryd.ntmps50
          go_wp2_with fail
          go_ret
          exact ⟨ret_b (by simp [validB, Hk.out, Hk2.out, Hk3.out, Hn.out]), hB.out⟩
      · have b3 : (x.k == 3) = false := by simp [k3]
        have Hk3 := Lib.hid k3
        clear k3
        go_enter Tryd.func50, Tryd.ntmps50
        go_wp2_with fail
        go_ret
        exact ⟨ret_b (by simp [validB, Hk.out, Hk2.out, Hk3.out]), hB.out⟩

theorem valid_T (w : World) (x : SymV) (_ : x.t.size ≤ maxLen) : Calls Tryd.prog 50 #[.agg #[.int .i64 x.k, .string x.t, .int .i64 x.n]] w fun e w' => e = .returned (.bool (validB x)) ∧ Below w.heap.size w w' := valid_any w x

end Go.Proofs.YtlnnblfkigcipaaDoor
