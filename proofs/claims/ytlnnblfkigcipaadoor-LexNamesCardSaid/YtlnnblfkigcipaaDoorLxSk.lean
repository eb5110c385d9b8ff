/- What the program's skip answers. Conditions: the text is not too long. -/
import Derived.Test.YtlnnblfkigcipaaDoorLxSg
namespace Go.Proofs.YtlnnblfkigcipaaDoor
open Go Go.RowKit

theorem idx_drop (l : List UInt8) (c : UInt8) : (Lib.indexByte l c = -1 ∧ l.dropWhile (fun x => !(x == c)) = []) ∨ (∃ k : Nat, Lib.indexByte l c = k ∧ k < l.length ∧ l.dropWhile (fun x => !(x == c)) = l.drop k) := by
  induction l with
  | nil => exact .inl ⟨rfl, rfl⟩
  | cons b r ih =>
    unfold Lib.indexByte
    by_cases hb : b == c
    · exact .inr ⟨0, by simp [hb], by simp, by simp [hb]⟩
    · rcases ih with ⟨h1, h2⟩ | ⟨k, h1, h2, h3⟩
      · exact .inl ⟨by simp [hb, h1], by simp [hb, h2]⟩
      · refine .inr ⟨k + 1, ?_, by simp; omega, by simp [hb, h3]⟩
        have : ¬ ((k : Int) = -1) := by omega
        simp [hb, h1, this]

theorem dropWhile_takeWhile (p : UInt8 → Bool) (l : List UInt8) : l.dropWhile p = l.drop (l.takeWhile p).length := by
  induction l with
  | nil => rfl
  | cons a r ih => by_cases ha : p a = true <;> simp [ha, ih]

theorem skip_hash2 {m : List UInt8} (h : Lib.hasPrefix m [35] = true) : skipM false m = skipM false (m.dropWhile (fun x => !(x == 10))) ∧ ∃ r, m = 35 :: r := by
  cases m with
  | nil => cases h
  | cons c r =>
    have hc : c = 35 := by simp [Lib.hasPrefix, List.isPrefixOf] at h; exact h.symm
    subst hc
    refine ⟨?_, r, rfl⟩
    rw [skip_hash, skip_remark]
    simp

theorem skip_none {l : List UInt8} (h : Lib.hasPrefix (l.dropWhile blankC) [35] = false) : skipM false l = l.dropWhile blankC := by
  rw [skip_blanks]
  cases hm : l.dropWhile blankC with
  | nil => rfl
  | cons c r =>
    refine skip_stop ?_ ?_
    · have := List.head_dropWhile_not blankC (l := l) (by rw [hm]; simp)
      simpa [hm] using this
    · rw [hm] at h
      rintro rfl
      simp [Lib.hasPrefix, List.isPrefixOf] at h

/-- One round of skip. -/
theorem skip_round (l : List UInt8) : ∃ n : Nat, n = (l.takeWhile blankC).length ∧ n ≤ l.length ∧
    ((Lib.hasPrefix (l.drop n) [35] = false ∧ (skipM false l).length = l.length - n) ∨
     (Lib.hasPrefix (l.drop n) [35] = true ∧ Lib.indexByte (l.drop n) 10 = -1 ∧ (skipM false l).length = 0) ∨
     (Lib.hasPrefix (l.drop n) [35] = true ∧ ∃ k : Nat, Lib.indexByte (l.drop n) 10 = k ∧ 1 ≤ k ∧ n + k ≤ l.length ∧ skipM false l = skipM false (l.drop (n + k)))) := by
  refine ⟨_, rfl, takeWhile_le _ _, ?_⟩
  have e := dropWhile_takeWhile blankC l
  cases hb : Lib.hasPrefix (l.drop (l.takeWhile blankC).length) [35]
  · rw [← e] at hb
    refine .inl ⟨rfl, ?_⟩
    rw [skip_none hb, e, List.length_drop]
  · obtain ⟨h1, r, h2⟩ := skip_hash2 hb
    rw [skip_blanks, e]
    rcases idx_drop (l.drop (l.takeWhile blankC).length) 10 with ⟨h3, h4⟩ | ⟨k, h3, h4, h5⟩
    · exact .inr (.inl ⟨rfl, h3, by rw [h1, h4]; rfl⟩)
    · refine .inr (.inr ⟨rfl, k, h3, ?_, ?_, ?_⟩)
      · rw [h2] at h3
        have h6 : Lib.indexByte ((35 : UInt8) :: r) 10 ≠ 0 := by
          unfold Lib.indexByte
          rw [if_neg (by decide)]
          have := (idx_neg r 10).1
          split <;> simp_all <;> omega
        rw [h3] at h6
        omega
      · simp at h4; omega
      · rw [h1, h5, List.drop_drop]

set_option maxRecDepth 100000 in
set_option maxHeartbeats 800000 in
theorem skip_T (w : World) (t : ByteArray) (i : Nat) (hm : t.size ≤ 100000) (hi : i ≤ t.size) :
    Calls Tryd.prog 29 #[.string t, .int .i64 i] w fun e w' => e = .returned (.int .i64 ((t.size - (skipM false (t.data.toList.drop i)).length : Nat))) ∧ Below w.heap.size w w' := by
  have k1 : ∀ (j : Nat) (w : World), Calls Tryd.prog 33 #[.string (t.extract j t.size), .string blankS] w fun e w' => e = .returned (.int .i64 (((t.data.toList.drop j).takeWhile blankC).length : Nat)) ∧ Below w.heap.size w w' := by
    intro j w
    have := span_T w (t.extract j t.size) blankS blankC (by have := size_list (t.extract j t.size); rw [Lib.extract_to_end] at this; rw [this, List.length_drop, ← size_list]; omega) blank_set (by decide) (by decide +kernel)
    rwa [Lib.extract_to_end] at this
  have k2 : ∀ (j : Nat) (w : World), Calls Tryd.prog 34 #[.string (t.extract j t.size), .string ⟨#[35]⟩] w fun e w' => e = .returned (.bool (Lib.hasPrefix (t.data.toList.drop j) [35])) ∧ w' = w := by
    intro j w
    have := Tryd.strings_HasPrefix (t.extract j t.size) ⟨#[35]⟩ w
    rwa [Lib.extract_to_end] at this
  have k3 : ∀ (j : Nat) (w : World), Calls Tryd.prog 35 #[.string (t.extract j t.size), .int .u8 10] w fun e w' => e = .returned (.int .i64 (Lib.indexByte (t.data.toList.drop j) 10)) ∧ w' = w := by
    intro j w
    have := Tryd.strings_IndexByte (t.extract j t.size) 10 w
    rwa [Lib.extract_to_end] at this
  unfold blankS at k1
  have hrd : ∀ j : Nat, j ≤ t.size → ∃ n : Nat, ((t.data.toList.drop j).takeWhile blankC).length = n ∧ j + n ≤ t.size ∧
      ((Lib.hasPrefix (t.data.toList.drop (j + n)) [35] = false ∧ t.size - (skipM false (t.data.toList.drop j)).length = j + n) ∨
       (Lib.hasPrefix (t.data.toList.drop (j + n)) [35] = true ∧ Lib.indexByte (t.data.toList.drop (j + n)) 10 = -1 ∧ t.size - (skipM false (t.data.toList.drop j)).length = t.size) ∨
       (Lib.hasPrefix (t.data.toList.drop (j + n)) [35] = true ∧ ∃ k : Nat, Lib.indexByte (t.data.toList.drop (j + n)) 10 = k ∧ 1 ≤ k ∧ j + n + k ≤ t.size ∧ skipM false (t.data.toList.drop j) = skipM false (t.data.toList.drop (j + n + k)))) := by
    intro j hj
    obtain ⟨n, h1, h2, h3⟩ := skip_round (t.data.toList.drop j)
    have hl : (t.data.toList.drop j).length = t.size - j := by rw [List.length_drop, ← size_list]
    rw [hl] at h2 h3
    rw [List.drop_drop] at h3
    refine ⟨n, h1.symm, by omega, ?_⟩
    rcases h3 with ⟨a, b⟩ | ⟨a, b, c⟩ | ⟨a, k, b, c, d, e⟩
    · exact .inl ⟨a, by omega⟩
    · exact .inr (.inl ⟨a, b, by omega⟩)
    · exact .inr (.inr ⟨a, k, b, c, by omega, by rw [e, List.drop_drop]; congr 2; omega⟩)
  have Hrd := Lib.hid hrd
  obtain ⟨Q, hQ⟩ : ∃ Q, Q = skipM false (t.data.toList.drop i) := ⟨_, rfl⟩
  rw [← hQ]
  have HQ := Lib.hid hQ
  clear hrd hQ
  go_enter Tryd.func29, Tryd.ntmps29
  go_wp2_with fail
  go_loopg [1, 5] (t.size - i) (fun k atv lv wr => ∃ j : Nat, atv = .int .i64 j ∧ j ≤ t.size ∧ Hid (k = t.size - j) ∧ Hid (Q = skipM false (t.data.toList.drop j)) ∧ Below w.heap.size w wr)
  case atStart => exact ⟨i, rfl, hi, Lib.hid rfl, HQ, Below.refl _ _⟩
  case round =>
    obtain ⟨j, rfl, hj, Hk, Hq, hB⟩ := hrel
    obtain ⟨n, hn, hle, h3⟩ := Hrd.out j hj
    rw [← Hq.out] at h3
    have k1 := k1 j wr
    have k2 := k2 (j + n)
    have k3 := k3 (j + n)
    rw [hn] at k1
    have f1 : (j : Int) + (n : Int) = ((j + n : Nat) : Int) := by omega
    generalize Lib.hasPrefix (t.data.toList.drop (j + n)) [35] = b at k2 h3
    generalize Lib.indexByte (t.data.toList.drop (j + n)) 10 = ix at k3 h3
    clear hn
    obtain ⟨p, hp⟩ : ∃ p, p = j + n := ⟨_, rfl⟩
    rw [← hp] at f1 k2 k3 hle h3
    have Hp := Lib.hid hp
    clear hp
    have g1 : ((j : Int) ≤ (t.size : Int)) = True := eq_true (by omega)
    have g2 : ((p : Int) ≤ (t.size : Int)) = True := eq_true (by omega)
    rcases h3 with ⟨rfl, hr⟩ | ⟨rfl, rfl, hr⟩ | ⟨rfl, k, rfl, hk1, hk2, hr⟩
    · have Hr := Lib.hid hr
      clear hr k3
      go_wp2_with fail
      refine k1.mono ?_
      rintro e w1 ⟨rfl, hB1⟩
      go_wp2_with fail
      refine (k2 _).mono ?_
      rintro e w2 ⟨rfl, rfl⟩
      go_wp2_with fail
      go_ret
      exact ⟨by rw [Hr.out]; rfl, hB.trans (hB1.mono hB.size)⟩
    · have Hr := Lib.hid hr
      clear hr
      go_wp2_with fail
      refine k1.mono ?_
      rintro e w1 ⟨rfl, hB1⟩
      go_wp2_with fail
      refine (k2 _).mono ?_
      rintro e w2 ⟨rfl, rfl⟩
      go_wp2_with fail
      refine (k3 _).mono ?_
      rintro e w2 ⟨rfl, rfl⟩
      go_wp2_with fail
      go_ret
      exact ⟨by rw [Hr.out]; rfl, hB.trans (hB1.mono hB.size)⟩
    · have Hr := Lib.hid hr
      have Hk1 := Lib.hid hk1
      obtain ⟨q, hq⟩ : ∃ q, q = p + k := ⟨_, rfl⟩
      have f2 : (p : Int) + (k : Int) = (q : Int) := by omega
      rw [← hq] at hk2 Hr
      have Hq2 := Lib.hid hq
      clear hq
      have f3 : ((k : Int) < 0) = False := eq_false (by omega)
      clear hr
      go_wp2_with fail
      refine k1.mono ?_
      rintro e w1 ⟨rfl, hB1⟩
      go_wp2_with fail
      refine (k2 _).mono ?_
      rintro e w2 ⟨rfl, rfl⟩
      go_wp2_with fail
      refine (k3 _).mono ?_
      rintro e w2 ⟨rfl, rfl⟩
      go_wp2_with fail
      go_roundg (t.size - q)
      case measure => have := Hk1.out; have := Hp.out; have := Hq2.out; rw [Hk.out]; omega
      case rel => exact ⟨q, rfl, hk2, Lib.hid rfl, Lib.hid Hr.out, hB.trans (hB1.mono hB.size)⟩

end Go.Proofs.YtlnnblfkigcipaaDoor
