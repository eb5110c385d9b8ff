/- What the statements' own one answers, at a number. Conditions: the text is not too long. -/
import Derived.Test.YtlnnblfkigcipaaDoorRfOneR
namespace Go.Proofs.YtlnnblfkigcipaaDoor
open Go Go.RowKit

theorem small_digit (c : UInt8) : (digB c = true → smallC c = false) ∧ smallC 45 = false ∧ smallC 60 = false := by
  refine ⟨fun h => ?_, rfl, rfl⟩
  cases hs : smallC c
  · rfl
  · have := (small_inn c hs).2.1
    rw [h] at this
    cases this

theorem num_shape (c : UInt8) (r : List UInt8) (h : numN (c :: r) ≠ 0) : numN (c :: r) = 1 + (r.takeWhile digB).length ∧ smallC c = false ∧ (digB c = true ∨ (digB c = false ∧ c = 45 ∧ ∃ d r', r = d :: r' ∧ digB d = true)) := by
  simp only [numN] at h ⊢
  by_cases hc : c == 45
  · rw [if_pos hc] at h ⊢
    have hc' : c = 45 := by simpa using hc
    subst hc'
    by_cases h0 : (r.takeWhile digB).length = 0
    · rw [if_pos h0] at h; exact absurd rfl h
    · rw [if_neg h0] at h ⊢
      refine ⟨rfl, rfl, .inr ⟨rfl, rfl, ?_⟩⟩
      cases r with
      | nil => exact absurd rfl h0
      | cons d r' =>
        refine ⟨d, r', rfl, ?_⟩
        by_cases hd : digB d = true
        · exact hd
        · simp [hd] at h0
  · rw [if_neg hc] at h ⊢
    by_cases hd : digB c = true
    · refine ⟨by simp [hd]; omega, (small_digit c).1 hd, .inl hd⟩
    · simp [hd] at h

set_option maxRecDepth 100000 in
set_option maxHeartbeats 6400000 in
theorem one_num (w : World) (t : ByteArray) (i : Nat) (hm : t.size ≤ 100000) (hi : i < t.size) (hw : wordN (t.data.toList.drop i) = 0) (hn0 : numN (t.data.toList.drop i) ≠ 0) :
    Calls Tryd.prog 20 #[.string t, .int .i64 i] w fun e w' => e = OneA (t.data.toList.drop i) i ∧ Below w.heap.size w w' := by
  have hB0 : Below w.heap.size w (w.alloc (.cells #[.int .i64 0, .string ⟨#[]⟩, .int .i64 0] 46)) := (Below.refl _ w).alloc (Nat.le_refl _) _
  have hb0 := heap_alloc_new w (.cells #[.int .i64 0, .string ⟨#[]⟩, .int .i64 0] 46)
  have hd := drop_at t i hi
  have hql : (t.data.toList.drop i).length = t.size - i := by rw [List.length_drop, ← size_list]
  obtain ⟨n, hn⟩ : ∃ n, n = numN (t.data.toList.drop i) := ⟨_, rfl⟩
  have hle := num_le (t.data.toList.drop i)
  have hmc : measL (t.data.toList.drop i) = (2, n) := by unfold measL; rw [if_neg (by simpa using hw), if_pos hn0, ← hn]
  obtain ⟨hsh, hsm, hcase⟩ := num_shape t[i] (t.data.toList.drop (i + 1)) (by rw [← hd]; exact hn0)
  rw [← hd, ← hn] at hsh
  rw [← hn] at hle
  have htk : OneA (t.data.toList.drop i) i = .returned (.tuple #[.agg #[.int .i64 (if numOk (wholeL (t.data.toList.drop i) n) then 2 else 6), .string (wholeL (t.data.toList.drop i) n), .int .i64 i], .int .i64 (i + n : Nat)]) := by
    unfold OneA tokL
    rw [hmc]
    cases h : numOk (wholeL (t.data.toList.drop i) n) <;> simp [okL, h]
  rw [htk]
  have hwh : t.extract i (i + n) = wholeL (t.data.toList.drop i) n := whole_eq t i n
  have hws := whole_size (t.data.toList.drop i) n hle
  have hrd := fun w => read_T w (wholeL (t.data.toList.drop i) n) (by rw [hws]; omega)
  obtain ⟨kd, hkd⟩ : ∃ kd : Int, kd = if numOk (wholeL (t.data.toList.drop i) n) then 2 else 6 := ⟨_, rfl⟩
  rw [← hkd]
  unfold numOk at hkd
  generalize wholeL (t.data.toList.drop i) n = wh at hwh htk hrd hkd ⊢
  generalize readV wh = rv at hrd hkd
  generalize readOk wh = ro at hrd hkd
  rw [hql] at hle
  have Hkd := Lib.hid hkd
  have hsm' : smallI ((t[i].toNat : Nat) : Int) = false := hsm
  have Hsm := Lib.hid hsm'
  have hts := Lib.hid (drop_at t)
  have hend : t.data.toList.drop t.size = [] := List.drop_eq_nil_of_le (by rw [← size_list]; exact Nat.le_refl _)
  have Hend := Lib.hid hend
  obtain ⟨e, he⟩ : ∃ e, e = i + n := ⟨_, rfl⟩
  have hst : i + 1 + ((t.data.toList.drop (i + 1)).takeWhile digB).length = e := by omega
  have Hst := Lib.hid hst
  rw [← he] at hwh ⊢
  have g4 : e ≤ t.size := by omega
  have g5 : i ≤ e := by omega
  have Hcase : Hid (digI ((t[i].toNat : Nat) : Int) = true ∨ (digI ((t[i].toNat : Nat) : Int) = false ∧ (((t[i].toNat : Nat) : Int) == 45) = true ∧ ∃ h : i + 1 < t.size, digI ((t[i + 1].toNat : Nat) : Int) = true)) := Lib.hid (by
    rw [dig_eq]
    rcases hcase with h | ⟨h1, h2, d, r', h3, h4⟩
    · exact .inl h
    · have hl := congrArg List.length h3
      rw [List.length_drop, ← size_list, List.length_cons] at hl
      have hi1 : i + 1 < t.size := by omega
      refine .inr ⟨h1, by rw [h2]; rfl, hi1, ?_⟩
      have h5 := drop_at t (i + 1) hi1
      rw [h3] at h5
      cases h5
      rw [dig_eq]
      exact h4)
  clear hd hql hn hmc htk hsm hsm' hsh hn0 hw hcase hend hst hkd he hle hws
  obtain ⟨l1, hl1⟩ : ∃ l1, l1 = i + 1 := ⟨_, rfl⟩
  have f1 : (i : Int) + 1 = (l1 : Int) := by omega
  have g6 : l1 ≤ t.size := by omega
  rw [← hl1] at Hst
  have Hcase2 : Hid (digI ((t[i].toNat : Nat) : Int) = true ∨ (digI ((t[i].toNat : Nat) : Int) = false ∧ (((t[i].toNat : Nat) : Int) == 45) = true ∧ ∃ h : l1 < t.size, digI ((t[l1].toNat : Nat) : Int) = true)) := by subst hl1; exact Hcase
  clear hl1 Hcase
  go_enter Tryd.func20, Tryd.ntmps20
  go_wp2_with fail
  generalize (w.alloc (.cells #[.int .i64 0, .string ⟨#[]⟩, .int .i64 0] 46)) = W0 at hB0 hb0 ⊢
  refine (rsmall_T _ _).mono ?_
  rw [Hsm.out]
  rintro e' w' ⟨rfl, rfl⟩
  go_wp2_with fail
  refine (rdigit_T _ _).mono ?_
  rcases Hcase2.out with hA | ⟨hA, b45, hlt, hA2⟩
  · rw [hA]
    rintro e' w' ⟨rfl, rfl⟩
    clear hA
    go_wp2_with fail
    go_loopg [8] (t.size - l1) (fun k kv wr => ∃ j : Nat, kv = .int .i64 j ∧ j ≤ t.size ∧ Hid (k = t.size - j) ∧ Hid (j + ((t.data.toList.drop j).takeWhile digB).length = e) ∧ wr = W0)
    case atStart => exact ⟨l1, rfl, g6, Lib.hid rfl, Hst, rfl⟩
    case round =>
      obtain ⟨j, rfl, hj, Hk, Hq, rfl⟩ := hrel
      by_cases hlt2 : j < t.size
      · have hdj := hts.out j hlt2
        have hq := Hq.out
        rw [hdj] at hq
        have hde := dig_eq t[j]
        have Hde := Lib.hid hde
        clear hdj hde
        cases hb : digI ((t[j].toNat : Nat) : Int)
        · have hQ : j = e := by rw [Hde.out] at hb; simpa [hb] using hq
          have Hb := Lib.hid hb
          clear hq hb
          subst hQ
          go_wp2_with fail
          refine (rdigit_T _ _).mono ?_
          rw [Hb.out]
          rintro e' w' ⟨rfl, rfl⟩
          go_wp2_with fail
          refine (hrd _).mono ?_
          rintro e' w1 ⟨rfl, hB1⟩
          have hb1 := (hB1.block _ (lt_of_block hb0)).trans hb0
          have hC1 := hB0.trans (hB1.mono hB0.size)
          obtain ⟨z0, z1, z2, z3, z4, z5⟩ := R.zero_cells hb1
          clear hb0
          cases ro
          · have hk : kd = 6 := Hkd.out.trans (by simp)
            subst hk
            have hm2 := R.mem_sto w1 w.heap.size ⟨6, wh, i⟩ hb1
            have hB6 := R.below_but hC1 (R.but_sto w1 w.heap.size ⟨6, wh, i⟩) (Nat.le_refl _) hC1.size
            have Hm2 := Lib.hid hm2
            clear hm2 hb1
            go_wp2_with fail
            have hm2 := Hm2.out
            generalize (World.setCell (World.setCell (World.setCell _ ⟨w.heap.size, 0, none⟩ _) ⟨w.heap.size, 1, none⟩ _) ⟨w.heap.size, 2, none⟩ _) = W at hm2 hB6 ⊢
            exact bodyPost_ret (v := .tuple #[.agg #[.int .i64 6, .string wh, .int .i64 i], .int .i64 j]) (by simp [results, Tryd.results20, go_sem, hm2]) rfl ⟨rfl, hB6⟩
          · by_cases h1 : 2147483647 < rv
            · have h1' : ¬ rv ≤ 2147483647 := by omega
              have hk : kd = 6 := Hkd.out.trans (by simp [h1'])
              subst hk
              have f8 : ((2147483647 : Int) < rv) = True := eq_true h1
              clear h1 h1'
              have hm2 := R.mem_sto w1 w.heap.size ⟨6, wh, i⟩ hb1
              have hB6 := R.below_but hC1 (R.but_sto w1 w.heap.size ⟨6, wh, i⟩) (Nat.le_refl _) hC1.size
              have Hm2 := Lib.hid hm2
              clear hm2 hb1
              go_wp2_with fail
              have hm2 := Hm2.out
              generalize (World.setCell (World.setCell (World.setCell _ ⟨w.heap.size, 0, none⟩ _) ⟨w.heap.size, 1, none⟩ _) ⟨w.heap.size, 2, none⟩ _) = W at hm2 hB6 ⊢
              exact bodyPost_ret (v := .tuple #[.agg #[.int .i64 6, .string wh, .int .i64 i], .int .i64 j]) (by simp [results, Tryd.results20, go_sem, hm2]) rfl ⟨rfl, hB6⟩
            · have h1' : rv ≤ 2147483647 := by omega
              by_cases h2 : rv < -2147483647
              · have h2' : ¬ -2147483647 ≤ rv := by omega
                have hk : kd = 6 := Hkd.out.trans (by simp [h2'])
                subst hk
                have f8 : ((2147483647 : Int) < rv) = False := eq_false h1
                have f9 : (rv < -2147483647) = True := eq_true h2
                clear h1 h1' h2 h2'
                have hm2 := R.mem_sto w1 w.heap.size ⟨6, wh, i⟩ hb1
                have hB6 := R.below_but hC1 (R.but_sto w1 w.heap.size ⟨6, wh, i⟩) (Nat.le_refl _) hC1.size
                have Hm2 := Lib.hid hm2
                clear hm2 hb1
                go_wp2_with fail
                have hm2 := Hm2.out
                generalize (World.setCell (World.setCell (World.setCell _ ⟨w.heap.size, 0, none⟩ _) ⟨w.heap.size, 1, none⟩ _) ⟨w.heap.size, 2, none⟩ _) = W at hm2 hB6 ⊢
                exact bodyPost_ret (v := .tuple #[.agg #[.int .i64 6, .string wh, .int .i64 i], .int .i64 j]) (by simp [results, Tryd.results20, go_sem, hm2]) rfl ⟨rfl, hB6⟩
              · have h2' : -2147483647 ≤ rv := by omega
                have hk : kd = 2 := Hkd.out.trans (by simp [h1', h2'])
                subst hk
                have f8 : ((2147483647 : Int) < rv) = False := eq_false h1
                have f9 : (rv < -2147483647) = False := eq_false h2
                clear h1 h1' h2 h2'
                have hm2 := R.mem_sto w1 w.heap.size ⟨2, wh, i⟩ hb1
                have hB6 := R.below_but hC1 (R.but_sto w1 w.heap.size ⟨2, wh, i⟩) (Nat.le_refl _) hC1.size
                have Hm2 := Lib.hid hm2
                clear hm2 hb1
                go_wp2_with fail
                have hm2 := Hm2.out
                generalize (World.setCell (World.setCell (World.setCell _ ⟨w.heap.size, 0, none⟩ _) ⟨w.heap.size, 1, none⟩ _) ⟨w.heap.size, 2, none⟩ _) = W at hm2 hB6 ⊢
                exact bodyPost_ret (v := .tuple #[.agg #[.int .i64 2, .string wh, .int .i64 i], .int .i64 j]) (by simp [results, Tryd.results20, go_sem, hm2]) rfl ⟨rfl, hB6⟩
        · have hQ : j + 1 + ((t.data.toList.drop (j + 1)).takeWhile digB).length = e := by
            rw [Hde.out] at hb
            simp only [List.takeWhile_cons, hb, if_true, List.length_cons] at hq
            omega
          have HQ2 := Lib.hid hQ
          have Hb := Lib.hid hb
          clear hq hQ hb
          go_wp2_with fail
          refine (rdigit_T _ _).mono ?_
          rw [Hb.out]
          rintro e' w' ⟨rfl, rfl⟩
          go_wp2_with fail
          go_roundg (t.size - (j + 1))
          case measure => rw [Hk.out]; omega
          case rel => exact ⟨j + 1, by go_num, by omega, Lib.hid rfl, HQ2, rfl⟩
      · obtain rfl : j = t.size := by omega
        have hQ : t.size = e := by
          have := Hq.out
          rw [Hend.out] at this
          simpa using this
        subst hQ
        go_wp2_with fail
        refine (hrd _).mono ?_
        rintro e' w1 ⟨rfl, hB1⟩
        have hb1 := (hB1.block _ (lt_of_block hb0)).trans hb0
        have hC1 := hB0.trans (hB1.mono hB0.size)
        obtain ⟨z0, z1, z2, z3, z4, z5⟩ := R.zero_cells hb1
        clear hb0
        cases ro
        · have hk : kd = 6 := Hkd.out.trans (by simp)
          subst hk
          have hm2 := R.mem_sto w1 w.heap.size ⟨6, wh, i⟩ hb1
          have hB6 := R.below_but hC1 (R.but_sto w1 w.heap.size ⟨6, wh, i⟩) (Nat.le_refl _) hC1.size
          have Hm2 := Lib.hid hm2
          clear hm2 hb1
          go_wp2_with fail
          have hm2 := Hm2.out
          generalize (World.setCell (World.setCell (World.setCell _ ⟨w.heap.size, 0, none⟩ _) ⟨w.heap.size, 1, none⟩ _) ⟨w.heap.size, 2, none⟩ _) = W at hm2 hB6 ⊢
          exact bodyPost_ret (v := .tuple #[.agg #[.int .i64 6, .string wh, .int .i64 i], .int .i64 t.size]) (by simp [results, Tryd.results20, go_sem, hm2]) rfl ⟨rfl, hB6⟩
        · by_cases h1 : 2147483647 < rv
          · have h1' : ¬ rv ≤ 2147483647 := by omega
            have hk : kd = 6 := Hkd.out.trans (by simp [h1'])
            subst hk
            have f8 : ((2147483647 : Int) < rv) = True := eq_true h1
            clear h1 h1'
            have hm2 := R.mem_sto w1 w.heap.size ⟨6, wh, i⟩ hb1
            have hB6 := R.below_but hC1 (R.but_sto w1 w.heap.size ⟨6, wh, i⟩) (Nat.le_refl _) hC1.size
            have Hm2 := Lib.hid hm2
            clear hm2 hb1
            go_wp2_with fail
            have hm2 := Hm2.out
            generalize (World.setCell (World.setCell (World.setCell _ ⟨w.heap.size, 0, none⟩ _) ⟨w.heap.size, 1, none⟩ _) ⟨w.heap.size, 2, none⟩ _) = W at hm2 hB6 ⊢
            exact bodyPost_ret (v := .tuple #[.agg #[.int .i64 6, .string wh, .int .i64 i], .int .i64 t.size]) (by simp [results, Tryd.results20, go_sem, hm2]) rfl ⟨rfl, hB6⟩
          · have h1' : rv ≤ 2147483647 := by omega
            by_cases h2 : rv < -2147483647
            · have h2' : ¬ -2147483647 ≤ rv := by omega
              have hk : kd = 6 := Hkd.out.trans (by simp [h2'])
              subst hk
              have f8 : ((2147483647 : Int) < rv) = False := eq_false h1
              have f9 : (rv < -2147483647) = True := eq_true h2
              clear h1 h1' h2 h2'
              have hm2 := R.mem_sto w1 w.heap.size ⟨6, wh, i⟩ hb1
              have hB6 := R.below_but hC1 (R.but_sto w1 w.heap.size ⟨6, wh, i⟩) (Nat.le_refl _) hC1.size
              have Hm2 := Lib.hid hm2
              clear hm2 hb1
              go_wp2_with fail
              have hm2 := Hm2.out
              generalize (World.setCell (World.setCell (World.setCell _ ⟨w.heap.size, 0, none⟩ _) ⟨w.heap.size, 1, none⟩ _) ⟨w.heap.size, 2, none⟩ _) = W at hm2 hB6 ⊢
              exact bodyPost_ret (v := .tuple #[.agg #[.int .i64 6, .string wh, .int .i64 i], .int .i64 t.size]) (by simp [results, Tryd.results20, go_sem, hm2]) rfl ⟨rfl, hB6⟩
            · have h2' : -2147483647 ≤ rv := by omega
              have hk : kd = 2 := Hkd.out.trans (by simp [h1', h2'])
              subst hk
              have f8 : ((2147483647 : Int) < rv) = False := eq_false h1
              have f9 : (rv < -2147483647) = False := eq_false h2
              clear h1 h1' h2 h2'
              have hm2 := R.mem_sto w1 w.heap.size ⟨2, wh, i⟩ hb1
              have hB6 := R.below_but hC1 (R.but_sto w1 w.heap.size ⟨2, wh, i⟩) (Nat.le_refl _) hC1.size
              have Hm2 := Lib.hid hm2
              clear hm2 hb1
              go_wp2_with fail
              have hm2 := Hm2.out
              generalize (World.setCell (World.setCell (World.setCell _ ⟨w.heap.size, 0, none⟩ _) ⟨w.heap.size, 1, none⟩ _) ⟨w.heap.size, 2, none⟩ _) = W at hm2 hB6 ⊢
              exact bodyPost_ret (v := .tuple #[.agg #[.int .i64 2, .string wh, .int .i64 i], .int .i64 t.size]) (by simp [results, Tryd.results20, go_sem, hm2]) rfl ⟨rfl, hB6⟩
  · rw [hA]
    have HA2 := Lib.hid hA2
    clear hA hA2
    rintro e' w' ⟨rfl, rfl⟩
    go_wp2_with fail
    refine (rdigit_T _ _).mono ?_
    rw [HA2.out]
    rintro e' w' ⟨rfl, rfl⟩
    go_wp2_with fail
    go_loopg [8] (t.size - l1) (fun k kv wr => ∃ j : Nat, kv = .int .i64 j ∧ j ≤ t.size ∧ Hid (k = t.size - j) ∧ Hid (j + ((t.data.toList.drop j).takeWhile digB).length = e) ∧ wr = W0)
    case atStart => exact ⟨l1, rfl, g6, Lib.hid rfl, Hst, rfl⟩
    case round =>
      obtain ⟨j, rfl, hj, Hk, Hq, rfl⟩ := hrel
      by_cases hlt2 : j < t.size
      · have hdj := hts.out j hlt2
        have hq := Hq.out
        rw [hdj] at hq
        have hde := dig_eq t[j]
        have Hde := Lib.hid hde
        clear hdj hde
        cases hb : digI ((t[j].toNat : Nat) : Int)
        · have hQ : j = e := by rw [Hde.out] at hb; simpa [hb] using hq
          have Hb := Lib.hid hb
          clear hq hb
          subst hQ
          go_wp2_with fail
          refine (rdigit_T _ _).mono ?_
          rw [Hb.out]
          rintro e' w' ⟨rfl, rfl⟩
          go_wp2_with fail
          refine (hrd _).mono ?_
          rintro e' w1 ⟨rfl, hB1⟩
          have hb1 := (hB1.block _ (lt_of_block hb0)).trans hb0
          have hC1 := hB0.trans (hB1.mono hB0.size)
          obtain ⟨z0, z1, z2, z3, z4, z5⟩ := R.zero_cells hb1
          clear hb0
          cases ro
          · have hk : kd = 6 := Hkd.out.trans (by simp)
            subst hk
            have hm2 := R.mem_sto w1 w.heap.size ⟨6, wh, i⟩ hb1
            have hB6 := R.below_but hC1 (R.but_sto w1 w.heap.size ⟨6, wh, i⟩) (Nat.le_refl _) hC1.size
            have Hm2 := Lib.hid hm2
            clear hm2 hb1
            go_wp2_with fail
            have hm2 := Hm2.out
            generalize (World.setCell (World.setCell (World.setCell _ ⟨w.heap.size, 0, none⟩ _) ⟨w.heap.size, 1, none⟩ _) ⟨w.heap.size, 2, none⟩ _) = W at hm2 hB6 ⊢
            exact bodyPost_ret (v := .tuple #[.agg #[.int .i64 6, .string wh, .int .i64 i], .int .i64 j]) (by simp [results, Tryd.results20, go_sem, hm2]) rfl ⟨rfl, hB6⟩
          · by_cases h1 : 2147483647 < rv
            · have h1' : ¬ rv ≤ 2147483647 := by omega
              have hk : kd = 6 := Hkd.out.trans (by simp [h1'])
              subst hk
              have f8 : ((2147483647 : Int) < rv) = True := eq_true h1
              clear h1 h1'
              have hm2 := R.mem_sto w1 w.heap.size ⟨6, wh, i⟩ hb1
              have hB6 := R.below_but hC1 (R.but_sto w1 w.heap.size ⟨6, wh, i⟩) (Nat.le_refl _) hC1.size
              have Hm2 := Lib.hid hm2
              clear hm2 hb1
              go_wp2_with fail
              have hm2 := Hm2.out
              generalize (World.setCell (World.setCell (World.setCell _ ⟨w.heap.size, 0, none⟩ _) ⟨w.heap.size, 1, none⟩ _) ⟨w.heap.size, 2, none⟩ _) = W at hm2 hB6 ⊢
              exact bodyPost_ret (v := .tuple #[.agg #[.int .i64 6, .string wh, .int .i64 i], .int .i64 j]) (by simp [results, Tryd.results20, go_sem, hm2]) rfl ⟨rfl, hB6⟩
            · have h1' : rv ≤ 2147483647 := by omega
              by_cases h2 : rv < -2147483647
              · have h2' : ¬ -2147483647 ≤ rv := by omega
                have hk : kd = 6 := Hkd.out.trans (by simp [h2'])
                subst hk
                have f8 : ((2147483647 : Int) < rv) = False := eq_false h1
                have f9 : (rv < -2147483647) = True := eq_true h2
                clear h1 h1' h2 h2'
                have hm2 := R.mem_sto w1 w.heap.size ⟨6, wh, i⟩ hb1
                have hB6 := R.below_but hC1 (R.but_sto w1 w.heap.size ⟨6, wh, i⟩) (Nat.le_refl _) hC1.size
                have Hm2 := Lib.hid hm2
                clear hm2 hb1
                go_wp2_with fail
                have hm2 := Hm2.out
                generalize (World.setCell (World.setCell (World.setCell _ ⟨w.heap.size, 0, none⟩ _) ⟨w.heap.size, 1, none⟩ _) ⟨w.heap.size, 2, none⟩ _) = W at hm2 hB6 ⊢
                exact bodyPost_ret (v := .tuple #[.agg #[.int .i64 6, .string wh, .int .i64 i], .int .i64 j]) (by simp [results, Tryd.results20, go_sem, hm2]) rfl ⟨rfl, hB6⟩
              · have h2' : -2147483647 ≤ rv := by omega
                have hk : kd = 2 := Hkd.out.trans (by simp [h1', h2'])
                subst hk
                have f8 : ((2147483647 : Int) < rv) = False := eq_false h1
                have f9 : (rv < -2147483647) = False := eq_false h2
                clear h1 h1' h2 h2'
                have hm2 := R.mem_sto w1 w.heap.size ⟨2, wh, i⟩ hb1
                have hB6 := R.below_but hC1 (R.but_sto w1 w.heap.size ⟨2, wh, i⟩) (Nat.le_refl _) hC1.size
                have Hm2 := Lib.hid hm2
                clear hm2 hb1
                go_wp2_with fail
                have hm2 := Hm2.out
                generalize (World.setCell (World.setCell (World.setCell _ ⟨w.heap.size, 0, none⟩ _) ⟨w.heap.size, 1, none⟩ _) ⟨w.heap.size, 2, none⟩ _) = W at hm2 hB6 ⊢
                exact bodyPost_ret (v := .tuple #[.agg #[.int .i64 2, .string wh, .int .i64 i], .int .i64 j]) (by simp [results, Tryd.results20, go_sem, hm2]) rfl ⟨rfl, hB6⟩
        · have hQ : j + 1 + ((t.data.toList.drop (j + 1)).takeWhile digB).length = e := by
            rw [Hde.out] at hb
            simp only [List.takeWhile_cons, hb, if_true, List.length_cons] at hq
            omega
          have HQ2 := Lib.hid hQ
          have Hb := Lib.hid hb
          clear hq hQ hb
          go_wp2_with fail
          refine (rdigit_T _ _).mono ?_
          rw [Hb.out]
          rintro e' w' ⟨rfl, rfl⟩
          go_wp2_with fail
          go_roundg (t.size - (j + 1))
          case measure => rw [Hk.out]; omega
          case rel => exact ⟨j + 1, by go_num, by omega, Lib.hid rfl, HQ2, rfl⟩
      · obtain rfl : j = t.size := by omega
        have hQ : t.size = e := by
          have := Hq.out
          rw [Hend.out] at this
          simpa using this
        subst hQ
        go_wp2_with fail
        refine (hrd _).mono ?_
        rintro e' w1 ⟨rfl, hB1⟩
        have hb1 := (hB1.block _ (lt_of_block hb0)).trans hb0
        have hC1 := hB0.trans (hB1.mono hB0.size)
        obtain ⟨z0, z1, z2, z3, z4, z5⟩ := R.zero_cells hb1
        clear hb0
        cases ro
        · have hk : kd = 6 := Hkd.out.trans (by simp)
          subst hk
          have hm2 := R.mem_sto w1 w.heap.size ⟨6, wh, i⟩ hb1
          have hB6 := R.below_but hC1 (R.but_sto w1 w.heap.size ⟨6, wh, i⟩) (Nat.le_refl _) hC1.size
          have Hm2 := Lib.hid hm2
          clear hm2 hb1
          go_wp2_with fail
          have hm2 := Hm2.out
          generalize (World.setCell (World.setCell (World.setCell _ ⟨w.heap.size, 0, none⟩ _) ⟨w.heap.size, 1, none⟩ _) ⟨w.heap.size, 2, none⟩ _) = W at hm2 hB6 ⊢
          exact bodyPost_ret (v := .tuple #[.agg #[.int .i64 6, .string wh, .int .i64 i], .int .i64 t.size]) (by simp [results, Tryd.results20, go_sem, hm2]) rfl ⟨rfl, hB6⟩
        · by_cases h1 : 2147483647 < rv
          · have h1' : ¬ rv ≤ 2147483647 := by omega
            have hk : kd = 6 := Hkd.out.trans (by simp [h1'])
            subst hk
            have f8 : ((2147483647 : Int) < rv) = True := eq_true h1
            clear h1 h1'
            have hm2 := R.mem_sto w1 w.heap.size ⟨6, wh, i⟩ hb1
            have hB6 := R.below_but hC1 (R.but_sto w1 w.heap.size ⟨6, wh, i⟩) (Nat.le_refl _) hC1.size
            have Hm2 := Lib.hid hm2
            clear hm2 hb1
            go_wp2_with fail
            have hm2 := Hm2.out
            generalize (World.setCell (World.setCell (World.setCell _ ⟨w.heap.size, 0, none⟩ _) ⟨w.heap.size, 1, none⟩ _) ⟨w.heap.size, 2, none⟩ _) = W at hm2 hB6 ⊢
            exact bodyPost_ret (v := .tuple #[.agg #[.int .i64 6, .string wh, .int .i64 i], .int .i64 t.size]) (by simp [results, Tryd.results20, go_sem, hm2]) rfl ⟨rfl, hB6⟩
          · have h1' : rv ≤ 2147483647 := by omega
            by_cases h2 : rv < -2147483647
            · have h2' : ¬ -2147483647 ≤ rv := by omega
              have hk : kd = 6 := Hkd.out.trans (by simp [h2'])
              subst hk
              have f8 : ((2147483647 : Int) < rv) = False := eq_false h1
              have f9 : (rv < -2147483647) = True := eq_true h2
              clear h1 h1' h2 h2'
              have hm2 := R.mem_sto w1 w.heap.size ⟨6, wh, i⟩ hb1
              have hB6 := R.below_but hC1 (R.but_sto w1 w.heap.size ⟨6, wh, i⟩) (Nat.le_refl _) hC1.size
              have Hm2 := Lib.hid hm2
              clear hm2 hb1
              go_wp2_with fail
              have hm2 := Hm2.out
              generalize (World.setCell (World.setCell (World.setCell _ ⟨w.heap.size, 0, none⟩ _) ⟨w.heap.size, 1, none⟩ _) ⟨w.heap.size, 2, none⟩ _) = W at hm2 hB6 ⊢
              exact bodyPost_ret (v := .tuple #[.agg #[.int .i64 6, .string wh, .int .i64 i], .int .i64 t.size]) (by simp [results, Tryd.results20, go_sem, hm2]) rfl ⟨rfl, hB6⟩
            · have h2' : -2147483647 ≤ rv := by omega
              have hk : kd = 2 := Hkd.out.trans (by simp [h1', h2'])
              subst hk
              have f8 : ((2147483647 : Int) < rv) = False := eq_false h1
              have f9 : (rv < -2147483647) = False := eq_false h2
              clear h1 h1' h2 h2'
              have hm2 := R.mem_sto w1 w.heap.size ⟨2, wh, i⟩ hb1
              have hB6 := R.below_but hC1 (R.but_sto w1 w.heap.size ⟨2, wh, i⟩) (Nat.le_refl _) hC1.size
              have Hm2 := Lib.hid hm2
              clear hm2 hb1
              go_wp2_with fail
              have hm2 := Hm2.out
              generalize (World.setCell (World.setCell (World.setCell _ ⟨w.heap.size, 0, none⟩ _) ⟨w.heap.size, 1, none⟩ _) ⟨w.heap.size, 2, none⟩ _) = W at hm2 hB6 ⊢
              exact bodyPost_ret (v := .tuple #[.agg #[.int .i64 2, .string wh, .int .i64 i], .int .i64 t.size]) (by simp [results, Tryd.results20, go_sem, hm2]) rfl ⟨rfl, hB6⟩

end Go.Proofs.YtlnnblfkigcipaaDoor
