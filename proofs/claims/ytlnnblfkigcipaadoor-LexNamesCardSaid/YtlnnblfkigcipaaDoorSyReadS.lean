/- What the statements' own only, Read and Parse answer. Conditions: the text has at most 1000 bytes. -/
import Derived.Test.YtlnnblfkigcipaaDoorSyReadPl
import Derived.Test.YtlnnblfkigcipaaDoorSyRefS
namespace Go.Proofs.YtlnnblfkigcipaaDoor
open Go Go.RowKit

set_option maxRecDepth 100000 in
set_option maxHeartbeats 1600000 in
theorem read_neg (w : World) (t s : ByteArray) (hm : t.size ≤ 100000) (hpos : 0 < t.size) (hn : negB t = true) (hs : restB t = s) :
    Calls Tryd.prog 28 #[.string t] w fun e w' => e = .returned (.tuple #[.int .i64 (readV t), .bool (readOk t)]) ∧ Below w.heap.size w w' := by
  have hposi : (0 : Int) < (t.size : Int) := by omega
  have hhd := hd_pos hpos
  have h45 : ((t[0].toNat : Nat) : Int) = 45 := by rw [← hhd]; simpa [negB] using hn
  have b45 : (((t[0].toNat : Nat) : Int) == 45) = true := by simp [h45]
  have hss : t.extract 1 t.size = s := by rw [← hs]; unfold restB; rw [hn, if_pos rfl]
  have hsz : t.size - 1 = s.size := by rw [← hss, ByteArray.size_extract]; omega
  have hti : (1 : Int) ≤ (t.size : Int) := by omega
  clear h45
  have hok : readOk t = magOk true s := by unfold readOk; rw [hn, hs]
  have hval : readV t = if magOk true s = true then (-(digV s.data.toList : Int)) else 0 := by unfold readV; rw [hok, hn, hs]; rw [if_pos rfl]
  have Hok := Lib.hid hok
  have Hval := Lib.hid hval
  clear hok hval hn hs hhd
  have bad : magOk true s = false → readV t = 0 ∧ readOk t = false := fun h => ⟨by rw [Hval.out, h, if_neg (by simp)], by rw [Hok.out, h]⟩
  have Hbad := Lib.hid bad
  clear bad
  by_cases s0 : s.size = 0
  · have f1 : ((s.size : Int) < 1) = True := eq_true (by omega)
    obtain ⟨r1, r2⟩ := Hbad.out (by simp [magOk, s0])
    rw [r1, r2]
    clear r1 r2 s0
    go_enter Tryd.func28, Tryd.ntmps28
    go_wp2_with fail
    go_ret2
    exact ⟨rfl, Below.refl _ _⟩
  · have spos : 0 < s.size := by omega
    have sposi : (0 : Int) < (s.size : Int) := by omega
    have f1 : ((s.size : Int) < 1) = False := eq_false (by omega)
    by_cases s10 : 10 < s.size
    · have f2 : ((10 : Int) < (s.size : Int)) = True := eq_true (by omega)
      obtain ⟨r1, r2⟩ := Hbad.out (by simp [magOk]; omega)
      rw [r1, r2]
      clear r1 r2 s0 s10 
      go_enter Tryd.func28, Tryd.ntmps28
      go_wp2_with fail
      go_ret2
      exact ⟨rfl, Below.refl _ _⟩
    · have f2 : ((10 : Int) < (s.size : Int)) = False := eq_false (by omega)
      have hsd := hd_pos spos
      have Hsd := Lib.hid hsd
      clear hsd
      by_cases hlead : ((s[0].toNat : Nat) : Int) = 48 ∧ (1 < s.size ∨ true = true)
      · obtain ⟨l1, l2⟩ := hlead
        have c48 : (((s[0].toNat : Nat) : Int) == 48) = true := by simp [l1]
        obtain ⟨r1, r2⟩ := Hbad.out (by
          unfold magOk
          rw [Hsd.out, c48]
          simp)
        rw [r1, r2]
        have f3 : ((1 : Int) < (s.size : Int)) = True ∨ ((1 : Int) < (s.size : Int)) = False := by by_cases h : (1 : Int) < (s.size : Int); exact .inl (eq_true h); exact .inr (eq_false h)
        clear r1 r2 s0 s10 l1 
        rcases f3 with f3 | f3
        · clear l2
          go_enter Tryd.func28, Tryd.ntmps28
          go_wp2_with fail
          go_ret2
          exact ⟨rfl, Below.refl _ _⟩
        · clear l2
          go_enter Tryd.func28, Tryd.ntmps28
          go_wp2_with fail
          go_ret2
          exact ⟨rfl, Below.refl _ _⟩
      · have hlz : (!(hd s == 48 && (decide (1 < s.size) || true))) = true := by
          rw [Hsd.out]
          simp only [Bool.not_eq_true', Bool.and_eq_false_iff, Bool.or_eq_false_iff, beq_eq_false_iff_ne, decide_eq_false_iff_not]
          by_cases h48 : ((s[0].toNat : Nat) : Int) = 48
          · refine .inr ⟨fun h => hlead ⟨h48, .inl h⟩, ?_⟩
            exact absurd ⟨h48, .inr rfl⟩ hlead
          · exact .inl h48
        have hgood : ∀ b, s.data.toList.all digB = b → magOk true s = b := by
          intro b hb
          unfold magOk
          rw [hb, hlz]
          simp; omega
        have Hgood := Lib.hid hgood
        have hten : s.size ≤ 10 := by omega
        have Hten := Lib.hid hten
        have Hlz := Lib.hid hlead
        clear hlz hgood s0 s10 hlead hten
        have lead : ((((s[0].toNat : Nat) : Int) == 48) = false) ∨ ((((s[0].toNat : Nat) : Int) == 48) = true ∧ ((1 : Int) < (s.size : Int)) = False ∧ False) := by
          by_cases h48 : ((s[0].toNat : Nat) : Int) = 48
          · refine .inr ⟨by simp [h48], eq_false (fun h => Hlz.out ⟨h48, .inl (by omega)⟩), Hlz.out ⟨h48, .inr rfl⟩⟩
          · exact .inl (by simp [h48])
        rcases lead with c48 | ⟨-, -, hf⟩
        · go_enter Tryd.func28, Tryd.ntmps28
          go_wp2_with fail
          skip
          go_loopg [5, 6] (s.size - 0) (fun k nv iv wr => ∃ j : Nat, nv = .int .i64 (digV (s.data.toList.take j)) ∧ iv = .int .i64 j ∧ j ≤ s.size ∧ Hid (k = s.size - j) ∧ Hid ((s.data.toList.take j).all digB = true) ∧ w = wr)
          case atStart => exact ⟨0, rfl, rfl, by omega, Lib.hid rfl, Lib.hid rfl, rfl⟩
          case round =>
            obtain ⟨j, rfl, rfl, hj, Hk, Hall, rfl⟩ := hrel
            by_cases hlt : j < s.size
            · have Hts := Lib.hid (take_succ s j hlt)
              have hvl : (digV (s.data.toList.take j) : Int) ≤ 10000000000 := by
                have h1 := digV_lt _ _ rfl Hall.out
                have h2 : (s.data.toList.take j).length ≤ 10 := by have := Hten.out; rw [List.length_take]; omega
                have h3 : 10 ^ (s.data.toList.take j).length ≤ 10 ^ 10 := Nat.pow_le_pow_right (by decide) h2
                omega
              have hv0 : (0 : Int) ≤ (digV (s.data.toList.take j) : Int) := by omega
              by_cases c1 : ((s[j].toNat : Nat) : Int) < 48
              · have hdg : s.data.toList.all digB = false := by
                  rw [List.all_eq_false]
                  exact ⟨s.data.toList[j]'(by simpa using hlt), List.getElem_mem _, by show ¬ digB s[j] = true; simp [digB]; omega⟩
                obtain ⟨r1, r2⟩ := Hbad.out (Hgood.out _ hdg)
                have R1 := Lib.hid r1
                have R2 := Lib.hid r2
                have g1 : (((s[j].toNat : Nat) : Int) < 48) = True := eq_true c1
                clear r1 r2 hdg c1
                go_wp2_with fail
                go_ret2
                exact ⟨by rw [R1.out, R2.out]; rfl, Below.refl _ _⟩
              · have g1 : (((s[j].toNat : Nat) : Int) < 48) = False := eq_false c1
                by_cases c2 : 57 < ((s[j].toNat : Nat) : Int)
                · have hdg : s.data.toList.all digB = false := by
                    rw [List.all_eq_false]
                    exact ⟨s.data.toList[j]'(by simpa using hlt), List.getElem_mem _, by show ¬ digB s[j] = true; simp [digB]; omega⟩
                  obtain ⟨r1, r2⟩ := Hbad.out (Hgood.out _ hdg)
                  have R1 := Lib.hid r1
                  have R2 := Lib.hid r2
                  have g2 : ((57 : Int) < ((s[j].toNat : Nat) : Int)) = True := eq_true c2
                  clear r1 r2 hdg c1 c2
                  go_wp2_with fail
                  go_ret2
                  exact ⟨by rw [R1.out, R2.out]; rfl, Below.refl _ _⟩
                · have g2 : ((57 : Int) < ((s[j].toNat : Nat) : Int)) = False := eq_false c2
                  have q1 : 48 ≤ ((s[j].toNat : Nat) : Int) := by omega
                  have q2 : ((s[j].toNat : Nat) : Int) ≤ 57 := by omega
                  clear c1 c2
                  go_wp2_with fail
                  go_roundg (s.size - (j + 1))
                  case measure => rw [Hk.out]; omega
                  case rel =>
                    refine ⟨j + 1, ?_, by go_num, by omega, Lib.hid rfl, Lib.hid ?_, rfl⟩
                    · rw [Hts.out, digV_snoc]
                      congr 1
                      omega
                    · rw [Hts.out, List.all_append, Hall.out]; simp [digB]; omega
            · obtain rfl : j = s.size := by omega
              have ha := Hall.out
              rw [List.take_of_length_le (by simp)] at ha
              have hg := Hgood.out _ ha
              have r1 := Hval.out
              rw [hg, if_pos rfl] at r1
              have R1 := Lib.hid r1
              have R2 := Lib.hid (Hok.out.trans hg)
              have hvl : (digV (s.data.toList.take s.size) : Int) ≤ 10000000000 := by
                have h1 := digV_lt _ _ rfl Hall.out
                have h2 : (s.data.toList.take s.size).length ≤ 10 := by have := Hten.out; rw [List.length_take]; omega
                have h3 : 10 ^ (s.data.toList.take s.size).length ≤ 10 ^ 10 := Nat.pow_le_pow_right (by decide) h2
                omega
              have hv0 : (0 : Int) ≤ (digV (s.data.toList.take s.size) : Int) := by omega
              have het : s.data.toList.take s.size = s.data.toList := List.take_of_length_le (by simp)
              have Het := Lib.hid het
              clear ha hg r1 het
              go_wp2_with fail
              go_ret2
              have hfin := congrArg (fun l => Ending.returned (.tuple #[.int .i64 (-(digV l : Int)), .bool true])) Het.out
              exact ⟨by rw [R1.out, R2.out]; exact hfin, Below.refl _ _⟩
        · exact hf.elim

set_option maxRecDepth 100000 in
set_option maxHeartbeats 1600000 in
theorem read_pos (w : World) (t s : ByteArray) (hm : t.size ≤ 100000) (hpos : 0 < t.size) (hn : negB t = false) (hs : restB t = s) :
    Calls Tryd.prog 28 #[.string t] w fun e w' => e = .returned (.tuple #[.int .i64 (readV t), .bool (readOk t)]) ∧ Below w.heap.size w w' := by
  have hposi : (0 : Int) < (t.size : Int) := by omega
  have hhd := hd_pos hpos
  have b45 : (((t[0].toNat : Nat) : Int) == 45) = false := by rw [← hhd]; simpa [negB] using hn
  obtain rfl : t = s := by rw [← hs]; unfold restB; rw [hn, if_neg (by simp)]
  have hok : readOk t = magOk false t := by unfold readOk; rw [hn, hs]
  have hval : readV t = if magOk false t = true then ((digV t.data.toList : Int)) else 0 := by unfold readV; rw [hok, hn, hs]; rw [if_neg (by simp : ¬ false = true)]
  have Hok := Lib.hid hok
  have Hval := Lib.hid hval
  clear hok hval hn hs hhd
  have bad : magOk false t = false → readV t = 0 ∧ readOk t = false := fun h => ⟨by rw [Hval.out, h, if_neg (by simp)], by rw [Hok.out, h]⟩
  have Hbad := Lib.hid bad
  clear bad
  by_cases s0 : t.size = 0
  · omega
  · have spos : 0 < t.size := by omega
    have sposi : (0 : Int) < (t.size : Int) := by omega
    have f1 : ((t.size : Int) < 1) = False := eq_false (by omega)
    by_cases s10 : 10 < t.size
    · have f2 : ((10 : Int) < (t.size : Int)) = True := eq_true (by omega)
      obtain ⟨r1, r2⟩ := Hbad.out (by simp [magOk]; omega)
      rw [r1, r2]
      clear r1 r2 s0 s10 
      go_enter Tryd.func28, Tryd.ntmps28
      go_wp2_with fail
      go_ret2
      exact ⟨rfl, Below.refl _ _⟩
    · have f2 : ((10 : Int) < (t.size : Int)) = False := eq_false (by omega)
      have hsd := hd_pos spos
      have Hsd := Lib.hid hsd
      clear hsd
      by_cases hlead : ((t[0].toNat : Nat) : Int) = 48 ∧ (1 < t.size ∨ false = true)
      · obtain ⟨l1, l2⟩ := hlead
        have c48 : (((t[0].toNat : Nat) : Int) == 48) = true := by simp [l1]
        obtain ⟨r1, r2⟩ := Hbad.out (by
          unfold magOk
          rw [Hsd.out, c48]
          rcases l2 with l2 | l2
          · simp [l2]
          · cases l2)
        rw [r1, r2]
        have f3 : ((1 : Int) < (t.size : Int)) = True ∨ ((1 : Int) < (t.size : Int)) = False := by by_cases h : (1 : Int) < (t.size : Int); exact .inl (eq_true h); exact .inr (eq_false h)
        clear r1 r2 s0 s10 l1 
        rcases f3 with f3 | f3
        · clear l2
          go_enter Tryd.func28, Tryd.ntmps28
          go_wp2_with fail
          go_ret2
          exact ⟨rfl, Below.refl _ _⟩
        · exfalso; have : ¬ (1 : Int) < (t.size : Int) := of_eq_false f3; rcases l2 with l2 | l2; omega; cases l2
      · have hlz : (!(hd t == 48 && (decide (1 < t.size) || false))) = true := by
          rw [Hsd.out]
          simp only [Bool.not_eq_true', Bool.and_eq_false_iff, Bool.or_eq_false_iff, beq_eq_false_iff_ne, decide_eq_false_iff_not]
          by_cases h48 : ((t[0].toNat : Nat) : Int) = 48
          · refine .inr ⟨fun h => hlead ⟨h48, .inl h⟩, ?_⟩
            trivial
          · exact .inl h48
        have hgood : ∀ b, t.data.toList.all digB = b → magOk false t = b := by
          intro b hb
          unfold magOk
          rw [hb, hlz]
          simp; omega
        have Hgood := Lib.hid hgood
        have hten : t.size ≤ 10 := by omega
        have Hten := Lib.hid hten
        have Hlz := Lib.hid hlead
        clear hlz hgood s0 s10 hlead hten
        have lead : ((((t[0].toNat : Nat) : Int) == 48) = false) ∨ ((((t[0].toNat : Nat) : Int) == 48) = true ∧ ((1 : Int) < (t.size : Int)) = False) := by
          by_cases h48 : ((t[0].toNat : Nat) : Int) = 48
          · refine .inr ⟨by simp [h48], eq_false (fun h => Hlz.out ⟨h48, .inl (by omega)⟩)⟩
          · exact .inl (by simp [h48])
        rcases lead with c48 | ⟨c48, f3⟩
        · go_enter Tryd.func28, Tryd.ntmps28
          go_wp2_with fail
          skip
          go_loopg [5, 6] (t.size - 0) (fun k nv iv wr => ∃ j : Nat, nv = .int .i64 (digV (t.data.toList.take j)) ∧ iv = .int .i64 j ∧ j ≤ t.size ∧ Hid (k = t.size - j) ∧ Hid ((t.data.toList.take j).all digB = true) ∧ w = wr)
          case atStart => exact ⟨0, rfl, rfl, by omega, Lib.hid rfl, Lib.hid rfl, rfl⟩
          case round =>
            obtain ⟨j, rfl, rfl, hj, Hk, Hall, rfl⟩ := hrel
            by_cases hlt : j < t.size
            · have Hts := Lib.hid (take_succ t j hlt)
              have hvl : (digV (t.data.toList.take j) : Int) ≤ 10000000000 := by
                have h1 := digV_lt _ _ rfl Hall.out
                have h2 : (t.data.toList.take j).length ≤ 10 := by have := Hten.out; rw [List.length_take]; omega
                have h3 : 10 ^ (t.data.toList.take j).length ≤ 10 ^ 10 := Nat.pow_le_pow_right (by decide) h2
                omega
              have hv0 : (0 : Int) ≤ (digV (t.data.toList.take j) : Int) := by omega
              by_cases c1 : ((t[j].toNat : Nat) : Int) < 48
              · have hdg : t.data.toList.all digB = false := by
                  rw [List.all_eq_false]
                  exact ⟨t.data.toList[j]'(by simpa using hlt), List.getElem_mem _, by show ¬ digB t[j] = true; simp [digB]; omega⟩
                obtain ⟨r1, r2⟩ := Hbad.out (Hgood.out _ hdg)
                have R1 := Lib.hid r1
                have R2 := Lib.hid r2
                have g1 : (((t[j].toNat : Nat) : Int) < 48) = True := eq_true c1
                clear r1 r2 hdg c1
                go_wp2_with fail
                go_ret2
                exact ⟨by rw [R1.out, R2.out]; rfl, Below.refl _ _⟩
              · have g1 : (((t[j].toNat : Nat) : Int) < 48) = False := eq_false c1
                by_cases c2 : 57 < ((t[j].toNat : Nat) : Int)
                · have hdg : t.data.toList.all digB = false := by
                    rw [List.all_eq_false]
                    exact ⟨t.data.toList[j]'(by simpa using hlt), List.getElem_mem _, by show ¬ digB t[j] = true; simp [digB]; omega⟩
                  obtain ⟨r1, r2⟩ := Hbad.out (Hgood.out _ hdg)
                  have R1 := Lib.hid r1
                  have R2 := Lib.hid r2
                  have g2 : ((57 : Int) < ((t[j].toNat : Nat) : Int)) = True := eq_true c2
                  clear r1 r2 hdg c1 c2
                  go_wp2_with fail
                  go_ret2
                  exact ⟨by rw [R1.out, R2.out]; rfl, Below.refl _ _⟩
                · have g2 : ((57 : Int) < ((t[j].toNat : Nat) : Int)) = False := eq_false c2
                  have q1 : 48 ≤ ((t[j].toNat : Nat) : Int) := by omega
                  have q2 : ((t[j].toNat : Nat) : Int) ≤ 57 := by omega
                  clear c1 c2
                  go_wp2_with fail
                  go_roundg (t.size - (j + 1))
                  case measure => rw [Hk.out]; omega
                  case rel =>
                    refine ⟨j + 1, ?_, by go_num, by omega, Lib.hid rfl, Lib.hid ?_, rfl⟩
                    · rw [Hts.out, digV_snoc]
                      congr 1
                      omega
                    · rw [Hts.out, List.all_append, Hall.out]; simp [digB]; omega
            · obtain rfl : j = t.size := by omega
              have ha := Hall.out
              rw [List.take_of_length_le (by simp)] at ha
              have hg := Hgood.out _ ha
              have r1 := Hval.out
              rw [hg, if_pos rfl] at r1
              have R1 := Lib.hid r1
              have R2 := Lib.hid (Hok.out.trans hg)
              have hvl : (digV (t.data.toList.take t.size) : Int) ≤ 10000000000 := by
                have h1 := digV_lt _ _ rfl Hall.out
                have h2 : (t.data.toList.take t.size).length ≤ 10 := by have := Hten.out; rw [List.length_take]; omega
                have h3 : 10 ^ (t.data.toList.take t.size).length ≤ 10 ^ 10 := Nat.pow_le_pow_right (by decide) h2
                omega
              have hv0 : (0 : Int) ≤ (digV (t.data.toList.take t.size) : Int) := by omega
              have het : t.data.toList.take t.size = t.data.toList := List.take_of_length_le (by simp)
              have Het := Lib.hid het
              clear ha hg r1 het
              go_wp2_with fail
              go_ret2
              have hfin := congrArg (fun l => Ending.returned (.tuple #[.int .i64 ((digV l : Int)), .bool true])) Het.out
              exact ⟨by rw [R1.out, R2.out]; exact hfin, Below.refl _ _⟩
        · go_enter Tryd.func28, Tryd.ntmps28
          go_wp2_with fail
          skip
          go_loopg [5, 6] (t.size - 0) (fun k nv iv wr => ∃ j : Nat, nv = .int .i64 (digV (t.data.toList.take j)) ∧ iv = .int .i64 j ∧ j ≤ t.size ∧ Hid (k = t.size - j) ∧ Hid ((t.data.toList.take j).all digB = true) ∧ w = wr)
          case atStart => exact ⟨0, rfl, rfl, by omega, Lib.hid rfl, Lib.hid rfl, rfl⟩
          case round =>
            obtain ⟨j, rfl, rfl, hj, Hk, Hall, rfl⟩ := hrel
            by_cases hlt : j < t.size
            · have Hts := Lib.hid (take_succ t j hlt)
              have hvl : (digV (t.data.toList.take j) : Int) ≤ 10000000000 := by
                have h1 := digV_lt _ _ rfl Hall.out
                have h2 : (t.data.toList.take j).length ≤ 10 := by have := Hten.out; rw [List.length_take]; omega
                have h3 : 10 ^ (t.data.toList.take j).length ≤ 10 ^ 10 := Nat.pow_le_pow_right (by decide) h2
                omega
              have hv0 : (0 : Int) ≤ (digV (t.data.toList.take j) : Int) := by omega
              by_cases c1 : ((t[j].toNat : Nat) : Int) < 48
              · have hdg : t.data.toList.all digB = false := by
                  rw [List.all_eq_false]
                  exact ⟨t.data.toList[j]'(by simpa using hlt), List.getElem_mem _, by show ¬ digB t[j] = true; simp [digB]; omega⟩
                obtain ⟨r1, r2⟩ := Hbad.out (Hgood.out _ hdg)
                have R1 := Lib.hid r1
                have R2 := Lib.hid r2
                have g1 : (((t[j].toNat : Nat) : Int) < 48) = True := eq_true c1
                clear r1 r2 hdg c1
                go_wp2_with fail
                go_ret2
                exact ⟨by rw [R1.out, R2.out]; rfl, Below.refl _ _⟩
              · have g1 : (((t[j].toNat : Nat) : Int) < 48) = False := eq_false c1
                by_cases c2 : 57 < ((t[j].toNat : Nat) : Int)
                · have hdg : t.data.toList.all digB = false := by
                    rw [List.all_eq_false]
                    exact ⟨t.data.toList[j]'(by simpa using hlt), List.getElem_mem _, by show ¬ digB t[j] = true; simp [digB]; omega⟩
                  obtain ⟨r1, r2⟩ := Hbad.out (Hgood.out _ hdg)
                  have R1 := Lib.hid r1
                  have R2 := Lib.hid r2
                  have g2 : ((57 : Int) < ((t[j].toNat : Nat) : Int)) = True := eq_true c2
                  clear r1 r2 hdg c1 c2
                  go_wp2_with fail
                  go_ret2
                  exact ⟨by rw [R1.out, R2.out]; rfl, Below.refl _ _⟩
                · have g2 : ((57 : Int) < ((t[j].toNat : Nat) : Int)) = False := eq_false c2
                  have q1 : 48 ≤ ((t[j].toNat : Nat) : Int) := by omega
                  have q2 : ((t[j].toNat : Nat) : Int) ≤ 57 := by omega
                  clear c1 c2
                  go_wp2_with fail
                  go_roundg (t.size - (j + 1))
                  case measure => rw [Hk.out]; omega
                  case rel =>
                    refine ⟨j + 1, ?_, by go_num, by omega, Lib.hid rfl, Lib.hid ?_, rfl⟩
                    · rw [Hts.out, digV_snoc]
                      congr 1
                      omega
                    · rw [Hts.out, List.all_append, Hall.out]; simp [digB]; omega
            · obtain rfl : j = t.size := by omega
              have ha := Hall.out
              rw [List.take_of_length_le (by simp)] at ha
              have hg := Hgood.out _ ha
              have r1 := Hval.out
              rw [hg, if_pos rfl] at r1
              have R1 := Lib.hid r1
              have R2 := Lib.hid (Hok.out.trans hg)
              have hvl : (digV (t.data.toList.take t.size) : Int) ≤ 10000000000 := by
                have h1 := digV_lt _ _ rfl Hall.out
                have h2 : (t.data.toList.take t.size).length ≤ 10 := by have := Hten.out; rw [List.length_take]; omega
                have h3 : 10 ^ (t.data.toList.take t.size).length ≤ 10 ^ 10 := Nat.pow_le_pow_right (by decide) h2
                omega
              have hv0 : (0 : Int) ≤ (digV (t.data.toList.take t.size) : Int) := by omega
              have het : t.data.toList.take t.size = t.data.toList := List.take_of_length_le (by simp)
              have Het := Lib.hid het
              clear ha hg r1 het
              go_wp2_with fail
              go_ret2
              have hfin := congrArg (fun l => Ending.returned (.tuple #[.int .i64 ((digV l : Int)), .bool true])) Het.out
              exact ⟨by rw [R1.out, R2.out]; exact hfin, Below.refl _ _⟩

theorem read_T (w : World) (t : ByteArray) (hm : t.size ≤ 100000) :
    Calls Tryd.prog 28 #[.string t] w fun e w' => e = .returned (.tuple #[.int .i64 (readV t), .bool (readOk t)]) ∧ Below w.heap.size w w' := by
  by_cases h0 : t.size = 0
  · have hl : t.data.toList = [] := List.length_eq_zero_iff.1 (by simpa using h0)
    have hh : hd t = 0 := by unfold hd; rw [dif_neg (by omega)]
    have hn : negB t = false := by unfold negB; rw [hh]; rfl
    have hr : restB t = t := by unfold restB; rw [hn, if_neg (by simp)]
    have r2 : readOk t = false := by unfold readOk magOk; rw [hr, h0]; rfl
    have r1 : readV t = 0 := by unfold readV; rw [r2, if_neg (by simp)]
    rw [r1, r2]
    have f0 : ((0 : Int) < (t.size : Int)) = False := eq_false (by omega)
    have f0n : (0 < t.size) = False := eq_false (by omega)
    have f1 : ((t.size : Int) < 1) = True := eq_true (by omega)
    clear h0 hl hh hn hr r1 r2
    go_enter Tryd.func28, Tryd.ntmps28
    go_wp2_with fail
    go_ret2
    exact ⟨rfl, Below.refl _ _⟩
  · cases hn : negB t
    · exact read_pos w t _ hm (by omega) hn rfl
    · exact read_neg w t _ hm (by omega) hn rfl

end Go.Proofs.YtlnnblfkigcipaaDoor
