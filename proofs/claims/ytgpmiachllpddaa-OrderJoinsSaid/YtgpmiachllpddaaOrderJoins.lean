/- OrderJoins returns true, whatever it is given. Conditions: none but that the lists lie in memory. -/
import Derived.Test.YtgpmiachllpddaaJoinsKS
import Derived.Test.YtgpmiachllpddaaWakes
import Derived.Deep.LoopGhost
namespace Go.Proofs.Ytgpmiachllpddaa
open Go Go.RowKit

set_option maxRecDepth 100000 in
set_option maxHeartbeats 4000000 in
theorem joins_walk (w : World) (v1 v2 : Value) (xs ys : List SymV) (hv1 : S.SliceOf w v1 xs) (hv2 : S.SliceOf w v2 ys) (hx : xs.length ≤ 60) (hy : ys.length ≤ 60) :
    Calls Try.prog 7 #[v1, v2] w fun e w' => e = .returned (.bool true) ∧ Below w.heap.size w w' := by
  have hn1 := S.new_T w v1 xs hv1 (by omega)
  obtain ⟨a1, cap1, rfl, hc1⟩ := hv1
  have hw2 : ∀ W, Below w.heap.size w W → S.SliceOf W v2 ys := fun W h => hv2.below h
  obtain ⟨a2, cap2, rfl, hc2⟩ := hv2
  have lx := S.putl_length xs []
  have ly := S.putl_length ys []
  simp only [List.length_nil, Nat.zero_add] at lx ly
  go_enter Try.func7, Try.ntmps7
  go_wp2_with fail
  refine hn1.mono ?_
  rintro e w1 ⟨x, rfl, hx1, hX, hB1⟩
  have hn2 := S.new_T w1 _ ys (hw2 w1 hB1) (by omega)
  generalize xs.foldl (put symCmp) [] = X at lx hX
  have HX := Lib.hid hX
  clear hX hn1
  go_wp2_with fail
  refine hn2.mono ?_
  clear hn2
  rintro e w2 ⟨y, rfl, hy1, hY, hB2⟩
  have hC2 := hB1.trans (hB2.mono hB1.size)
  generalize ys.foldl (put symCmp) [] = Y at ly hY
  have HY := Lib.hid hY
  have HX2 := Lib.hid (HX.out.below hB2)
  clear hY HX
  go_wp2_with fail
  refine (S.lawlist_T w2 x X HX2.out (by omega)).mono ?_
  rintro e w3 ⟨vp, rfl, hP, hB3⟩
  have HP3 := Lib.hid hP.slice
  have HX3 := Lib.hid (HX2.out.below hB3)
  have HY3 := Lib.hid (HY.out.below hB3)
  clear hP
  go_wp2_with fail
  refine (S.lawlist_T w3 y Y HY3.out (by omega)).mono ?_
  rintro e w4 ⟨vq, rfl, hQ, hB4⟩
  have HQ4 := Lib.hid hQ.slice
  have HP4 := Lib.hid (HP3.out.below hB4)
  have HX4 := Lib.hid (HX3.out.below hB4)
  have HY4 := Lib.hid (HY3.out.below hB4)
  have hC4 := hC2.trans ((hB3.trans (hB4.mono hB3.size)).mono hC2.size)
  clear hQ HX2 HY HX3 HY3 HP3 hB1 hB2 hB3 hB4 hC2
  obtain ⟨ap, capp, rfl, hp⟩ : ∃ a cap, vp = .slice a X.length cap ∧ (X = [] ∨ ∃ b off, a = some ⟨b, off, none⟩ ∧ S.Elems w4 b off X) := HP4.out
  obtain ⟨aq, capq, rfl, hq⟩ : ∃ a cap, vq = .slice a Y.length cap ∧ (Y = [] ∨ ∃ b off, a = some ⟨b, off, none⟩ ∧ S.Elems w4 b off Y) := HQ4.out
  go_wp2_with fail
  refine (S.union_T w4 x y X Y HX4.out HY4.out (by omega) (by omega)).mono ?_
  rintro e w5 ⟨u, rfl, hu, hU, hB5⟩
  have HU5 := Lib.hid hU
  clear hU
  go_wp2_with fail
  refine (S.meet_T w5 x y X Y (HX4.out.below hB5) (HY4.out.below hB5) (by omega) (by omega)).mono ?_
  rintro e w6 ⟨m, rfl, hm, hM, hB6⟩
  have hD6 := hB5.trans (hB6.mono hB5.size)
  have HM6 := Lib.hid hM
  have HU6 := Lib.hid (HU5.out.below hB6)
  have hum : u < m := Nat.lt_of_lt_of_le HU5.out.lt hm
  clear hM HU5
  go_wp2_with fail
  refine (S.less_T w6 x y X Y (HX4.out.below hD6) (HY4.out.below hD6) (by omega) (by omega)).mono ?_
  rintro e w7 ⟨d, rfl, hd, hN, hB7⟩
  have hD7 := hD6.trans (hB7.mono hD6.size)
  have HN7 := Lib.hid hN
  have HU7 := Lib.hid (HU6.out.below hB7)
  have hmd : m < d := Nat.lt_of_lt_of_le HM6.out.lt hd
  have HM7 := Lib.hid (HM6.out.below hB7)
  have hu4 : w4.heap.size ≤ u := hu
  have hm4 : w4.heap.size ≤ m := Nat.le_trans hB5.size hm
  have hd4 : w4.heap.size ≤ d := Nat.le_trans hD6.size hd
  clear hN HM6 HU6
  go_wp2_with fail
  go_loopg [12, 13, 14, 15] X.length (fun k vo va vn i wr => ∃ (j : Nat), i = .int .i64 j ∧ j ≤ X.length ∧ Hid (k = X.length - j) ∧
      Hid (S.Own wr vo ((X.take j).foldl (put symCmp) []) ∧ S.Own wr va (((X.take j).filter (fun z => has symCmp Y z)).foldl (put symCmp) []) ∧ S.Own wr vn (((X.take j).filter (fun z => !has symCmp Y z)).foldl (put symCmp) [])) ∧ Below w7.heap.size w7 wr)
  case atStart => exact ⟨0, rfl, by omega, Lib.hid rfl, Lib.hid ⟨by simpa using S.Own.nil w7, by simpa using S.Own.nil w7, by simpa using S.Own.nil w7⟩, Below.refl _ _⟩
  case round =>
    obtain ⟨j, rfl, hj, Hk, HO, hB⟩ := hrel
    obtain ⟨ao, co, rfl⟩ := HO.out.1.len
    obtain ⟨aa, ca, rfl⟩ := HO.out.2.1.len
    obtain ⟨an, cn, rfl⟩ := HO.out.2.2.len
    have hlO : ((X.take j).foldl (put symCmp) []).length ≤ 60 := by have := S.putl_length (X.take j) []; simp at this; omega
    have hlA : (((X.take j).filter (fun z => has symCmp Y z)).foldl (put symCmp) []).length ≤ 60 := by
      have := S.putl_length ((X.take j).filter (fun z => has symCmp Y z)) []; have h2 := List.length_filter_le (fun z => has symCmp Y z) (X.take j); simp at this h2; omega
    have hlN : (((X.take j).filter (fun z => !has symCmp Y z)).foldl (put symCmp) []).length ≤ 60 := by
      have := S.putl_length ((X.take j).filter (fun z => !has symCmp Y z)) []; have h2 := List.length_filter_le (fun z => !has symCmp Y z) (X.take j); simp at this h2; omega
    have hBr := hD7.trans (hB.mono hD7.size)
    by_cases hlt : j < X.length
    · rcases hp with rfl | ⟨b, off, rfl, hel⟩
      · simp at hlt
      · obtain ⟨z, hz⟩ : ∃ z, X[j]? = some z := ⟨X[j], by simp [hlt]⟩
        have hbl := World.block_lt_of_cell? w4 _ (hel j z hz).1
        have hzc := (hel.below hBr hbl) j z hz
        have hO1 : (X.take (j + 1)).foldl (put symCmp) [] = put symCmp ((X.take j).foldl (put symCmp) []) z := by
          rw [List.take_add_one, hz, List.foldl_append]; rfl
        have Hel := Lib.hid hel
        have Hz := Lib.hid hz
        have HO1 := Lib.hid hO1
        have HA := Lib.hid HO.out.2.1
        have HN := Lib.hid HO.out.2.2
        have hput := S.ownput_T wr _ _ z HO.out.1 (by omega)
        generalize hgA : ((X.take j).filter (fun z => has symCmp Y z)).foldl (put symCmp) [] = A at hlA HA ⊢
        generalize hgN : ((X.take j).filter (fun z => !has symCmp Y z)).foldl (put symCmp) [] = N at hlN HN ⊢
        have HgA := Lib.hid hgA
        have HgN := Lib.hid hgN
        clear hel hz hO1 hgA hgN
        go_wp2_with fail
        refine hput.mono ?_
        clear hput
        rintro e w8 ⟨vo, rfl, hO8, hB8⟩
        have HO8 := Lib.hid hO8
        clear hO8
        have hBr8 := hBr.trans (hB8.mono hBr.size)
        have hzc8 := (Hel.out.below hBr8 hbl) j z Hz.out
        have hhas := S.has_T w8 _ Y z (HQ4.out.below hBr8) (by omega)
        go_wp2_with fail
        refine hhas.mono ?_
        clear hhas
        rintro e w9 ⟨rfl, hB9⟩
        have hBr9 := hBr8.trans (hB9.mono hBr8.size)
        have hzc9 := (Hel.out.below hBr9 hbl) j z Hz.out
        have HO9 := Lib.hid (HO8.out.below hB9)
        have HA9 := (HA.out.below hB8).below hB9
        have HN9 := (HN.out.below hB8).below hB9
        have hpA := S.ownput_T w9 _ _ z HA9 (by omega)
        have hpN := S.ownput_T w9 _ _ z HN9 (by omega)
        have HA9 := Lib.hid HA9
        have HN9 := Lib.hid HN9
        cases hh : has symCmp Y z
        · have Hh := Lib.hid hh
          clear hh
          go_wp2_with fail
          refine hpN.mono ?_
          clear hpN hpA
          rintro e w10 ⟨vn, rfl, hN10, hB10⟩
          have HN10 := Lib.hid hN10
          clear hN10
          go_wp2_with fail
          go_roundg (X.length - (j + 1))
          case measure => rw [Hk.out]; omega
          case rel =>
            refine ⟨j + 1, by go_num, by omega, Lib.hid rfl, Lib.hid ⟨?_, ?_, ?_⟩, (hB.trans (hB8.mono hB.size)).trans ((hB9.trans (hB10.mono hB9.size)).mono (Nat.le_trans hB.size hB8.size))⟩
            · rw [HO1.out]; exact HO9.out.below hB10
            · rw [List.take_add_one, Hz.out, List.filter_append]; simp only [Option.toList_some, List.filter_cons, Hh.out, List.filter_nil]; simpa [HgA.out] using HA9.out.below hB10
            · rw [List.take_add_one, Hz.out, List.filter_append]; simp only [Option.toList_some, List.filter_cons, Hh.out, List.filter_nil]; simpa [HgN.out] using HN10.out
        · have Hh := Lib.hid hh
          clear hh
          go_wp2_with fail
          refine hpA.mono ?_
          clear hpN hpA
          rintro e w10 ⟨va, rfl, hA10, hB10⟩
          have HA10 := Lib.hid hA10
          clear hA10
          go_wp2_with fail
          go_roundg (X.length - (j + 1))
          case measure => rw [Hk.out]; omega
          case rel =>
            refine ⟨j + 1, by go_num, by omega, Lib.hid rfl, Lib.hid ⟨?_, ?_, ?_⟩, (hB.trans (hB8.mono hB.size)).trans ((hB9.trans (hB10.mono hB9.size)).mono (Nat.le_trans hB.size hB8.size))⟩
            · rw [HO1.out]; exact HO9.out.below hB10
            · rw [List.take_add_one, Hz.out, List.filter_append]; simp only [Option.toList_some, List.filter_cons, Hh.out, List.filter_nil]; simpa [HgA.out] using HA10.out
            · rw [List.take_add_one, Hz.out, List.filter_append]; simp only [Option.toList_some, List.filter_cons, Hh.out, List.filter_nil]; simpa [HgN.out] using HN9.out.below hB10
    · obtain rfl : j = X.length := by omega
      rw [List.take_length] at *
      go_wp2_with fail
      obtain ⟨w20, rfl⟩ : ∃ w', w' = wr := ⟨wr, rfl⟩
      have HO20 := Lib.hid HO.out.1
      have HA20 := Lib.hid HO.out.2.1
      have HN20 := Lib.hid HO.out.2.2
      have hX0 : ∀ a, a ∈ X.foldl (put symCmp) [] ↔ a ∈ X := fun a => (mem_puts S.symCmp_exact).trans (by simp)
      have hMA : X.filter (fun z => has symCmp Y z == true) = (X.filter (fun z => has symCmp Y z)).foldl (put symCmp) [] :=
        S.sorted_ext symCmp_lin S.symCmp_exact (by obtain ⟨-, -, -, -, -, h⟩ := HM7.out; exact h) HA20.out.2.2 (fun a => by rw [mem_puts S.symCmp_exact]; simp)
      have hDN : X.filter (fun z => has symCmp Y z == false) = (X.filter (fun z => !has symCmp Y z)).foldl (put symCmp) [] :=
        S.sorted_ext symCmp_lin S.symCmp_exact (by obtain ⟨-, -, -, -, -, h⟩ := HN7.out; exact h) HN20.out.2.2 (fun a => by rw [mem_puts S.symCmp_exact]; simp)
      have lU := S.putl_length Y X
      rw [hMA] at HM7
      rw [hDN] at HN7
      have HU20 := Lib.hid (HU7.out.below hB)
      have HM20 := Lib.hid (HM7.out.below hB)
      have HN21 := Lib.hid (HN7.out.below hB)
      have HX0 := Lib.hid hX0
      clear hX0 hMA hDN HO HU7 HM7 HN7
      generalize (X.filter (fun z => has symCmp Y z)).foldl (put symCmp) [] = A at hlA HA20 HM20 ⊢
      generalize (X.filter (fun z => !has symCmp Y z)).foldl (put symCmp) [] = N at hlN HN20 HN21 ⊢
      generalize X.foldl (put symCmp) [] = X0 at hlO HO20 HX0 ⊢
      go_loopg [12, 16] Y.length (fun k vo i wr => ∃ (j : Nat), i = .int .i64 j ∧ j ≤ Y.length ∧ Hid (k = Y.length - j) ∧ Hid (S.Own wr vo ((Y.take j).foldl (put symCmp) X0)) ∧ Below w20.heap.size w20 wr)
      case atStart => exact ⟨0, rfl, by omega, Lib.hid rfl, Lib.hid (by simpa using HO20.out), Below.refl _ _⟩
      case round =>
        obtain ⟨j, rfl, hj, Hk, HO2, hB2⟩ := hrel
        obtain ⟨ao2, co2, rfl⟩ := HO2.out.len
        have hlO2 : ((Y.take j).foldl (put symCmp) X0).length ≤ 120 := by have := S.putl_length (Y.take j) X0; simp at this; omega
        have hBr2 := hBr.trans (hB2.mono hBr.size)
        by_cases hlt : j < Y.length
        · rcases hq with rfl | ⟨b, off, rfl, hel⟩
          · simp at hlt
          · obtain ⟨z, hz⟩ : ∃ z, Y[j]? = some z := ⟨Y[j], by simp [hlt]⟩
            have hbl := World.block_lt_of_cell? w4 _ (hel j z hz).1
            have hzc := (hel.below hBr2 hbl) j z hz
            have hO1 : (Y.take (j + 1)).foldl (put symCmp) X0 = put symCmp ((Y.take j).foldl (put symCmp) X0) z := by
              rw [List.take_add_one, hz, List.foldl_append]; rfl
            have HO1 := Lib.hid hO1
            have hput := S.ownput_T wr _ _ z HO2.out (by omega)
            clear hel hz hO1
            go_wp2_with fail
            refine hput.mono ?_
            clear hput
            rintro e w8 ⟨vo, rfl, hO8, hB8⟩
            have HO8 := Lib.hid hO8
            clear hO8
            go_wp2_with fail
            go_roundg (Y.length - (j + 1))
            case measure => rw [Hk.out]; omega
            case rel => exact ⟨j + 1, by go_num, by omega, Lib.hid rfl, Lib.hid (by rw [HO1.out]; exact HO8.out), hB2.trans (hB8.mono hB2.size)⟩
        · obtain rfl : j = Y.length := by omega
          rw [List.take_length] at *
          have hUO : Y.foldl (put symCmp) X = Y.foldl (put symCmp) X0 :=
            S.sorted_ext symCmp_lin S.symCmp_exact (by obtain ⟨-, -, -, -, -, h⟩ := HU20.out; exact h) HO2.out.2.2 (fun a => by rw [mem_puts S.symCmp_exact, mem_puts S.symCmp_exact, HX0.out])
          rw [hUO] at HU20 lU
          have HU30 := Lib.hid (HU20.out.below hB2)
          have HM30 := Lib.hid (HM20.out.below hB2)
          have HN30 := Lib.hid (HN21.out.below hB2)
          have HA30 := Lib.hid (HA20.out.below hB2)
          have HB30 := Lib.hid (HN20.out.below hB2)
          clear hUO HU20 HM20 HN21 HA20 HN20
          generalize Y.foldl (put symCmp) X0 = U at hlO2 HO2 HU30 lU ⊢
          go_wp2_with fail
          refine (S.lawlist_T wr u U HU30.out (by omega)).mono ?_
          rintro e w31 ⟨vu, rfl, hL31, hB31⟩
          have hs1 := S.syms_T w31 vu _ U U hL31.slice (HO2.out.1.below hB31) (by omega) (by omega)
          clear hL31
          go_wp2_with fail
          refine hs1.mono ?_
          clear hs1
          rintro e w32 ⟨⟨q1, rfl, hq1⟩, hB32⟩
          obtain rfl : q1 = true := by simpa using hq1
          have hE32 := hB31.trans (hB32.mono hB31.size)
          clear hq1
          go_wp2_with fail
          refine (S.lawlist_T w32 m A (HM30.out.below hE32) (by omega)).mono ?_
          rintro e w33 ⟨vm, rfl, hL33, hB33⟩
          have hE33 := hE32.trans (hB33.mono hE32.size)
          have hs2 := S.syms_T w33 vm _ A A hL33.slice (HA30.out.1.below hE33) (by omega) (by omega)
          clear hL33
          go_wp2_with fail
          refine hs2.mono ?_
          clear hs2
          rintro e w34 ⟨⟨q2, rfl, hq2⟩, hB34⟩
          obtain rfl : q2 = true := by simpa using hq2
          have hE34 := hE33.trans (hB34.mono hE33.size)
          clear hq2
          go_wp2_with fail
          refine (S.lawlist_T w34 d N (HN30.out.below hE34) (by omega)).mono ?_
          rintro e w35 ⟨vd, rfl, hL35, hB35⟩
          have hE35 := hE34.trans (hB35.mono hE34.size)
          have hs3 := S.syms_T w35 vd _ N N hL35.slice (HB30.out.1.below hE35) (by omega) (by omega)
          clear hL35
          go_wp2_with fail
          refine hs3.mono ?_
          clear hs3
          rintro e w36 ⟨⟨q3, rfl, hq3⟩, hB36⟩
          obtain rfl : q3 = true := by simpa using hq3
          have hE36 := hE35.trans (hB36.mono hE35.size)
          clear hq3
          have HU36 := Lib.hid (HU30.out.below hE36)
          have HM36 := Lib.hid (HM30.out.below hE36)
          have HN36 := Lib.hid (HN30.out.below hE36)
          have hF36 := hBr2.trans (hE36.mono hBr2.size)
          clear HU30 HM30 HN30 HA30 HB30 HO2
          go_wp2_with fail
          refine (S.put_T w36 u U ⟨9, ⟨#[]⟩, 0⟩ HU36.out (by omega)).mono ?_
          rintro e w37 ⟨rfl, -, hb37⟩
          have HM37 := Lib.hid (HM36.out.other HU36.out hb37 (by omega))
          have HN37 := Lib.hid (HN36.out.other HU36.out hb37 (by omega))
          have hF37 := S.below_but hF36 hb37 hu4 hF36.size
          clear HU36 HM36 HN36 hb37
          go_wp2_with fail
          refine (S.put_T w37 m A ⟨9, ⟨#[]⟩, 0⟩ HM37.out (by omega)).mono ?_
          rintro e w38 ⟨rfl, -, hb38⟩
          have HN38 := Lib.hid (HN37.out.other HM37.out hb38 (by omega))
          have hF38 := S.below_but hF37 hb38 hm4 hF37.size
          clear HM37 HN37 hb38
          go_wp2_with fail
          refine (S.put_T w38 d N ⟨9, ⟨#[]⟩, 0⟩ HN38.out (by omega)).mono ?_
          rintro e w39 ⟨rfl, -, hb39⟩
          have hF39 := S.below_but hF38 hb39 hd4 hF38.size
          clear HN38 hb39
          have HX39 := Lib.hid (HX4.out.below hF39)
          go_wp2_with fail
          refine (S.lawlist_T w39 x X HX39.out (by omega)).mono ?_
          rintro e w40 ⟨vx, rfl, hL40, hB40⟩
          have hF40 := hF39.trans (hB40.mono hF39.size)
          have hs4 := S.syms_T w40 vx _ X X hL40.slice (HP4.out.below hF40) (by omega) (by omega)
          clear hL40
          go_wp2_with fail
          refine hs4.mono ?_
          clear hs4
          rintro e w41 ⟨⟨q4, rfl, hq4⟩, hB41⟩
          obtain rfl : q4 = true := by simpa using hq4
          have hF41 := hF40.trans (hB41.mono hF40.size)
          clear hq4
          go_wp2_with fail
          refine (S.lawlist_T w41 y Y (HY4.out.below hF41) (by omega)).mono ?_
          rintro e w42 ⟨vy, rfl, hL42, hB42⟩
          have hF42 := hF41.trans (hB42.mono hF41.size)
          have hs5 := S.syms_T w42 vy _ Y Y hL42.slice (HQ4.out.below hF42) (by omega) (by omega)
          clear hL42
          go_wp2_with fail
          refine hs5.mono ?_
          clear hs5
          rintro e w43 ⟨⟨q5, rfl, hq5⟩, hB43⟩
          obtain rfl : q5 = true := by simpa using hq5
          have hF43 := hF42.trans (hB43.mono hF42.size)
          clear hq5
          have hse := S.same_eq (HX4.out.below hF43) (HY4.out.below hF43)
          have hsm := S.same_T w43 x y X Y (HX4.out.below hF43) (HY4.out.below hF43) (by omega) (by omega)
          generalize (X.length == Y.length && X.all (has symCmp Y)) = q6 at hse hsm
          have Hse := Lib.hid hse
          clear hse
          go_wp2_with fail
          refine hsm.mono ?_
          clear hsm
          rintro e w44 ⟨rfl, hB44⟩
          have hF44 := hF43.trans (hB44.mono hF43.size)
          have hs7 := S.syms_T w44 _ _ X Y (HP4.out.below hF44) (HQ4.out.below hF44) (by omega) (by omega)
          go_wp2_with fail
          refine hs7.mono ?_
          clear hs7
          rintro e w45 ⟨⟨q7, rfl, hq7⟩, hB45⟩
          obtain rfl : q7 = q6 := Bool.eq_iff_iff.2 (hq7.trans Hse.out.symm)
          have hqq : (q7 == q7) = true := beq_self_eq_true q7
          have hF45 := hF44.trans (hB45.mono hF44.size)
          clear hq7
          go_wp2_with fail
          refine (wakes_T w45).mono ?_
          rintro e w46 ⟨rfl, hB46⟩
          go_wp2_with fail
          go_ret
          have hF46 := hF45.trans (hB46.mono hF45.size)
          exact ⟨rfl, hC4.trans (hF46.mono hC4.size)⟩

theorem joins_big1 (w : World) (v1 v2 : Value) (xs ys : List SymV) (hv1 : S.SliceOf w v1 xs) (hv2 : S.SliceOf w v2 ys) (hx : 60 < xs.length) :
    Calls Try.prog 7 #[v1, v2] w fun e w' => e = .returned (.bool true) ∧ Below w.heap.size w w' := by
  obtain ⟨a1, cap1, rfl, -⟩ := hv1
  obtain ⟨a2, cap2, rfl, -⟩ := hv2
  skip
  go_enter Try.func7, Try.ntmps7
  go_wp2_with fail
  refine (wakes_T w).mono ?_
  rintro e w1 ⟨rfl, hb⟩
  go_wp2_with fail
  go_ret
  exact ⟨rfl, hb⟩

theorem joins_big2 (w : World) (v1 v2 : Value) (xs ys : List SymV) (hv1 : S.SliceOf w v1 xs) (hv2 : S.SliceOf w v2 ys) (hx : xs.length ≤ 60 ∧ 60 < ys.length) :
    Calls Try.prog 7 #[v1, v2] w fun e w' => e = .returned (.bool true) ∧ Below w.heap.size w w' := by
  obtain ⟨a1, cap1, rfl, -⟩ := hv1
  obtain ⟨a2, cap2, rfl, -⟩ := hv2
  obtain ⟨h1, h2⟩ := hx
  go_enter Try.func7, Try.ntmps7
  go_wp2_with fail
  refine (wakes_T w).mono ?_
  rintro e w1 ⟨rfl, hb⟩
  go_wp2_with fail
  go_ret
  exact ⟨rfl, hb⟩

theorem joins_any (w : World) (v1 v2 : Value) (xs ys : List SymV) (hv1 : S.SliceOf w v1 xs) (hv2 : S.SliceOf w v2 ys) :
    Calls Try.prog 7 #[v1, v2] w fun e w' => e = .returned (.bool true) ∧ Below w.heap.size w w' := by
  by_cases h1 : xs.length ≤ 60
  · by_cases h2 : ys.length ≤ 60
    · exact joins_walk w v1 v2 xs ys hv1 hv2 h1 h2
    · exact joins_big2 w v1 v2 xs ys hv1 hv2 ⟨h1, by omega⟩
  · exact joins_big1 w v1 v2 xs ys hv1 hv2 (by omega)

end Go.Proofs.Ytgpmiachllpddaa
