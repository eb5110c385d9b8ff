/- OrderLaws returns true, whatever it is given. Conditions: none but that the lists lie in memory. -/
import Derived.Test.YtgpmiachllpddaaMeetSS
import Derived.Test.YtgpmiachllpddaaWakes
namespace Go.Proofs.Ytgpmiachllpddaa
open Go Go.RowKit

set_option maxRecDepth 100000 in
set_option maxHeartbeats 4000000 in
theorem laws_walk (w : World) (v1 v2 v3 : Value) (xs ys zs : List SymV) (hv1 : S.SliceOf w v1 xs) (hv2 : S.SliceOf w v2 ys) (hv3 : S.SliceOf w v3 zs) (hx : xs.length ≤ 30) (hy : ys.length ≤ 30) (hz : zs.length ≤ 30) :
    Calls Try.prog 10 #[v1, v2, v3] w fun e w' => e = .returned (.bool true) ∧ Below w.heap.size w w' := by
  have hn1 := S.new_T w v1 xs hv1 (by omega)
  obtain ⟨a1, cap1, rfl, hc1⟩ := hv1
  have hw2 : ∀ W, Below w.heap.size w W → S.SliceOf W v2 ys := fun W h => hv2.below h
  have hw3 : ∀ W, Below w.heap.size w W → S.SliceOf W v3 zs := fun W h => hv3.below h
  obtain ⟨a2, cap2, rfl, hc2⟩ := hv2
  obtain ⟨a3, cap3, rfl, hc3⟩ := hv3
  have lx := S.putl_length xs []
  have ly := S.putl_length ys []
  have lz := S.putl_length zs []
  simp only [List.length_nil, Nat.zero_add] at lx ly lz
  go_enter Try.func10, Try.ntmps10
  go_wp2_with fail
  refine hn1.mono ?_
  rintro e w1 ⟨x, rfl, hx1, hX, hB1⟩
  have hn2 := S.new_T w1 _ ys (hw2 w1 hB1) (by omega)
  generalize xs.foldl (put symCmp) [] = X at lx hX
  have HX := Lib.hid hX
  clear hX hn1
  go_wp2_with fail
  refine hn2.mono ?_
  clear hn2
  rintro e w2 ⟨y, rfl, hy1, hY, hB2⟩
  have hC2 := hB1.trans (hB2.mono hB1.size)
  have hn3 := S.new_T w2 _ zs (hw3 w2 hC2) (by omega)
  generalize ys.foldl (put symCmp) [] = Y at ly hY
  have HY := Lib.hid hY
  clear hY
  go_wp2_with fail
  refine hn3.mono ?_
  clear hn3
  rintro e w3 ⟨z, rfl, hz1, hZ, hB3⟩
  have hC3 := hC2.trans (hB3.mono hC2.size)
  generalize zs.foldl (put symCmp) [] = Z at lz hZ
  have HZ3 := Lib.hid hZ
  have HY3 := Lib.hid (HY.out.below hB3)
  have HX3 := Lib.hid ((HX.out.below hB2).below hB3)
  clear hZ HX HY hB1 hB2 hB3 hC2
  go_wp2_with fail
  refine (S.union_T w3 x y X Y HX3.out HY3.out (by omega) (by omega)).mono ?_
  rintro e w4 ⟨u1, rfl, -, hU1, hB4⟩
  obtain ⟨MU1, lU1⟩ : (Hid (∀ a, a ∈ Y.foldl (put symCmp) X ↔ a ∈ Y ∨ a ∈ X)) ∧ (Y.foldl (put symCmp) X).length ≤ 60 := ⟨Lib.hid (fun a => S.mem_union), by have := S.putl_length Y X; omega⟩
  generalize Y.foldl (put symCmp) X = U1 at hU1 MU1 lU1
  have hC4 := hC3.trans (hB4.mono hC3.size)
  have HX4 := Lib.hid (HX3.out.below hB4)
  have HY4 := Lib.hid (HY3.out.below hB4)
  have HZ4 := Lib.hid (HZ3.out.below hB4)
  clear HX3 HY3 HZ3 hB4 hC3
  have HU14 := Lib.hid hU1
  clear hU1
  go_wp2_with fail
  refine (S.union_T w4 y x Y X HY4.out HX4.out (by omega) (by omega)).mono ?_
  rintro e w5 ⟨u2, rfl, -, hU2, hB5⟩
  obtain ⟨MU2, lU2⟩ : (Hid (∀ a, a ∈ X.foldl (put symCmp) Y ↔ a ∈ X ∨ a ∈ Y)) ∧ (X.foldl (put symCmp) Y).length ≤ 60 := ⟨Lib.hid (fun a => S.mem_union), by have := S.putl_length X Y; omega⟩
  generalize X.foldl (put symCmp) Y = U2 at hU2 MU2 lU2
  have hC5 := hC4.trans (hB5.mono hC4.size)
  have HX5 := Lib.hid (HX4.out.below hB5)
  have HY5 := Lib.hid (HY4.out.below hB5)
  have HZ5 := Lib.hid (HZ4.out.below hB5)
  have HU15 := Lib.hid (HU14.out.below hB5)
  clear HX4 HY4 HZ4 HU14 hB5 hC4
  have HU25 := Lib.hid hU2
  clear hU2
  go_wp2_with fail
  refine (S.same_T w5 u1 u2 U1 U2 HU15.out HU25.out (by omega) (by omega)).mono ?_
  rw [S.same_true HU15.out HU25.out (fun a => by rw [MU1.out, MU2.out]; exact or_comm)]
  rintro e w6 ⟨rfl, hB6⟩
  have hC6 := hC5.trans (hB6.mono hC5.size)
  have HX6 := Lib.hid (HX5.out.below hB6)
  have HY6 := Lib.hid (HY5.out.below hB6)
  have HZ6 := Lib.hid (HZ5.out.below hB6)
  have HU16 := Lib.hid (HU15.out.below hB6)
  have HU26 := Lib.hid (HU25.out.below hB6)
  clear HX5 HY5 HZ5 HU15 HU25 hB6 hC5
  go_wp2_with fail
  clear HU16
  clear HU26
  refine (S.meet_T w6 x y X Y HX6.out HY6.out (by omega) (by omega)).mono ?_
  rintro e w7 ⟨m1, rfl, -, hM1, hB7⟩
  obtain ⟨MM1, lM1⟩ : (Hid (∀ a, a ∈ X.filter (fun x => has symCmp Y x == true) ↔ a ∈ X ∧ a ∈ Y)) ∧ (X.filter (fun x => has symCmp Y x == true)).length ≤ 30 := ⟨Lib.hid (fun a => S.mem_meet), by have := List.length_filter_le (fun x => has symCmp Y x == true) X; omega⟩
  generalize X.filter (fun x => has symCmp Y x == true) = M1 at hM1 MM1 lM1
  have hC7 := hC6.trans (hB7.mono hC6.size)
  have HX7 := Lib.hid (HX6.out.below hB7)
  have HY7 := Lib.hid (HY6.out.below hB7)
  have HZ7 := Lib.hid (HZ6.out.below hB7)
  clear HX6 HY6 HZ6 hB7 hC6
  have HM17 := Lib.hid hM1
  clear hM1
  go_wp2_with fail
  refine (S.meet_T w7 y x Y X HY7.out HX7.out (by omega) (by omega)).mono ?_
  rintro e w8 ⟨m2, rfl, -, hM2, hB8⟩
  obtain ⟨MM2, lM2⟩ : (Hid (∀ a, a ∈ Y.filter (fun x => has symCmp X x == true) ↔ a ∈ Y ∧ a ∈ X)) ∧ (Y.filter (fun x => has symCmp X x == true)).length ≤ 30 := ⟨Lib.hid (fun a => S.mem_meet), by have := List.length_filter_le (fun x => has symCmp X x == true) Y; omega⟩
  generalize Y.filter (fun x => has symCmp X x == true) = M2 at hM2 MM2 lM2
  have hC8 := hC7.trans (hB8.mono hC7.size)
  have HX8 := Lib.hid (HX7.out.below hB8)
  have HY8 := Lib.hid (HY7.out.below hB8)
  have HZ8 := Lib.hid (HZ7.out.below hB8)
  have HM18 := Lib.hid (HM17.out.below hB8)
  clear HX7 HY7 HZ7 HM17 hB8 hC7
  have HM28 := Lib.hid hM2
  clear hM2
  go_wp2_with fail
  refine (S.same_T w8 m1 m2 M1 M2 HM18.out HM28.out (by omega) (by omega)).mono ?_
  rw [S.same_true HM18.out HM28.out (fun a => by rw [MM1.out, MM2.out]; exact and_comm)]
  rintro e w9 ⟨rfl, hB9⟩
  have hC9 := hC8.trans (hB9.mono hC8.size)
  have HX9 := Lib.hid (HX8.out.below hB9)
  have HY9 := Lib.hid (HY8.out.below hB9)
  have HZ9 := Lib.hid (HZ8.out.below hB9)
  have HM19 := Lib.hid (HM18.out.below hB9)
  have HM29 := Lib.hid (HM28.out.below hB9)
  clear HX8 HY8 HZ8 HM18 HM28 hB9 hC8
  go_wp2_with fail
  clear HM19
  clear HM29
  refine (S.union_T w9 x y X Y HX9.out HY9.out (by omega) (by omega)).mono ?_
  rintro e w10 ⟨u3, rfl, -, hU3, hB10⟩
  obtain ⟨MU3, lU3⟩ : (Hid (∀ a, a ∈ Y.foldl (put symCmp) X ↔ a ∈ Y ∨ a ∈ X)) ∧ (Y.foldl (put symCmp) X).length ≤ 60 := ⟨Lib.hid (fun a => S.mem_union), by have := S.putl_length Y X; omega⟩
  generalize Y.foldl (put symCmp) X = U3 at hU3 MU3 lU3
  have hC10 := hC9.trans (hB10.mono hC9.size)
  have HX10 := Lib.hid (HX9.out.below hB10)
  have HY10 := Lib.hid (HY9.out.below hB10)
  have HZ10 := Lib.hid (HZ9.out.below hB10)
  clear HX9 HY9 HZ9 hB10 hC9
  have HU310 := Lib.hid hU3
  clear hU3
  go_wp2_with fail
  refine (S.union_T w10 u3 z U3 Z HU310.out HZ10.out (by omega) (by omega)).mono ?_
  rintro e w11 ⟨u4, rfl, -, hU4, hB11⟩
  obtain ⟨MU4, lU4⟩ : (Hid (∀ a, a ∈ Z.foldl (put symCmp) U3 ↔ a ∈ Z ∨ a ∈ U3)) ∧ (Z.foldl (put symCmp) U3).length ≤ 90 := ⟨Lib.hid (fun a => S.mem_union), by have := S.putl_length Z U3; omega⟩
  generalize Z.foldl (put symCmp) U3 = U4 at hU4 MU4 lU4
  have hC11 := hC10.trans (hB11.mono hC10.size)
  have HX11 := Lib.hid (HX10.out.below hB11)
  have HY11 := Lib.hid (HY10.out.below hB11)
  have HZ11 := Lib.hid (HZ10.out.below hB11)
  have HU311 := Lib.hid (HU310.out.below hB11)
  clear HX10 HY10 HZ10 HU310 hB11 hC10
  have HU411 := Lib.hid hU4
  clear hU4
  go_wp2_with fail
  refine (S.union_T w11 y z Y Z HY11.out HZ11.out (by omega) (by omega)).mono ?_
  rintro e w12 ⟨u5, rfl, -, hU5, hB12⟩
  obtain ⟨MU5, lU5⟩ : (Hid (∀ a, a ∈ Z.foldl (put symCmp) Y ↔ a ∈ Z ∨ a ∈ Y)) ∧ (Z.foldl (put symCmp) Y).length ≤ 60 := ⟨Lib.hid (fun a => S.mem_union), by have := S.putl_length Z Y; omega⟩
  generalize Z.foldl (put symCmp) Y = U5 at hU5 MU5 lU5
  have hC12 := hC11.trans (hB12.mono hC11.size)
  have HX12 := Lib.hid (HX11.out.below hB12)
  have HY12 := Lib.hid (HY11.out.below hB12)
  have HZ12 := Lib.hid (HZ11.out.below hB12)
  have HU312 := Lib.hid (HU311.out.below hB12)
  have HU412 := Lib.hid (HU411.out.below hB12)
  clear HX11 HY11 HZ11 HU311 HU411 hB12 hC11
  have HU512 := Lib.hid hU5
  clear hU5
  go_wp2_with fail
  refine (S.union_T w12 x u5 X U5 HX12.out HU512.out (by omega) (by omega)).mono ?_
  rintro e w13 ⟨u6, rfl, -, hU6, hB13⟩
  obtain ⟨MU6, lU6⟩ : (Hid (∀ a, a ∈ U5.foldl (put symCmp) X ↔ a ∈ U5 ∨ a ∈ X)) ∧ (U5.foldl (put symCmp) X).length ≤ 90 := ⟨Lib.hid (fun a => S.mem_union), by have := S.putl_length U5 X; omega⟩
  generalize U5.foldl (put symCmp) X = U6 at hU6 MU6 lU6
  have hC13 := hC12.trans (hB13.mono hC12.size)
  have HX13 := Lib.hid (HX12.out.below hB13)
  have HY13 := Lib.hid (HY12.out.below hB13)
  have HZ13 := Lib.hid (HZ12.out.below hB13)
  have HU313 := Lib.hid (HU312.out.below hB13)
  have HU413 := Lib.hid (HU412.out.below hB13)
  have HU513 := Lib.hid (HU512.out.below hB13)
  clear HX12 HY12 HZ12 HU312 HU412 HU512 hB13 hC12
  have HU613 := Lib.hid hU6
  clear hU6
  go_wp2_with fail
  refine (S.same_T w13 u4 u6 U4 U6 HU413.out HU613.out (by omega) (by omega)).mono ?_
  rw [S.same_true HU413.out HU613.out (fun a => by rw [MU4.out, MU6.out, MU3.out, MU5.out]; exact or_assoc.symm)]
  rintro e w14 ⟨rfl, hB14⟩
  have hC14 := hC13.trans (hB14.mono hC13.size)
  have HX14 := Lib.hid (HX13.out.below hB14)
  have HY14 := Lib.hid (HY13.out.below hB14)
  have HZ14 := Lib.hid (HZ13.out.below hB14)
  have HU314 := Lib.hid (HU313.out.below hB14)
  have HU414 := Lib.hid (HU413.out.below hB14)
  have HU514 := Lib.hid (HU513.out.below hB14)
  have HU614 := Lib.hid (HU613.out.below hB14)
  clear HX13 HY13 HZ13 HU313 HU413 HU513 HU613 hB14 hC13
  go_wp2_with fail
  clear HU314
  clear HU414
  clear HU514
  clear HU614
  refine (S.union_T w14 y z Y Z HY14.out HZ14.out (by omega) (by omega)).mono ?_
  rintro e w15 ⟨u7, rfl, -, hU7, hB15⟩
  obtain ⟨MU7, lU7⟩ : (Hid (∀ a, a ∈ Z.foldl (put symCmp) Y ↔ a ∈ Z ∨ a ∈ Y)) ∧ (Z.foldl (put symCmp) Y).length ≤ 60 := ⟨Lib.hid (fun a => S.mem_union), by have := S.putl_length Z Y; omega⟩
  generalize Z.foldl (put symCmp) Y = U7 at hU7 MU7 lU7
  have hC15 := hC14.trans (hB15.mono hC14.size)
  have HX15 := Lib.hid (HX14.out.below hB15)
  have HY15 := Lib.hid (HY14.out.below hB15)
  have HZ15 := Lib.hid (HZ14.out.below hB15)
  clear HX14 HY14 HZ14 hB15 hC14
  have HU715 := Lib.hid hU7
  clear hU7
  go_wp2_with fail
  refine (S.meet_T w15 x u7 X U7 HX15.out HU715.out (by omega) (by omega)).mono ?_
  rintro e w16 ⟨m3, rfl, -, hM3, hB16⟩
  obtain ⟨MM3, lM3⟩ : (Hid (∀ a, a ∈ X.filter (fun x => has symCmp U7 x == true) ↔ a ∈ X ∧ a ∈ U7)) ∧ (X.filter (fun x => has symCmp U7 x == true)).length ≤ 30 := ⟨Lib.hid (fun a => S.mem_meet), by have := List.length_filter_le (fun x => has symCmp U7 x == true) X; omega⟩
  generalize X.filter (fun x => has symCmp U7 x == true) = M3 at hM3 MM3 lM3
  have hC16 := hC15.trans (hB16.mono hC15.size)
  have HX16 := Lib.hid (HX15.out.below hB16)
  have HY16 := Lib.hid (HY15.out.below hB16)
  have HZ16 := Lib.hid (HZ15.out.below hB16)
  have HU716 := Lib.hid (HU715.out.below hB16)
  clear HX15 HY15 HZ15 HU715 hB16 hC15
  have HM316 := Lib.hid hM3
  clear hM3
  go_wp2_with fail
  refine (S.meet_T w16 x y X Y HX16.out HY16.out (by omega) (by omega)).mono ?_
  rintro e w17 ⟨m4, rfl, -, hM4, hB17⟩
  obtain ⟨MM4, lM4⟩ : (Hid (∀ a, a ∈ X.filter (fun x => has symCmp Y x == true) ↔ a ∈ X ∧ a ∈ Y)) ∧ (X.filter (fun x => has symCmp Y x == true)).length ≤ 30 := ⟨Lib.hid (fun a => S.mem_meet), by have := List.length_filter_le (fun x => has symCmp Y x == true) X; omega⟩
  generalize X.filter (fun x => has symCmp Y x == true) = M4 at hM4 MM4 lM4
  have hC17 := hC16.trans (hB17.mono hC16.size)
  have HX17 := Lib.hid (HX16.out.below hB17)
  have HY17 := Lib.hid (HY16.out.below hB17)
  have HZ17 := Lib.hid (HZ16.out.below hB17)
  have HU717 := Lib.hid (HU716.out.below hB17)
  have HM317 := Lib.hid (HM316.out.below hB17)
  clear HX16 HY16 HZ16 HU716 HM316 hB17 hC16
  have HM417 := Lib.hid hM4
  clear hM4
  go_wp2_with fail
  refine (S.meet_T w17 x z X Z HX17.out HZ17.out (by omega) (by omega)).mono ?_
  rintro e w18 ⟨m5, rfl, -, hM5, hB18⟩
  obtain ⟨MM5, lM5⟩ : (Hid (∀ a, a ∈ X.filter (fun x => has symCmp Z x == true) ↔ a ∈ X ∧ a ∈ Z)) ∧ (X.filter (fun x => has symCmp Z x == true)).length ≤ 30 := ⟨Lib.hid (fun a => S.mem_meet), by have := List.length_filter_le (fun x => has symCmp Z x == true) X; omega⟩
  generalize X.filter (fun x => has symCmp Z x == true) = M5 at hM5 MM5 lM5
  have hC18 := hC17.trans (hB18.mono hC17.size)
  have HX18 := Lib.hid (HX17.out.below hB18)
  have HY18 := Lib.hid (HY17.out.below hB18)
  have HZ18 := Lib.hid (HZ17.out.below hB18)
  have HU718 := Lib.hid (HU717.out.below hB18)
  have HM318 := Lib.hid (HM317.out.below hB18)
  have HM418 := Lib.hid (HM417.out.below hB18)
  clear HX17 HY17 HZ17 HU717 HM317 HM417 hB18 hC17
  have HM518 := Lib.hid hM5
  clear hM5
  go_wp2_with fail
  refine (S.union_T w18 m4 m5 M4 M5 HM418.out HM518.out (by omega) (by omega)).mono ?_
  rintro e w19 ⟨u8, rfl, -, hU8, hB19⟩
  obtain ⟨MU8, lU8⟩ : (Hid (∀ a, a ∈ M5.foldl (put symCmp) M4 ↔ a ∈ M5 ∨ a ∈ M4)) ∧ (M5.foldl (put symCmp) M4).length ≤ 60 := ⟨Lib.hid (fun a => S.mem_union), by have := S.putl_length M5 M4; omega⟩
  generalize M5.foldl (put symCmp) M4 = U8 at hU8 MU8 lU8
  have hC19 := hC18.trans (hB19.mono hC18.size)
  have HX19 := Lib.hid (HX18.out.below hB19)
  have HY19 := Lib.hid (HY18.out.below hB19)
  have HZ19 := Lib.hid (HZ18.out.below hB19)
  have HU719 := Lib.hid (HU718.out.below hB19)
  have HM319 := Lib.hid (HM318.out.below hB19)
  have HM419 := Lib.hid (HM418.out.below hB19)
  have HM519 := Lib.hid (HM518.out.below hB19)
  clear HX18 HY18 HZ18 HU718 HM318 HM418 HM518 hB19 hC18
  have HU819 := Lib.hid hU8
  clear hU8
  go_wp2_with fail
  refine (S.same_T w19 m3 u8 M3 U8 HM319.out HU819.out (by omega) (by omega)).mono ?_
  rw [S.same_true HM319.out HU819.out (fun a => by rw [MM3.out, MU8.out, MU7.out, MM4.out, MM5.out]; exact and_or_left)]
  rintro e w20 ⟨rfl, hB20⟩
  have hC20 := hC19.trans (hB20.mono hC19.size)
  have HX20 := Lib.hid (HX19.out.below hB20)
  have HY20 := Lib.hid (HY19.out.below hB20)
  have HZ20 := Lib.hid (HZ19.out.below hB20)
  have HU720 := Lib.hid (HU719.out.below hB20)
  have HM320 := Lib.hid (HM319.out.below hB20)
  have HM420 := Lib.hid (HM419.out.below hB20)
  have HM520 := Lib.hid (HM519.out.below hB20)
  have HU820 := Lib.hid (HU819.out.below hB20)
  clear HX19 HY19 HZ19 HU719 HM319 HM419 HM519 HU819 hB20 hC19
  go_wp2_with fail
  clear HU720
  clear HM320
  clear HM420
  clear HM520
  clear HU820
  refine (S.meet_T w20 x y X Y HX20.out HY20.out (by omega) (by omega)).mono ?_
  rintro e w21 ⟨m6, rfl, -, hM6, hB21⟩
  obtain ⟨MM6, lM6⟩ : (Hid (∀ a, a ∈ X.filter (fun x => has symCmp Y x == true) ↔ a ∈ X ∧ a ∈ Y)) ∧ (X.filter (fun x => has symCmp Y x == true)).length ≤ 30 := ⟨Lib.hid (fun a => S.mem_meet), by have := List.length_filter_le (fun x => has symCmp Y x == true) X; omega⟩
  generalize X.filter (fun x => has symCmp Y x == true) = M6 at hM6 MM6 lM6
  have hC21 := hC20.trans (hB21.mono hC20.size)
  have HX21 := Lib.hid (HX20.out.below hB21)
  have HY21 := Lib.hid (HY20.out.below hB21)
  have HZ21 := Lib.hid (HZ20.out.below hB21)
  clear HX20 HY20 HZ20 hB21 hC20
  have HM621 := Lib.hid hM6
  clear hM6
  go_wp2_with fail
  refine (S.less_T w21 x y X Y HX21.out HY21.out (by omega) (by omega)).mono ?_
  rintro e w22 ⟨d1, rfl, -, hD1, hB22⟩
  obtain ⟨MD1, lD1⟩ : (Hid (∀ a, a ∈ X.filter (fun x => has symCmp Y x == false) ↔ a ∈ X ∧ ¬ a ∈ Y)) ∧ (X.filter (fun x => has symCmp Y x == false)).length ≤ 30 := ⟨Lib.hid (fun a => S.mem_less), by have := List.length_filter_le (fun x => has symCmp Y x == false) X; omega⟩
  generalize X.filter (fun x => has symCmp Y x == false) = D1 at hD1 MD1 lD1
  have hC22 := hC21.trans (hB22.mono hC21.size)
  have HX22 := Lib.hid (HX21.out.below hB22)
  have HY22 := Lib.hid (HY21.out.below hB22)
  have HZ22 := Lib.hid (HZ21.out.below hB22)
  have HM622 := Lib.hid (HM621.out.below hB22)
  clear HX21 HY21 HZ21 HM621 hB22 hC21
  have HD122 := Lib.hid hD1
  clear hD1
  go_wp2_with fail
  refine (S.union_T w22 m6 d1 M6 D1 HM622.out HD122.out (by omega) (by omega)).mono ?_
  rintro e w23 ⟨u9, rfl, -, hU9, hB23⟩
  obtain ⟨MU9, lU9⟩ : (Hid (∀ a, a ∈ D1.foldl (put symCmp) M6 ↔ a ∈ D1 ∨ a ∈ M6)) ∧ (D1.foldl (put symCmp) M6).length ≤ 60 := ⟨Lib.hid (fun a => S.mem_union), by have := S.putl_length D1 M6; omega⟩
  generalize D1.foldl (put symCmp) M6 = U9 at hU9 MU9 lU9
  have hC23 := hC22.trans (hB23.mono hC22.size)
  have HX23 := Lib.hid (HX22.out.below hB23)
  have HY23 := Lib.hid (HY22.out.below hB23)
  have HZ23 := Lib.hid (HZ22.out.below hB23)
  have HM623 := Lib.hid (HM622.out.below hB23)
  have HD123 := Lib.hid (HD122.out.below hB23)
  clear HX22 HY22 HZ22 HM622 HD122 hB23 hC22
  have HU923 := Lib.hid hU9
  clear hU9
  go_wp2_with fail
  refine (S.same_T w23 u9 x U9 X HU923.out HX23.out (by omega) (by omega)).mono ?_
  rw [S.same_true HU923.out HX23.out (fun a => by rw [MU9.out, MM6.out, MD1.out]; exact ⟨fun h => h.elim And.left And.left, fun h => (Classical.em (a ∈ Y)).elim (fun k => .inr ⟨h, k⟩) (fun k => .inl ⟨h, k⟩)⟩)]
  rintro e w24 ⟨rfl, hB24⟩
  have hC24 := hC23.trans (hB24.mono hC23.size)
  have HX24 := Lib.hid (HX23.out.below hB24)
  have HY24 := Lib.hid (HY23.out.below hB24)
  have HZ24 := Lib.hid (HZ23.out.below hB24)
  have HM624 := Lib.hid (HM623.out.below hB24)
  have HD124 := Lib.hid (HD123.out.below hB24)
  have HU924 := Lib.hid (HU923.out.below hB24)
  clear HX23 HY23 HZ23 HM623 HD123 HU923 hB24 hC23
  go_wp2_with fail
  clear HM624
  clear HD124
  clear HU924
  refine (S.less_T w24 x y X Y HX24.out HY24.out (by omega) (by omega)).mono ?_
  rintro e w25 ⟨d2, rfl, -, hD2, hB25⟩
  obtain ⟨MD2, lD2⟩ : (Hid (∀ a, a ∈ X.filter (fun x => has symCmp Y x == false) ↔ a ∈ X ∧ ¬ a ∈ Y)) ∧ (X.filter (fun x => has symCmp Y x == false)).length ≤ 30 := ⟨Lib.hid (fun a => S.mem_less), by have := List.length_filter_le (fun x => has symCmp Y x == false) X; omega⟩
  generalize X.filter (fun x => has symCmp Y x == false) = D2 at hD2 MD2 lD2
  have hC25 := hC24.trans (hB25.mono hC24.size)
  have HX25 := Lib.hid (HX24.out.below hB25)
  have HY25 := Lib.hid (HY24.out.below hB25)
  have HZ25 := Lib.hid (HZ24.out.below hB25)
  clear HX24 HY24 HZ24 hB25 hC24
  have HD225 := Lib.hid hD2
  clear hD2
  go_wp2_with fail
  refine (S.meet_T w25 d2 y D2 Y HD225.out HY25.out (by omega) (by omega)).mono ?_
  rintro e w26 ⟨m7, rfl, -, hM7, hB26⟩
  obtain ⟨MM7, lM7⟩ : (Hid (∀ a, a ∈ D2.filter (fun x => has symCmp Y x == true) ↔ a ∈ D2 ∧ a ∈ Y)) ∧ (D2.filter (fun x => has symCmp Y x == true)).length ≤ 30 := ⟨Lib.hid (fun a => S.mem_meet), by have := List.length_filter_le (fun x => has symCmp Y x == true) D2; omega⟩
  generalize D2.filter (fun x => has symCmp Y x == true) = M7 at hM7 MM7 lM7
  have hC26 := hC25.trans (hB26.mono hC25.size)
  have HX26 := Lib.hid (HX25.out.below hB26)
  have HY26 := Lib.hid (HY25.out.below hB26)
  have HZ26 := Lib.hid (HZ25.out.below hB26)
  have HD226 := Lib.hid (HD225.out.below hB26)
  clear HX25 HY25 HZ25 HD225 hB26 hC25
  have HM726 := Lib.hid hM7
  clear hM7
  go_wp2_with fail
  obtain rfl : M7 = [] := List.eq_nil_iff_forall_not_mem.2 fun a ha => by rw [MM7.out, MD2.out] at ha; exact ha.1.2 ha.2
  refine (S.len_T w26 m7 [] HM726.out).mono ?_
  rintro e wl ⟨rfl, rfl⟩
  go_wp2_with fail
  refine (wakes_T w26).mono ?_
  rintro e wk ⟨rfl, hBk⟩
  go_wp2_with fail
  go_ret
  exact ⟨rfl, hC26.trans (hBk.mono hC26.size)⟩

theorem laws_big1 (w : World) (v1 v2 v3 : Value) (xs ys zs : List SymV) (hv1 : S.SliceOf w v1 xs) (hv2 : S.SliceOf w v2 ys) (hv3 : S.SliceOf w v3 zs) (hx : 30 < xs.length) :
    Calls Try.prog 10 #[v1, v2, v3] w fun e w' => e = .returned (.bool true) ∧ Below w.heap.size w w' := by
  obtain ⟨a1, cap1, rfl, -⟩ := hv1
  obtain ⟨a2, cap2, rfl, -⟩ := hv2
  obtain ⟨a3, cap3, rfl, -⟩ := hv3
  skip
  go_enter Try.func10, Try.ntmps10
  go_wp2_with fail
  refine (wakes_T w).mono ?_
  rintro e w1 ⟨rfl, hb⟩
  go_wp2_with fail
  go_ret
  exact ⟨rfl, hb⟩

theorem laws_big2 (w : World) (v1 v2 v3 : Value) (xs ys zs : List SymV) (hv1 : S.SliceOf w v1 xs) (hv2 : S.SliceOf w v2 ys) (hv3 : S.SliceOf w v3 zs) (hx : xs.length ≤ 30 ∧ 30 < ys.length) :
    Calls Try.prog 10 #[v1, v2, v3] w fun e w' => e = .returned (.bool true) ∧ Below w.heap.size w w' := by
  obtain ⟨a1, cap1, rfl, -⟩ := hv1
  obtain ⟨a2, cap2, rfl, -⟩ := hv2
  obtain ⟨a3, cap3, rfl, -⟩ := hv3
  obtain ⟨h1, h2⟩ := hx
  go_enter Try.func10, Try.ntmps10
  go_wp2_with fail
  refine (wakes_T w).mono ?_
  rintro e w1 ⟨rfl, hb⟩
  go_wp2_with fail
  go_ret
  exact ⟨rfl, hb⟩

theorem laws_big3 (w : World) (v1 v2 v3 : Value) (xs ys zs : List SymV) (hv1 : S.SliceOf w v1 xs) (hv2 : S.SliceOf w v2 ys) (hv3 : S.SliceOf w v3 zs) (hx : xs.length ≤ 30 ∧ ys.length ≤ 30 ∧ 30 < zs.length) :
    Calls Try.prog 10 #[v1, v2, v3] w fun e w' => e = .returned (.bool true) ∧ Below w.heap.size w w' := by
  obtain ⟨a1, cap1, rfl, -⟩ := hv1
  obtain ⟨a2, cap2, rfl, -⟩ := hv2
  obtain ⟨a3, cap3, rfl, -⟩ := hv3
  obtain ⟨h1, h2, h3⟩ := hx
  go_enter Try.func10, Try.ntmps10
  go_wp2_with fail
  refine (wakes_T w).mono ?_
  rintro e w1 ⟨rfl, hb⟩
  go_wp2_with fail
  go_ret
  exact ⟨rfl, hb⟩

theorem laws_any (w : World) (v1 v2 v3 : Value) (xs ys zs : List SymV) (hv1 : S.SliceOf w v1 xs) (hv2 : S.SliceOf w v2 ys) (hv3 : S.SliceOf w v3 zs) :
    Calls Try.prog 10 #[v1, v2, v3] w fun e w' => e = .returned (.bool true) ∧ Below w.heap.size w w' := by
  by_cases h1 : xs.length ≤ 30
  · by_cases h2 : ys.length ≤ 30
    · by_cases h3 : zs.length ≤ 30
      · exact laws_walk w v1 v2 v3 xs ys zs hv1 hv2 hv3 h1 h2 h3
      · exact laws_big3 w v1 v2 v3 xs ys zs hv1 hv2 hv3 ⟨h1, h2, by omega⟩
    · exact laws_big2 w v1 v2 v3 xs ys zs hv1 hv2 hv3 ⟨h1, by omega⟩
  · exact laws_big1 w v1 v2 v3 xs ys zs hv1 hv2 hv3 (by omega)

end Go.Proofs.Ytgpmiachllpddaa
