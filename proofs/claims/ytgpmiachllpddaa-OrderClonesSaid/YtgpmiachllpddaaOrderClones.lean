/- OrderClones returns true, whatever it is given. Conditions: none but that the lists lie in memory. -/
import Derived.Test.YtgpmiachllpddaaListLawS
import Derived.Test.YtgpmiachllpddaaRefAS
import Derived.Test.YtgpmiachllpddaaSameSS
import Derived.Test.YtgpmiachllpddaaDropSS
import Derived.Test.YtgpmiachllpddaaWithinK
import Derived.Test.YtgpmiachllpddaaWakes
import Derived.Deep.LoopGhost
namespace Go.Proofs.Ytgpmiachllpddaa
open Go Go.RowKit Go.Shelf

theorem all_has {L : List SymV} : (L.length == L.length && L.all (has symCmp L)) = true := by
  simp only [beq_self_eq_true, Bool.true_and, List.all_eq_true]
  exact fun x hx => (has_iff S.symCmp_exact).2 hx

set_option maxRecDepth 100000 in
set_option maxHeartbeats 4000000 in
theorem clones_walk (w : World) (v u : Value) (xs ys : List SymV) (hv : S.SliceOf w v xs) (hu : S.SliceOf w u ys) (hx : xs.length ≤ 60) (hy : ys.length ≤ 60) :
    Calls Try.prog 9 #[v, u] w fun e w' => e = .returned (.bool true) ∧ Below w.heap.size w w' := by
  have hnew := S.new_T w v xs hv (by omega)
  obtain ⟨a, cap, rfl, hc⟩ := hv
  obtain ⟨a2, cap2, rfl, hc2⟩ := hu
  go_enter Try.func9, Try.ntmps9
  go_wp2_with fail
  refine hnew.mono ?_
  have hlen0 := S.putl_length xs []
  have hmem0 : ∀ z ∈ xs.foldl (put symCmp) [], z ∈ xs := fun z hz => by simpa using (mem_puts S.symCmp_exact).1 hz
  have HMem := Lib.hid hmem0
  simp only [List.length_nil, Nat.zero_add] at hlen0
  clear hmem0
  generalize xs.foldl (put symCmp) [] = L at hlen0 HMem ⊢
  rintro e w1 ⟨s, rfl, hs, hS, hB1⟩
  have HS := Lib.hid hS
  clear hS hnew
  go_wp2_with fail
  refine (S.clone_T w1 s _ HS.out).mono ?_
  rintro e w2 ⟨rfl, hC, hB2⟩
  have HC := Lib.hid hC
  have HS2 := Lib.hid (HS.out.below hB2)
  clear hC
  go_wp2_with fail
  refine (S.same_T w2 s w1.heap.size L L HS2.out HC.out (by omega) (by omega)).mono ?_
  rw [all_has]
  rintro e w3 ⟨rfl, hB3⟩
  have HC3 := Lib.hid (HC.out.below hB3)
  have HS3 := Lib.hid (HS2.out.below hB3)
  go_wp2_with fail
  refine (S.lawlist_T w3 s L HS3.out (by omega)).mono ?_
  rintro e w4 ⟨v, rfl, ⟨a5, cap5, rfl, -⟩, hB4⟩
  have HC4 := Lib.hid (HC3.out.below hB4)
  have HS4 := Lib.hid (HS3.out.below hB4)
  have hsc : w1.heap.size ≠ s := by have := HS.out.lt; omega
  have hBw := (hB1.trans (hB2.mono hB1.size)).trans ((hB3.trans (hB4.mono hB3.size)).mono (Nat.le_trans hB1.size hB2.size))
  generalize hcc : w1.heap.size = c at HC4 hsc ⊢
  have hcw : w.heap.size ≤ c := by rw [← hcc]; exact hB1.size
  clear HC3 HS3 HC HS2
  go_wp2_with fail
  go_loopg [8] ys.length (fun k i wr => ∃ (j : Nat) (M : List SymV), i = .int .i64 j ∧ j ≤ ys.length ∧ M.length ≤ 60 + j ∧ Hid (k = ys.length - j) ∧ Hid (S.SetAt wr c M) ∧ But c w4 wr)
  case atStart => exact ⟨0, L, rfl, by omega, by omega, Lib.hid rfl, HC4, But.refl _ _⟩
  case round =>
    obtain ⟨j, M, rfl, hj, hM, Hk, HM, hb⟩ := hrel
    by_cases hlt : j < ys.length
    · rcases hc2 with rfl | ⟨b, off, rfl, hel⟩
      · simp at hlt
      · obtain ⟨y, hy'⟩ : ∃ y, ys[j]? = some y := ⟨ys[j], by simp [hlt]⟩
        have hbl := World.block_lt_of_cell? w _ (hel j y hy').1
        have hBr := S.below_but hBw hb hcw hBw.size
        have hyc := (hel.below hBr hbl) j y hy'
        have Hel := Lib.hid hel
        have Hy := Lib.hid hy'
        clear hel hy'
        go_wp2_with fail
        refine (S.put_T wr c M y HM.out (by omega)).mono ?_
        rintro e w5 ⟨rfl, hS5, hb5⟩
        have hlen5 := length_put symCmp M y
        have HS5 := Lib.hid hS5
        clear hS5
        go_wp2_with fail
        refine (within_T w5 _ _ (by omega) (by omega) (by omega) (by omega)).mono ?_
        rintro e w6 ⟨⟨k, rfl, hk⟩, rfl⟩
        have hkl : k < ys.length := by omega
        obtain ⟨z, hz⟩ : ∃ z, ys[k]? = some z := ⟨ys[k], by simp [hkl]⟩
        have hzc := (Hel.out.below (S.below_but hBr hb5 hcw hBr.size) hbl) k z hz
        clear hz
        go_wp2_with fail
        refine (S.drop_T w6 c _ z HS5.out (by omega)).mono ?_
        rintro e w7 ⟨rfl, hS7, hb7⟩
        have hlen7 := S.length_drop symCmp (put symCmp M y) z
        have HS7 := Lib.hid hS7
        clear hS7
        go_wp2_with fail
        go_roundg (ys.length - (j + 1))
        case measure => rw [Hk.out]; omega
        case rel => exact ⟨j + 1, _, by go_num, by omega, by omega, Lib.hid rfl, HS7, hb.trans (hb5.trans hb7)⟩
    · obtain rfl : j = ys.length := by omega
      have HS8 := Lib.hid (HS4.out.other HC4.out hb hsc)
      have hBr := S.below_but hBw hb hcw hBw.size
      go_wp2_with fail
      refine (S.lawlist_T wr c M HM.out (by omega)).mono ?_
      rintro e w5 ⟨vn, rfl, hN, hB5⟩
      have HN := Lib.hid (hN.mono (show s + 1 ≤ wr.heap.size from HS8.out.lt))
      have HC9 := Lib.hid (HM.out.below hB5)
      have HS9 := Lib.hid (HS8.out.below hB5)
      have hBx := hBr.trans (hB5.mono hBr.size)
      clear hN
      obtain ⟨an, capn, rfl, hn'⟩ : ∃ an capn, vn = .slice an M.length capn ∧ True := by
        obtain ⟨an, capn, e, -⟩ := HN.out
        exact ⟨an, capn, e, trivial⟩
      go_wp2_with fail
      go_loopg [10] xs.length (fun k i wr2 => ∃ (j : Nat) (L2 : List SymV), i = .int .i64 j ∧ j ≤ xs.length ∧ L2.length ≤ 60 ∧ Hid (k = xs.length - j ∧ ∀ z ∈ L2, z ∈ xs.drop j) ∧ Hid (S.SetAt wr2 s L2) ∧ But s w5 wr2)
      case atStart => exact ⟨0, L, rfl, by omega, by omega, Lib.hid ⟨rfl, by simpa using HMem.out⟩, HS9, But.refl _ _⟩
      case round =>
        obtain ⟨j, L2, rfl, hj, hL2, Hk2, HL2, hb2⟩ := hrel
        have hBy := S.below_but hBx hb2 hs hBx.size
        by_cases hlt : j < xs.length
        · rcases hc with rfl | ⟨b, off, rfl, hel⟩
          · simp at hlt
          · obtain ⟨x, hx'⟩ : ∃ x, xs[j]? = some x := ⟨xs[j], by simp [hlt]⟩
            have hbl := World.block_lt_of_cell? w _ (hel j x hx').1
            have hxc := (hel.below hBy hbl) j x hx'
            have Hx := Lib.hid hx'
            clear hel hx'
            go_wp2_with fail
            refine (S.drop_T wr s L2 x HL2.out (by omega)).mono ?_
            rintro e w7 ⟨rfl, hS7, hb7⟩
            have hlen7 := S.length_drop symCmp L2 x
            have HS7 := Lib.hid hS7
            clear hS7
            go_wp2_with fail
            go_roundg (xs.length - (j + 1))
            case measure => rw [Hk2.out.1]; omega
            case rel =>
              refine ⟨j + 1, _, by go_num, by omega, by omega, Lib.hid ⟨rfl, fun z hz => ?_⟩, HS7, hb2.trans hb7⟩
              obtain ⟨-, -, -, -, -, hso⟩ := HL2.out
              obtain ⟨h1, h2⟩ := (S.mem_drop symCmp_lin S.symCmp_exact hso).1 hz
              have h3 := Hk2.out.2 z h1
              obtain ⟨hj', hg⟩ := List.getElem?_eq_some_iff.1 Hx.out
              rw [List.drop_eq_getElem_cons hj', hg] at h3
              exact (List.mem_cons.1 h3).resolve_left h2
        · obtain rfl : j = xs.length := by omega
          obtain rfl : L2 = [] := List.eq_nil_iff_forall_not_mem.2 fun z hz => by simpa using Hk2.out.2 z hz
          have HC10 := Lib.hid (HC9.out.other HS9.out hb2 (Ne.symm hsc))
          have HN2 := Lib.hid (HN.out.but hb2 (Nat.lt_succ_self s))
          go_wp2_with fail
          refine (S.len_T wr s [] HL2.out).mono ?_
          rintro e w8 ⟨rfl, rfl⟩
          go_wp2_with fail
          refine (S.lawlist_T wr c M HC10.out (by omega)).mono ?_
          rintro e w9 ⟨vm, rfl, hN3, hB9⟩
          have hsy := S.syms_T w9 vm _ M M hN3.slice (HN2.out.below hB9).slice (by omega) (by omega)
          clear hN3
          go_wp2_with fail
          refine hsy.mono ?_
          rintro e w10 ⟨⟨q, rfl, hq⟩, hB10⟩
          obtain rfl : q = true := by simpa using hq
          clear hq hsy
          go_wp2_with fail
          refine (wakes_T w10).mono ?_
          rintro e w11 ⟨rfl, hB11⟩
          go_wp2_with fail
          go_ret
          have hBz := hBy.trans ((hB9.trans ((hB10.trans (hB11.mono hB10.size)).mono hB9.size)).mono hBy.size)
          exact ⟨rfl, hBz⟩

theorem clones_big1 (w : World) (v u : Value) (xs ys : List SymV) (hv : S.SliceOf w v xs) (hu : S.SliceOf w u ys) (hx : 60 < xs.length) :
    Calls Try.prog 9 #[v, u] w fun e w' => e = .returned (.bool true) ∧ Below w.heap.size w w' := by
  obtain ⟨a, cap, rfl, hc⟩ := hv
  obtain ⟨a2, cap2, rfl, hc2⟩ := hu
  go_enter Try.func9, Try.ntmps9
  go_wp2_with fail
  refine (wakes_T w).mono ?_
  rintro e w1 ⟨rfl, hb⟩
  go_wp2_with fail
  go_ret
  exact ⟨rfl, hb⟩

theorem clones_big2 (w : World) (v u : Value) (xs ys : List SymV) (hv : S.SliceOf w v xs) (hu : S.SliceOf w u ys) (hx : xs.length ≤ 60) (hy : 60 < ys.length) :
    Calls Try.prog 9 #[v, u] w fun e w' => e = .returned (.bool true) ∧ Below w.heap.size w w' := by
  obtain ⟨a, cap, rfl, hc⟩ := hv
  obtain ⟨a2, cap2, rfl, hc2⟩ := hu
  go_enter Try.func9, Try.ntmps9
  go_wp2_with fail
  refine (wakes_T w).mono ?_
  rintro e w1 ⟨rfl, hb⟩
  go_wp2_with fail
  go_ret
  exact ⟨rfl, hb⟩

theorem clones_any (w : World) (v u : Value) (xs ys : List SymV) (hv : S.SliceOf w v xs) (hu : S.SliceOf w u ys) :
    Calls Try.prog 9 #[v, u] w fun e w' => e = .returned (.bool true) ∧ Below w.heap.size w w' := by
  by_cases h : xs.length ≤ 60
  · by_cases h' : ys.length ≤ 60
    · exact clones_walk w v u xs ys hv hu h h'
    · exact clones_big2 w v u xs ys hv hu h (by omega)
  · exact clones_big1 w v u xs ys hv hu (by omega)

end Go.Proofs.Ytgpmiachllpddaa
