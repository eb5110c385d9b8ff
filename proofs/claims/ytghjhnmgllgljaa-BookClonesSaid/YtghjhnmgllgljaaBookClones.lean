/- BookClones returns true, whatever it is given. Conditions: none but that the lists lie in memory. -/
import Derived.Test.YtghjhnmgllgljaaBookKit
namespace Go.Proofs.Ytghjhnmgllgljaa
open Go Go.RowKit

set_option pp.deepTerms true
set_option pp.maxSteps 1000000
set_option maxRecDepth 100000 in
set_option maxHeartbeats 4000000 in
theorem bclones_walk (w : World) (v u : Value) (xs ys : List SymV) (hv : S.SliceOf w v xs) (hu : S.SliceOf w u ys) (hx : xs.length ≤ 60) (hy : ys.length ≤ 60) :
    Calls Try.prog 7 #[v, u] w fun e w' => e = .returned (.bool true) ∧ Below w.heap.size w w' := by
  have hfi := S.filled_T w v xs hv hx
  obtain ⟨a, cap, rfl, -⟩ := hv
  obtain ⟨a2, cap2, rfl, hc2⟩ := hu
  have f1 : ((60 : Int) < (xs.length : Int)) = False := eq_false (by omega)
  have f2 : ((60 : Int) < (ys.length : Int)) = False := eq_false (by omega)
  go_enter Try.func7, Try.ntmps7
  go_wp2_with fail
  refine hfi.mono ?_
  rintro e w1 ⟨m, s, p, rfl, hm, hs, hmp, hsp, hM, hP, hB1⟩
  obtain ⟨hso, hll⟩ := S.fillE_ok xs
  generalize S.fillE xs = L at hM hP hso hll
  have HP := Lib.hid hP
  have Hso := Lib.hid hso
  clear hP hso hfi
  go_wp2_with fail
  refine (E.mapclone_T w1 m s L hM).mono ?_
  rintro e w2 ⟨c, d, rfl, hc1, hd1, hC, hB2⟩
  have HC := Lib.hid hC
  have hM2 := Lib.hid (hM.below hB2)
  have HP2 := Lib.hid (HP.out.below hB2)
  have hms : m < w1.heap.size ∧ s < w1.heap.size := ⟨lt_of_block hM.1, hM.2.lt⟩
  have hBw := hB1.trans (hB2.mono hB1.size)
  clear hC hM HP
  go_wp2_with fail
  go_loopg [8] (ys.length - 0) (fun k i wr => ∃ (j : Nat) (M : List EntV), i = .int .i64 j ∧ j ≤ ys.length ∧ M.length ≤ 60 + j ∧ Hid (k = ys.length - j) ∧ Hid (E.MapAt wr m s M) ∧ But s w2 wr)
  case atStart => exact ⟨0, L, rfl, by omega, by omega, Lib.hid rfl, hM2, But.refl _ _⟩
  case round =>
    obtain ⟨j, M, rfl, hj, hMl, Hk, HM, hb⟩ := hrel
    have hBr : Below w.heap.size w wr := But.below hBw hb hs hBw.size
    by_cases hlt : j < ys.length
    · rcases hc2 with rfl | ⟨b, off, rfl, hel⟩
      · simp at hlt
      · obtain ⟨y, hy'⟩ : ∃ y, ys[j]? = some y := ⟨ys[j], by simp [hlt]⟩
        have hbl := World.block_lt_of_cell? w _ (hel j y hy').1
        obtain ⟨y0, y1, y2⟩ := (hel.below hBr hbl) j y hy'
        have Hel := Lib.hid hel
        clear hel hy'
        go_wp2_with fail
        refine (E.mapput_T wr m s M ⟨y, 1000 + (j : Int)⟩ HM.out (by omega)).mono ?_
        rintro e w5 ⟨rfl, hS5, hb5⟩
        have hlen5 : (put entCmp (E.drop entCmp M ⟨y, 1000 + (j : Int)⟩) ⟨y, 1000 + (j : Int)⟩).length ≤ M.length + 1 := S.length_putE M ⟨y, 1000 + (j : Int)⟩
        generalize put entCmp (E.drop entCmp M ⟨y, 1000 + (j : Int)⟩) ⟨y, 1000 + (j : Int)⟩ = M5 at hS5 hlen5
        have HS5 := Lib.hid hS5
        have hB5 : Below w.heap.size w w5 := But.below hBr hb5 hs hBr.size
        clear hS5 y0 y1 y2
        go_wp2_with fail
        refine (within_any w5 _ _ (by omega) (by omega)).mono ?_
        rintro e w6 ⟨⟨k, rfl, hk⟩, rfl⟩
        have hkl : k < ys.length := by omega
        obtain ⟨z, hz⟩ : ∃ z, ys[k]? = some z := ⟨ys[k], by simp [hkl]⟩
        obtain ⟨z0, z1, z2⟩ := (Hel.out.below hB5 hbl) k z hz
        clear hz
        go_wp2_with fail
        refine (mapdrop_T w6 m s _ z HS5.out (by omega)).mono ?_
        rintro e w7 ⟨rfl, hS7, hb7⟩
        have hlen7 := E.length_drop entCmp M5 ⟨z, 0⟩
        have HS7 := Lib.hid hS7
        clear hS7
        go_wp2_with fail
        go_roundg (ys.length - (j + 1))
        case measure => rw [Hk.out]; omega
        case rel => exact ⟨j + 1, _, by go_num, by omega, by omega, Lib.hid rfl, HS7, hb.trans (hb5.trans hb7)⟩
    · obtain rfl : j = ys.length := by omega
      have HC8 := Lib.hid (MapAt.but HC.out hb hM2.out (by omega) (by omega))
      have HP8 := Lib.hid (HP2.out.but hb hsp)
      go_wp2_with fail
      refine (E.lawpairs_T wr c d L ⟨0, ⟨#[]⟩, 0⟩ 1000 HC8.out (by omega) (by omega) (by omega)).mono ?_
      rintro e w8 ⟨vk, vv, rfl, hrk, hrv, hB8⟩
      have hk8 := row_keys hrk
      have hv8 := row_vals hrv
      obtain ⟨qk, qv, K, -, -, hpl, hka, -, hva⟩ := HP8.out.below hB8
      obtain ⟨c0, c1, -, -⟩ := S.plain_cells hpl
      have hka8 := Lib.hid hka.slice
      have hva8 := Lib.hid (rw_ints hva)
      have Hk8 := Lib.hid hk8
      have Hv8 := Lib.hid hv8
      have Hpl := Lib.hid hpl
      clear hrk hrv hk8 hv8 hka hva hpl
      go_wp2_with fail
      refine (S.syms_T w8 vk qk (S.keysL L) (S.keysL L) Hk8.out hka8.out (by simp; omega) (by simp; omega)).mono ?_
      rintro e w9 ⟨⟨b, rfl, hbt⟩, hB9⟩
      obtain rfl : b = true := hbt.2 rfl
      have hpl9 : S.PlainAt w9 p qk qv := (hB9.block _ (lt_of_block Hpl.out)).trans Hpl.out
      obtain ⟨d0, d1, -, -⟩ := S.plain_cells hpl9
      clear hpl9 c0 c1 hbt
      go_wp2_with fail
      refine (ints2_T w9 vv qv (S.valsL L) (Hv8.out.below hB9) (hva8.out.below hB9) (by simp; omega)).mono ?_
      rintro e w10 ⟨rfl, hB10⟩
      go_wp2_with fail
      refine (wakes_T w10).mono ?_
      rintro e w11 ⟨rfl, hB11⟩
      go_wp2_with fail
      go_ret
      have t1 := hBr.trans (hB8.mono hBr.size)
      have t2 := t1.trans (hB9.mono t1.size)
      have t3 := t2.trans (hB10.mono t2.size)
      exact ⟨rfl, t3.trans (hB11.mono t3.size)⟩

theorem bclones_any (w : World) (v : Value) (xs : List SymV) (hv : S.SliceOf w v xs) (u : Value) (ys : List SymV) (hu : S.SliceOf w u ys) :
    Calls Try.prog 7 #[v, u] w fun e w' => e = .returned (.bool true) ∧ Below w.heap.size w w' := by
  by_cases h1 : xs.length ≤ 60
  · by_cases h2 : ys.length ≤ 60
    · exact bclones_walk w v u xs ys hv hu h1 h2
    · obtain ⟨a, cap, rfl, -⟩ := hv
      obtain ⟨a2, cap2, rfl, -⟩ := hu
      have f1 : ((60 : Int) < (xs.length : Int)) = False := eq_false (by omega)
      have f2 : ((60 : Int) < (ys.length : Int)) = True := eq_true (by omega)
      clear h1 h2
      go_enter Try.func7, Try.ntmps7
      go_wp2_with fail
      refine (wakes_T w).mono ?_
      rintro e w1 ⟨rfl, hb⟩
      go_wp2_with fail
      go_ret
      exact ⟨rfl, hb⟩
  · obtain ⟨a, cap, rfl, -⟩ := hv
    obtain ⟨a2, cap2, rfl, -⟩ := hu
    have f1 : ((60 : Int) < (xs.length : Int)) = True := eq_true (by omega)
    clear h1
    go_enter Try.func7, Try.ntmps7
    go_wp2_with fail
    refine (wakes_T w).mono ?_
    rintro e w1 ⟨rfl, hb⟩
    go_wp2_with fail
    go_ret
    exact ⟨rfl, hb⟩

end Go.Proofs.Ytghjhnmgllgljaa
