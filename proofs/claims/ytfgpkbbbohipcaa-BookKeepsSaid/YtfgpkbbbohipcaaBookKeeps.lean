/- BookKeeps returns true, whatever it is given. Conditions: none but that the list lies in memory. -/
import Derived.Test.YtfgpkbbbohipcaaMg24
import Derived.Test.YtfgpkbbbohipcaaMg28
import Derived.Test.YtfgpkbbbohipcaaWakesB
namespace Go.Proofs.Ytfgpkbbbohipcaa
open Go Go.RowKit Go.Shelf Go.Lib

attribute [local go_sem] Oper.semAt_some

theorem zero_newE (w : World) : w.alloc (.cells #[.int .i64 0, .string ⟨#[]⟩, .int .i64 0, .int .i64 0, .string ⟨#[]⟩, .int .i64 0, .int .i64 0, .string ⟨#[]⟩, .int .i64 0, .bool false, .bool false, .int .i64 0] 67) = w.alloc (.cells #[.int .i64 0, .string ⟨#[]⟩, .int .i64 0, .int .i64 0, .string ⟨#[]⟩, .int .i64 0, .int .i64 0, .string ⟨#[]⟩, .int .i64 0, .bool false, .bool false, .int .i64 0] 67) := rfl

abbrev zeroE : List Value := [.int .i64 0, .string ⟨#[]⟩, .int .i64 0, .int .i64 0, .string ⟨#[]⟩, .int .i64 0, .int .i64 0, .string ⟨#[]⟩, .int .i64 0, .bool false, .bool false, .int .i64 0]

theorem slice_take {w : World} {b off j cap : Nat} {xs : List ElmV} (h : O.Elems w b off xs) (hj : j ≤ xs.length) : O.SliceOf w (.slice (some ⟨b, off, none⟩) j cap) (xs.take j) :=
  ⟨_, cap, by rw [List.length_take, Nat.min_eq_left hj], .inr ⟨b, off, rfl, O.Elems.take h j⟩⟩

set_option pp.deepTerms true
set_option pp.maxSteps 1000000
set_option maxRecDepth 100000 in
set_option maxHeartbeats 3200000 in
theorem keeps_walk (w : World) (v : Value) (xs : List ElmV) (hv : O.SliceOf w v xs) (hf : ∀ a n c, v = .slice a n c → n ≤ c) (hx : xs.length ≤ 60) :
    Calls Try.prog 6 #[v] w fun e w' => e = .returned (.bool true) ∧ Below w.heap.size w w' := by
  have hw1 : ∀ W, Below w.heap.size w W → O.SliceOf W v xs := fun W h => hv.below h
  obtain ⟨a, cap, rfl, hc⟩ := hv
  have hcap := hf _ _ _ rfl
  clear hf
  have f1 : ((60 : Int) < (xs.length : Int)) = False := eq_false (by omega)
  go_enter Try.func6, Try.ntmps6
  go_wp2_with fail
  refine (M.mapnew_T w).mono ?_
  rintro e w1 ⟨m, s, rfl, hm, hs, hM, hB1⟩
  have HW := Lib.hid hw1
  clear hw1
  go_wp2_with fail
  go_loopg [4] xs.length (fun k i wr => ∃ j : Nat, i = .int .i64 j ∧ j ≤ xs.length ∧ Hid (k = xs.length - j) ∧ Hid (M.MapAt wr m s (M.fillM (xs.take j))) ∧ Below w.heap.size w wr)
  case atStart => exact ⟨0, rfl, by omega, Lib.hid rfl, Lib.hid (by simpa [M.fillM] using hM), hB1⟩
  case round =>
    obtain ⟨j, rfl, hj, Hk, HM, hB⟩ := hrel
    by_cases hlt : j < xs.length
    · obtain ⟨b, off, rfl, hel⟩ : ∃ b off, a = some ⟨b, off, none⟩ ∧ O.Elems w b off xs := by
        rcases hc with rfl | ⟨b, off, rfl, hel⟩
        · simp at hlt
        · exact ⟨b, off, rfl, hel⟩
      obtain ⟨y, hy⟩ : ∃ y, xs[j]? = some y := ⟨xs[j], by simp [hlt]⟩
      have hjc : j ≤ cap := by omega
      have hbl := World.block_lt_of_cell? w _ (hel j y hy).1
      have hKall : ∀ W, Below w.heap.size w W → (W.cell? ⟨b, off + j * 12, none⟩ = some (.int .i64 y.id.k) ∧ W.cell? ⟨b, off + j * 12 + 1, none⟩ = some (.string y.id.t) ∧ W.cell? ⟨b, off + j * 12 + 2, none⟩ = some (.int .i64 y.id.n) ∧ W.cell? ⟨b, off + j * 12 + 3, none⟩ = some (.int .i64 y.attr.k) ∧ W.cell? ⟨b, off + j * 12 + 4, none⟩ = some (.string y.attr.t) ∧ W.cell? ⟨b, off + j * 12 + 5, none⟩ = some (.int .i64 y.attr.n) ∧ W.cell? ⟨b, off + j * 12 + 6, none⟩ = some (.int .i64 y.val.k) ∧ W.cell? ⟨b, off + j * 12 + 7, none⟩ = some (.string y.val.t) ∧ W.cell? ⟨b, off + j * 12 + 8, none⟩ = some (.int .i64 y.val.n) ∧ W.cell? ⟨b, off + j * 12 + 9, none⟩ = some (.bool y.acc) ∧ W.cell? ⟨b, off + j * 12 + 10, none⟩ = some (.bool y.goal) ∧ W.cell? ⟨b, off + j * 12 + 11, none⟩ = some (.int .i64 y.tag)) := fun W h => O.memo_at hel hy h
      have hyc := hKall wr hB
      have hfi := O.findE_T wr.drew (.slice (some ⟨b, off, none⟩) j cap) (xs.take j) y (slice_take (hel.below hB.drew hbl) (by omega)) (by simp; omega)
      have hBz : Below w.heap.size w (wr.alloc (.cells #[.int .i64 0, .string ⟨#[]⟩, .int .i64 0, .int .i64 0, .string ⟨#[]⟩, .int .i64 0, .int .i64 0, .string ⟨#[]⟩, .int .i64 0, .bool false, .bool false, .int .i64 0] 67)).drew := (hB.alloc hB.size _).drew
      have hbz : (wr.alloc (.cells #[.int .i64 0, .string ⟨#[]⟩, .int .i64 0, .int .i64 0, .string ⟨#[]⟩, .int .i64 0, .int .i64 0, .string ⟨#[]⟩, .int .i64 0, .bool false, .bool false, .int .i64 0] 67)).drew.heap[wr.heap.size]? = some (.cells #[.int .i64 0, .string ⟨#[]⟩, .int .i64 0, .int .i64 0, .string ⟨#[]⟩, .int .i64 0, .int .i64 0, .string ⟨#[]⟩, .int .i64 0, .bool false, .bool false, .int .i64 0] 67 (0, 0)) := heap_alloc_new wr _
      have hfi2 := O.findE_T _ (.slice (some ⟨b, off, none⟩) j cap) (xs.take j) y (slice_take (hel.below hBz hbl) (by omega)) (by simp; omega)
      have Hbz := Lib.hid hbz
      have Hy := Lib.hid hy
      have hes : M.fillM (xs.take (j + 1)) = M.upd (M.fillM (xs.take j)) ⟨y, (j : Int)⟩ := by
        have e : xs.take (j + 1) = xs.take j ++ [y] := by rw [List.take_add_one, hy]; rfl
        rw [e, M.fillM_snoc]
        congr 3
        rw [List.length_take]; omega
      have Hes := Lib.hid hes
      clear hes
      have HK := Lib.hid hKall
      have hwrs := hB.size
      clear hy hel hbz hKall
      go_wp2_with fail
      go_region_held3 (fun W => (W.cell? ⟨b, off + j * 12, none⟩ = some (.int .i64 y.id.k) ∧ W.cell? ⟨b, off + j * 12 + 1, none⟩ = some (.string y.id.t) ∧ W.cell? ⟨b, off + j * 12 + 2, none⟩ = some (.int .i64 y.id.n) ∧ W.cell? ⟨b, off + j * 12 + 3, none⟩ = some (.int .i64 y.attr.k) ∧ W.cell? ⟨b, off + j * 12 + 4, none⟩ = some (.string y.attr.t) ∧ W.cell? ⟨b, off + j * 12 + 5, none⟩ = some (.int .i64 y.attr.n) ∧ W.cell? ⟨b, off + j * 12 + 6, none⟩ = some (.int .i64 y.val.k) ∧ W.cell? ⟨b, off + j * 12 + 7, none⟩ = some (.string y.val.t) ∧ W.cell? ⟨b, off + j * 12 + 8, none⟩ = some (.int .i64 y.val.n) ∧ W.cell? ⟨b, off + j * 12 + 9, none⟩ = some (.bool y.acc) ∧ W.cell? ⟨b, off + j * 12 + 10, none⟩ = some (.bool y.goal) ∧ W.cell? ⟨b, off + j * 12 + 11, none⟩ = some (.int .i64 y.tag)))
        (first | go_keep | assumption)
        (first
          | ((with_reducible refine hfi.mono ?_); rintro e w2 ⟨⟨z, bz, rfl, hfz⟩, hB2⟩; have hC1 : Below w.heap.size w w2 := hB.drew.trans (hB2.mono hB.drew.size); have hh := HK.out w2 hC1; have Hfz := Lib.hid hfz; clear hfz; have n1 : ¬ w2.heap.size = b := (by have := hC1.size; omega))
          | ((with_reducible refine hfi2.mono ?_); rintro e w2 ⟨⟨z, bz, rfl, hfz⟩, hB2⟩; have hC1 : Below w.heap.size w w2 := hBz.trans (hB2.mono hBz.size); have hh := HK.out w2 hC1; have Hfz := Lib.hid hfz; clear hfz; have n1 : ¬ wr.heap.size = b := (by omega); have y4 := O.zero_cells ((hB2.block _ (lt_of_block Hbz.out)).trans Hbz.out))
          | (fail "no arm"))
      · have hb9 : Below wr.heap.size wr (w2.alloc (.cells #[.int .i64 z.id.k, .string z.id.t, .int .i64 z.id.n, .int .i64 z.attr.k, .string z.attr.t, .int .i64 z.attr.n, .int .i64 z.val.k, .string z.val.t, .int .i64 z.val.n, .bool z.acc, .bool z.goal, .int .i64 z.tag] 67)) := ((Below.refl _ wr).drew.trans (hB2)).alloc hB2.size _
        generalize (w2.alloc (.cells #[.int .i64 z.id.k, .string z.id.t, .int .i64 z.id.n, .int .i64 z.attr.k, .string z.attr.t, .int .i64 z.attr.n, .int .i64 z.val.k, .string z.val.t, .int .i64 z.val.n, .bool z.acc, .bool z.goal, .int .i64 z.tag] 67)) = W9 at hb9 ⊢
        have hC9 := hB.trans (hb9.mono hB.size)
        have hM9 := HM.out.below hb9
        have hyc9 := HK.out W9 hC9
        have hput := M.mapput_T W9 m s _ ⟨y, (j : Int)⟩ hM9 (by have := M.fill_le xs j; omega)
        rw [M.has_fill] at hput
        dsimp only at hput
        clear hyc hh
        rcases Hfz.out with ⟨rfl, hfz⟩ | ⟨rfl, hfz, rfl⟩
        all_goals
          rw [hfz] at hput
          simp only [Option.isSome_some, Option.isSome_none, Bool.not_true, Bool.not_false] at hput
          go_wp2_with fail
          refine hput.mono ?_
          rintro e w3 ⟨rfl, hM3, hb3⟩
          have hC3 := But.below hC9 hb3 hs hC9.size
          go_wp2_with fail
          go_roundg (xs.length - (j + 1))
          case measure => rw [Hk.out]; omega
          case rel => exact ⟨j + 1, by go_num, by omega, Lib.hid rfl, Lib.hid (by rw [Hes.out]; exact hM3), hC3⟩
      · have hb9 : Below wr.heap.size wr ((((((((((((w2.setCell ⟨wr.heap.size, 0, none⟩ (.int .i64 z.id.k)).setCell ⟨wr.heap.size, 1, none⟩ (.string z.id.t)).setCell ⟨wr.heap.size, 2, none⟩ (.int .i64 z.id.n)).setCell ⟨wr.heap.size, 3, none⟩ (.int .i64 z.attr.k)).setCell ⟨wr.heap.size, 4, none⟩ (.string z.attr.t)).setCell ⟨wr.heap.size, 5, none⟩ (.int .i64 z.attr.n)).setCell ⟨wr.heap.size, 6, none⟩ (.int .i64 z.val.k)).setCell ⟨wr.heap.size, 7, none⟩ (.string z.val.t)).setCell ⟨wr.heap.size, 8, none⟩ (.int .i64 z.val.n)).setCell ⟨wr.heap.size, 9, none⟩ (.bool z.acc)).setCell ⟨wr.heap.size, 10, none⟩ (.bool z.goal)).setCell ⟨wr.heap.size, 11, none⟩ (.int .i64 z.tag)) := O.below_but ((((Below.refl _ wr).alloc (Nat.le_refl _) _).drew).trans (hB2.mono (by simp))) (O.but_sto w2 wr.heap.size z) (Nat.le_refl _) (Nat.le_trans (by simp) hB2.size)
        generalize ((((((((((((w2.setCell ⟨wr.heap.size, 0, none⟩ (.int .i64 z.id.k)).setCell ⟨wr.heap.size, 1, none⟩ (.string z.id.t)).setCell ⟨wr.heap.size, 2, none⟩ (.int .i64 z.id.n)).setCell ⟨wr.heap.size, 3, none⟩ (.int .i64 z.attr.k)).setCell ⟨wr.heap.size, 4, none⟩ (.string z.attr.t)).setCell ⟨wr.heap.size, 5, none⟩ (.int .i64 z.attr.n)).setCell ⟨wr.heap.size, 6, none⟩ (.int .i64 z.val.k)).setCell ⟨wr.heap.size, 7, none⟩ (.string z.val.t)).setCell ⟨wr.heap.size, 8, none⟩ (.int .i64 z.val.n)).setCell ⟨wr.heap.size, 9, none⟩ (.bool z.acc)).setCell ⟨wr.heap.size, 10, none⟩ (.bool z.goal)).setCell ⟨wr.heap.size, 11, none⟩ (.int .i64 z.tag)) = W9 at hb9 ⊢
        have hC9 := hB.trans (hb9.mono hB.size)
        have hM9 := HM.out.below hb9
        have hyc9 := HK.out W9 hC9
        have hput := M.mapput_T W9 m s _ ⟨y, (j : Int)⟩ hM9 (by have := M.fill_le xs j; omega)
        rw [M.has_fill] at hput
        dsimp only at hput
        clear hyc hh
        rcases Hfz.out with ⟨rfl, hfz⟩ | ⟨rfl, hfz, rfl⟩
        all_goals
          rw [hfz] at hput
          simp only [Option.isSome_some, Option.isSome_none, Bool.not_true, Bool.not_false] at hput
          go_wp2_with fail
          refine hput.mono ?_
          rintro e w3 ⟨rfl, hM3, hb3⟩
          have hC3 := But.below hC9 hb3 hs hC9.size
          go_wp2_with fail
          go_roundg (xs.length - (j + 1))
          case measure => rw [Hk.out]; omega
          case rel => exact ⟨j + 1, by go_num, by omega, Lib.hid rfl, Lib.hid (by rw [Hes.out]; exact hM3), hC3⟩
    · obtain rfl : j = xs.length := by omega
      rw [List.take_length] at HM
      have hso := O.sortE_T wr _ xs (HW.out wr hB) (by omega)
      go_wp2_with fail
      refine hso.mono ?_
      rintro e w2 ⟨v2, rfl, ⟨⟨a2, cap2, rfl, hc2⟩, -, -⟩, hB2⟩
      have hC2 := hB.trans (hB2.mono hB.size)
      have hM2 := HM.out.below hB2
      have hS2 : O.SliceOf w2 (.slice a2 (O.srt xs).length cap2) (O.srt xs) := ⟨a2, cap2, rfl, hc2⟩
      have hsl := O.srt_length xs
      go_wp2_with fail
      refine (M.keys_T w2 m).mono ?_
      rintro e w3 ⟨rfl, hw3⟩
      have hB3 : Below w2.heap.size w2 w3 := by rw [hw3]; exact (Below.refl _ w2).alloc (Nat.le_refl _) _
      have hbx : w3.heap[w2.heap.size]? = some (.cells #[.pointer (some ⟨m, 0, none⟩)] 64 (0, 0)) := by rw [hw3]; exact heap_alloc_new w2 _
      clear hw3
      have hM3 := hM2.below hB3
      have hC3 := hC2.trans (hB3.mono hC2.size)
      have hfl := M.fill_le xs xs.length
      rw [List.take_length] at hfl
      have hlist := O.list2_T _ #[.pointer (some ⟨w2.heap.size, 0, none⟩)] _ w3 (enters_of Try.func62 (by kernel_rfl) rfl) (M.keys_stops 2 w2.heap.size m s (M.fillM xs) w3 hbx hM3 (by omega)) (by rw [List.length_map]; omega)
      go_wp2_with fail
      refine hlist.mono ?_
      rintro e w4 ⟨v4, rfl, hmade, hB4⟩
      have hC4 := hC3.trans (hB4.mono hC3.size)
      have hM4 := hM3.below hB4
      have hkeq : (M.fillM xs).map EntM.key = O.srt xs := by have := (M.fill_ok xs xs.length).2.1; rwa [List.take_length] at this
      rw [hkeq] at hmade
      have hS4 := (O.Made.ge hmade).slice
      obtain ⟨a4, cap4, rfl, hc4⟩ := hS4
      have hS24 : O.SliceOf w4 (.slice a2 (O.srt xs).length cap2) (O.srt xs) := (hS2.below hB3).below hB4
      have helm := O.elems_T w4 _ _ (O.srt xs) (O.srt xs) ⟨a4, cap4, rfl, hc4⟩ hS24 (by omega) (by omega)
      clear hc2 hc4 hS2 hS24 hmade
      go_wp2_with fail
      refine helm.mono ?_
      rintro e w5 ⟨⟨bb, rfl, hbb⟩, hB5⟩
      obtain rfl : bb = true := by simpa using hbb
      have hC5 := hC4.trans (hB5.mono hC4.size)
      have hM5 := hM4.below hB5
      have HM5 := Lib.hid hM5
      clear hM5 hM4 hM3 hM2 hbb helm hlist hso
      go_wp2_with fail
      go_loopg [8] xs.length (fun k i wq => ∃ q : Nat, i = .int .i64 q ∧ q ≤ xs.length ∧ Hid (k = xs.length - q) ∧ Below w5.heap.size w5 wq)
      case atStart => exact ⟨0, rfl, by omega, Lib.hid rfl, Below.refl _ _⟩
      case round =>
        obtain ⟨q, rfl, hq, Hq, hBq⟩ := hrel
        rename World => wq
        have hCq := hC5.trans (hBq.mono hC5.size)
        by_cases hlq : q < xs.length
        · obtain ⟨b, off, rfl, hel⟩ : ∃ b off, a = some ⟨b, off, none⟩ ∧ O.Elems w b off xs := by
            rcases hc with rfl | ⟨b, off, rfl, hel⟩
            · simp at hlq
            · exact ⟨b, off, rfl, hel⟩
          obtain ⟨y, hy⟩ : ∃ y, xs[q]? = some y := ⟨xs[q], by simp [hlq]⟩
          have Hel := Lib.hid hel
          have Hy := Lib.hid hy
          clear hel hy
          go_wp2_with fail
          go_loopg [9, 10] (xs.length - q) (fun k lv kv wk => ∃ (p r : Nat), lv = .int .i64 p ∧ kv = .int .i64 r ∧ r ≤ xs.length ∧ q ≤ r ∧ Hid (k = xs.length - r ∧ ((r = q ∧ p = q) ∨ (q < r ∧ p = M.lst (xs.take r) y))) ∧ Below wq.heap.size wq wk)
          case atStart => exact ⟨q, q, rfl, rfl, by omega, by omega, Lib.hid ⟨rfl, .inl ⟨rfl, rfl⟩⟩, Below.refl _ _⟩
          case round =>
            obtain ⟨p, r, rfl, rfl, hr, hqr, Hr, hBk⟩ := hrel
            rename World => wk
            have hCk := hCq.trans (hBk.mono hCq.size)
            by_cases hlr : r < xs.length
            · obtain ⟨z, hz⟩ : ∃ z, xs[r]? = some z := ⟨xs[r], by simp [hlr]⟩
              have hKr : ∀ W, Below w.heap.size w W → (W.cell? ⟨b, off + r * 12, none⟩ = some (.int .i64 z.id.k) ∧ W.cell? ⟨b, off + r * 12 + 1, none⟩ = some (.string z.id.t) ∧ W.cell? ⟨b, off + r * 12 + 2, none⟩ = some (.int .i64 z.id.n) ∧ W.cell? ⟨b, off + r * 12 + 3, none⟩ = some (.int .i64 z.attr.k) ∧ W.cell? ⟨b, off + r * 12 + 4, none⟩ = some (.string z.attr.t) ∧ W.cell? ⟨b, off + r * 12 + 5, none⟩ = some (.int .i64 z.attr.n) ∧ W.cell? ⟨b, off + r * 12 + 6, none⟩ = some (.int .i64 z.val.k) ∧ W.cell? ⟨b, off + r * 12 + 7, none⟩ = some (.string z.val.t) ∧ W.cell? ⟨b, off + r * 12 + 8, none⟩ = some (.int .i64 z.val.n) ∧ W.cell? ⟨b, off + r * 12 + 9, none⟩ = some (.bool z.acc) ∧ W.cell? ⟨b, off + r * 12 + 10, none⟩ = some (.bool z.goal) ∧ W.cell? ⟨b, off + r * 12 + 11, none⟩ = some (.int .i64 z.tag)) ∧ (W.cell? ⟨b, off + q * 12, none⟩ = some (.int .i64 y.id.k) ∧ W.cell? ⟨b, off + q * 12 + 1, none⟩ = some (.string y.id.t) ∧ W.cell? ⟨b, off + q * 12 + 2, none⟩ = some (.int .i64 y.id.n) ∧ W.cell? ⟨b, off + q * 12 + 3, none⟩ = some (.int .i64 y.attr.k) ∧ W.cell? ⟨b, off + q * 12 + 4, none⟩ = some (.string y.attr.t) ∧ W.cell? ⟨b, off + q * 12 + 5, none⟩ = some (.int .i64 y.attr.n) ∧ W.cell? ⟨b, off + q * 12 + 6, none⟩ = some (.int .i64 y.val.k) ∧ W.cell? ⟨b, off + q * 12 + 7, none⟩ = some (.string y.val.t) ∧ W.cell? ⟨b, off + q * 12 + 8, none⟩ = some (.int .i64 y.val.n) ∧ W.cell? ⟨b, off + q * 12 + 9, none⟩ = some (.bool y.acc) ∧ W.cell? ⟨b, off + q * 12 + 10, none⟩ = some (.bool y.goal) ∧ W.cell? ⟨b, off + q * 12 + 11, none⟩ = some (.int .i64 y.tag)) := fun W h => ⟨O.memo_at Hel.out hz h, O.memo_at Hel.out Hy.out h⟩
              have HKr := Lib.hid hKr
              obtain ⟨hzc, hyc⟩ := hKr wk hCk
              have hon := O.one_T wk.drew z y
              have hBd := Lib.hid (show Below w.heap.size w wk.drew from hCk.drew)
              have hBd2 := Lib.hid (show Below wq.heap.size wq wk.drew from hBk.drew)
              have hls : M.lst (xs.take (r + 1)) y = if elmCmp z y == 0 then r else M.lst (xs.take r) y := by
                have e : xs.take (r + 1) = xs.take r ++ [z] := by rw [List.take_add_one, hz]; rfl
                rw [e, M.lst_snoc, List.length_take, Nat.min_eq_left (by omega)]
              have hfirst : r = q → (elmCmp z y == 0) = true := fun e => by
                subst e
                have := Hy.out
                rw [hz] at this; cases this
                simp [elmCmp_lin.refl]
              have Hls := Lib.hid hls
              have Hfi := Lib.hid hfirst
              clear hz hKr hls hfirst
              go_wp2_with fail
              go_region_held3 (fun W => (W.cell? ⟨b, off + r * 12, none⟩ = some (.int .i64 z.id.k) ∧ W.cell? ⟨b, off + r * 12 + 1, none⟩ = some (.string z.id.t) ∧ W.cell? ⟨b, off + r * 12 + 2, none⟩ = some (.int .i64 z.id.n) ∧ W.cell? ⟨b, off + r * 12 + 3, none⟩ = some (.int .i64 z.attr.k) ∧ W.cell? ⟨b, off + r * 12 + 4, none⟩ = some (.string z.attr.t) ∧ W.cell? ⟨b, off + r * 12 + 5, none⟩ = some (.int .i64 z.attr.n) ∧ W.cell? ⟨b, off + r * 12 + 6, none⟩ = some (.int .i64 z.val.k) ∧ W.cell? ⟨b, off + r * 12 + 7, none⟩ = some (.string z.val.t) ∧ W.cell? ⟨b, off + r * 12 + 8, none⟩ = some (.int .i64 z.val.n) ∧ W.cell? ⟨b, off + r * 12 + 9, none⟩ = some (.bool z.acc) ∧ W.cell? ⟨b, off + r * 12 + 10, none⟩ = some (.bool z.goal) ∧ W.cell? ⟨b, off + r * 12 + 11, none⟩ = some (.int .i64 z.tag)) ∧ (W.cell? ⟨b, off + q * 12, none⟩ = some (.int .i64 y.id.k) ∧ W.cell? ⟨b, off + q * 12 + 1, none⟩ = some (.string y.id.t) ∧ W.cell? ⟨b, off + q * 12 + 2, none⟩ = some (.int .i64 y.id.n) ∧ W.cell? ⟨b, off + q * 12 + 3, none⟩ = some (.int .i64 y.attr.k) ∧ W.cell? ⟨b, off + q * 12 + 4, none⟩ = some (.string y.attr.t) ∧ W.cell? ⟨b, off + q * 12 + 5, none⟩ = some (.int .i64 y.attr.n) ∧ W.cell? ⟨b, off + q * 12 + 6, none⟩ = some (.int .i64 y.val.k) ∧ W.cell? ⟨b, off + q * 12 + 7, none⟩ = some (.string y.val.t) ∧ W.cell? ⟨b, off + q * 12 + 8, none⟩ = some (.int .i64 y.val.n) ∧ W.cell? ⟨b, off + q * 12 + 9, none⟩ = some (.bool y.acc) ∧ W.cell? ⟨b, off + q * 12 + 10, none⟩ = some (.bool y.goal) ∧ W.cell? ⟨b, off + q * 12 + 11, none⟩ = some (.int .i64 y.tag)))
                (first | go_keep | assumption)
                (first
                  | ((with_reducible refine hon.mono ?_); rintro e w6 ⟨rfl, hB6⟩; have hC6 := hBd.out.trans (hB6.mono hBd.out.size); have hK6 := hBd2.out.trans (hB6.mono hBd2.out.size); have hh := HKr.out w6 hC6)
                  | (fail "no arm"))
              cases hzz : (elmCmp z y == 0)
              · have Hzz := Lib.hid hzz
                go_wp2_with fail
                go_roundg (xs.length - (r + 1))
                case measure => rw [Hr.out.1]; omega
                case rel =>
                  refine ⟨p, r + 1, rfl, by go_num, by omega, by omega, Lib.hid ⟨rfl, .inr ⟨by omega, ?_⟩⟩, hK6⟩
                  rw [Hls.out, Hzz.out, if_neg (by simp)]
                  rcases Hr.out.2 with ⟨h1, h2⟩ | ⟨h1, h2⟩
                  · have := Hfi.out h1; rw [Hzz.out] at this; cases this
                  · exact h2
              · have Hzz := Lib.hid hzz
                go_wp2_with fail
                go_roundg (xs.length - (r + 1))
                case measure => rw [Hr.out.1]; omega
                case rel =>
                  exact ⟨r, r + 1, rfl, by go_num, by omega, by omega, Lib.hid ⟨rfl, .inr ⟨by omega, by rw [Hls.out, Hzz.out]; rfl⟩⟩, hK6⟩
            · obtain rfl : r = xs.length := by omega
              have hpl : p = M.lst xs y := by
                rcases Hr.out.2 with ⟨h1, h2⟩ | ⟨h1, h2⟩
                · omega
                · rw [h2, List.take_length]
              subst hpl
              have hMk := (HM5.out.below hBq).below hBk
              have hhas : has entCmpM (M.fillM xs) ⟨y, 0⟩ = true := by
                have h := M.has_fill xs xs.length y 0
                rw [List.take_length] at h
                rw [h, M.any_symm, List.any_eq_true]
                exact ⟨y, List.mem_of_getElem? Hy.out, by simp [elmCmp_lin.refl]⟩
              have hget := M.mapget_yes wk m s (M.fillM xs) y hMk (by omega) hhas
              have hyc := O.memo_at Hel.out Hy.out hCk
              have hval : ∀ z, (M.fillM xs)[pos entCmpM (M.fillM xs) ⟨y, 0⟩]? = some z → z.v = (M.lst xs y : Int) := fun z hz => by
                have h3 := (M.fill_ok xs xs.length).2.2
                rw [List.take_length] at h3
                have hso2 := (M.fill_ok xs xs.length).1
                rw [List.take_length] at hso2
                refine h3 z (List.mem_of_getElem? hz) y ?_
                have := M.key_one hso2 hhas hz
                exact M.Lin.zsymm elmCmp_lin this
              have Hval := Lib.hid hval
              clear hhas hval
              go_wp2_with fail
              refine hget.mono ?_
              rintro e w7 ⟨⟨z, rfl, hz⟩, hB7⟩
              have hzv := Hval.out z hz
              have hK7 := hBk.trans (hB7.mono hBk.size)
              have hL7 := hBq.trans (hK7.mono hBq.size)
              rw [hzv]
              clear hz hzv hyc
              go_wp2_with fail
              go_roundg (xs.length - (q + 1))
              case measure => rw [Hq.out]; omega
              case rel => exact ⟨q + 1, by go_num, by omega, Lib.hid rfl, hL7⟩
        · obtain rfl : q = xs.length := by omega
          have hMq := HM5.out.below hBq
          have hlen := M.fill_length xs
          have hml := M.maplen_T wq m s _ hMq
          rw [hlen] at hml
          clear hlen
          go_wp2_with fail
          refine hml.mono ?_
          rintro e w8 ⟨rfl, rfl⟩
          go_wp2_with fail
          refine (wakes_T _).mono ?_
          rintro e w9 ⟨rfl, hB9⟩
          go_wp2_with fail
          go_ret
          exact ⟨rfl, hCq.trans (hB9.mono hCq.size)⟩

theorem keeps_big (w : World) (v : Value) (xs : List ElmV) (hv : O.SliceOf w v xs) (hx : 60 < xs.length) :
    Calls Try.prog 6 #[v] w fun e w' => e = .returned (.bool true) ∧ Below w.heap.size w w' := by
  obtain ⟨a, cap, rfl, hc⟩ := hv
  have f1 : ((60 : Int) < (xs.length : Int)) = True := eq_true (by omega)
  go_enter Try.func6, Try.ntmps6
  go_wp2_with fail
  refine (wakes_T _).mono ?_
  rintro e w1 ⟨rfl, hb⟩
  go_wp2_with fail
  go_ret
  exact ⟨rfl, hb⟩

theorem keeps_any (w : World) (v : Value) (xs : List ElmV) (hv : O.SliceOf w v xs ∧ ∀ a n c, v = .slice a n c → n ≤ c) :
    Calls Try.prog 6 #[v] w fun e w' => e = .returned (.bool true) ∧ Below w.heap.size w w' := by
  by_cases h : xs.length ≤ 60
  · exact keeps_walk w v xs hv.1 hv.2 h
  · exact keeps_big w v xs hv.1 (by omega)

end Go.Proofs.Ytfgpkbbbohipcaa
