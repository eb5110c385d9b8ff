/- SymClones returns true, whatever it is given. Conditions: strconv's table of powers and its two errors lie as the program lays them; the two lists lie in memory. -/
import Derived.Test.YtimeamehmefgnaaGreatDoorMgTab
import Derived.Test.YtimeamehmefgnaaGreatDoorWakesSS
namespace Go.Proofs.YtimeamehmefgnaaGreatDoor
open Go Go.RowKit Go.Shelf

theorem symclones_long (w : World) (v u : Value) (xs ys : List SymV) (hv : S.SliceOf w v xs) (hu : S.SliceOf w u ys) (hE : Env w) (h : 40 < xs.length ∨ 40 < ys.length) :
    Calls Tryz.prog 5 #[v, u] w fun e w' => e = .returned (.bool true) ∧ Below w.heap.size w w' := by
  obtain ⟨a, cap, rfl, -⟩ := hv
  obtain ⟨b, cap2, rfl, -⟩ := hu
  by_cases h1 : 40 < xs.length
  · have f1 : ((40 : Int) < (xs.length : Int)) = True := eq_true (by omega)
    clear h h1
    go_enter Tryz.func5, Tryz.ntmps5
    go_wp2_with fail
    refine (wakes_T w hE).mono ?_
    rintro e w1 ⟨rfl, hB1⟩
    go_wp2_with fail
    go_ret
    exact ⟨rfl, hB1⟩
  · have f1 : ((40 : Int) < (xs.length : Int)) = False := eq_false (by omega)
    have f2 : ((40 : Int) < (ys.length : Int)) = True := eq_true (by omega)
    clear h h1
    go_enter Tryz.func5, Tryz.ntmps5
    go_wp2_with fail
    refine (wakes_T w hE).mono ?_
    rintro e w1 ⟨rfl, hB1⟩
    go_wp2_with fail
    go_ret
    exact ⟨rfl, hB1⟩

set_option maxHeartbeats 3200000 in
theorem symclones_short (w : World) (v u : Value) (xs ys : List SymV) (hv : S.SliceOf w v xs) (hu : S.SliceOf w u ys) (hE : Env w) (hx : xs.length ≤ 40) (hy : ys.length ≤ 40) :
    Calls Tryz.prog 5 #[v, u] w fun e w' => e = .returned (.bool true) ∧ Below w.heap.size w w' := by
  have f1 : ((40 : Int) < (xs.length : Int)) = False := eq_false (by omega)
  have f2 : ((40 : Int) < (ys.length : Int)) = False := eq_false (by omega)
  have Hv := Lib.hid (fun W (hB : Below w.heap.size w W) => hv.below hB)
  have Hu := Lib.hid (fun W (hB : Below w.heap.size w W) => hu.below hB)
  have hl1 := putE_length [] xs 200
  obtain ⟨L1, hL1⟩ : ∃ L, (putE [] xs 200).2 = L := ⟨_, rfl⟩
  rw [hL1] at hl1
  have hl2 := putE_length L1 ys 200
  obtain ⟨a, cap, rfl, -⟩ := hv
  obtain ⟨b, cap2, rfl, -⟩ := hu
  simp only [List.length_nil, Nat.zero_add] at hl1
  have HL1 := Lib.hid hL1
  have Hl1 := Lib.hid (show L1.length ≤ 40 by omega)
  have Hl2 := Lib.hid (show (putE L1 ys 200).2.length ≤ 80 by omega)
  have Hx := Lib.hid hx
  have Hy := Lib.hid hy
  clear hL1 hl1 hl2 hx hy
  go_enter Tryz.func5, Tryz.ntmps5
  go_wp2_with fail
  refine (newtab_T w 200 (by decide) (by decide)).mono ?_
  rintro e w1 ⟨t, s, m, ms, rfl, ht, hs, hms, hT1, hB1⟩
  go_wp2_with fail
  refine (tabput_any w1 t s m ms [] 200 _ xs hT1 (by simp) (Hv.out w1 hB1) (by have := Hx.out; omega)).mono ?_
  rw [HL1.out]
  rintro e w2 ⟨rfl, hT2, hb2⟩
  have hC2 : Below w.heap.size w w2 := But2.below hB1 hb2 hs hms hB1.size
  clear hT1
  go_wp2_with fail
  refine (taball_T w2 t s m ms L1 200 hT2).mono ?_
  rintro e w3 ⟨rfl, rfl⟩
  go_wp2_with fail
  refine (tablist_T w2 t s m ms L1 200 hT2 (by have := Hl1.out; omega)).mono ?_
  rintro e w3 ⟨z, B, rfl, hB, hMd, hB3⟩
  have hC3 := hC2.trans (hB3.mono hC2.size)
  have hT3 := hT2.below hB3
  have hSl3 := SliceIn.of_ge hMd.ge
  obtain ⟨ls1, ls2⟩ := Table.lt2 hT2
  clear hT2 hMd
  go_wp2_with fail
  refine (tabclone_T w3 t s m ms L1 200 hT3 (by have := Hl1.out; omega)).mono ?_
  rintro e w4 ⟨t', s', m', ms', rfl, ht', hs', hm', hms', hD4, hB4⟩
  have hC4 := hC3.trans (hB4.mono hC3.size)
  have hT4 := hT3.below hB4
  have hSl4 := hSl3.below hB4
  have hsz3 := hB3.size
  clear hT3 hSl3
  go_wp2_with fail
  refine (tabput_any w4 t s m ms L1 200 _ ys hT4 (by have := Hl1.out; omega) (Hu.out w4 hC4) (by have := Hy.out; omega)).mono ?_
  rintro e w5 ⟨rfl, hT5, hb5⟩
  have hC5 : Below w.heap.size w w5 := But2.below hC4 hb5 hs hms hC4.size
  have hD5 := hD4.but2 hT4 hb5 (by omega) (by omega)
  have hSl5 := hSl4.but2 hb5 (.inl (by omega)) (.inl (by omega))
  clear hT4 hD4 hSl4
  go_wp2_with fail
  refine (fresh_any w5 t s m ms _ 200 81 hT5 (by have := Hl2.out; omega)).mono ?_
  rintro e w6 ⟨rfl, hT6, hb6⟩
  have hC6 : Below w.heap.size w w6 := But2.below hC5 hb6 hs hms hC5.size
  have hD6 := hD5.but2 hT5 hb6 (by omega) (by omega)
  have hSl6 := hSl5.but2 hb6 (.inl (by omega)) (.inl (by omega))
  clear hT5 hD5 hSl5 hT6
  have hfr := fresh_any w6 t' s' m' ms' L1 200 81 hD6 (by have := Hl1.out; omega)
  have hval := hD6.2.2.2
  have Hval := Lib.hid hval
  have hg0 := maxN_nonneg L1 81
  have hg1 := maxN_le hval 81
  have hlr : (L1.length : Int) < 200 := by have := Hl1.out; omega
  unfold freshE at hfr
  rw [if_pos (by decide)] at hfr
  have hs6 : w.heap.size ≤ s' ∧ w.heap.size ≤ ms' := ⟨Nat.le_trans hC3.size hs', Nat.le_trans hC3.size hms'⟩
  have Hmost := Lib.hid (fun W (h : SliceIn B w3.heap.size W z L1) => most_T W z L1 h.slice (by have := Hl1.out; omega) Hval.out)
  obtain ⟨g, hgg⟩ : ∃ g, maxN L1 81 = g := ⟨_, rfl⟩
  rw [hgg] at Hmost hfr hg0 hg1
  by_cases hfull : g + 1 ≤ 1048576
  · rw [if_pos ⟨hlr, hfull⟩] at hfr
    have hpl : (put symCmp L1 (freshS 81 (g + 1))).length = L1.length + 1 := put_new_length rfl (by
      show maxN L1 (hd (letterB 81)) + 1 ≤ g + 1
      rw [(enc_cap (c := 81) (by decide)).2.2, hgg]; omega)
    dsimp only [freshS] at hfr hpl
    go_wp2_with fail
    refine hfr.mono ?_
    rintro e w7 ⟨rfl, hD7, hb7⟩
    have hC7 : Below w.heap.size w w7 := But2.below hC6 hb7 hs6.1 hs6.2 hC6.size
    have hSl7 := hSl6.but2 hb7 (.inr hs') (.inr hms')
    have hB8 : Below w7.heap.size w7 (w7.alloc (.cells #[.int .i64 1, .string (letterB 81), .int .i64 (g + 1)] 33)) := (Below.refl _ w7).alloc (Nat.le_refl _) _
    have hb8 := heap_alloc_new w7 (.cells #[.int .i64 1, .string (letterB 81), .int .i64 (g + 1)] 33)
    have hD8 := hD7.below hB8
    have hSl8 := hSl7.below hB8
    have hC8 := hC7.trans (hB8.mono hC7.size)
    clear hD7 hSl7 hfr
    have Hgg := Lib.hid hgg
    have f3 : (1048576 ≤ g) = False := eq_false (by omega)
    clear hgg
    go_wp2_with fail
    generalize (w7.alloc (.cells #[.int .i64 1, .string (letterB 81), .int .i64 (g + 1)] 33)) = w8 at hB8 hb8 hD8 hSl8 hC8 ⊢
    refine (Hmost.out w8 hSl8).mono ?_
    rintro e _ ⟨rfl, rfl⟩
    have e2 : w8.cell? ⟨w7.heap.size, 2, none⟩ = some (.int .i64 (g + 1)) := by simp [World.cell?, hb8]
    have Hb8 := Lib.hid hb8
    clear hb8
    obtain ⟨az, cz, rfl, -⟩ := id hSl8
    have k1 := Hmost.out w8.drew (hSl8.below (Below.refl _ _).drew)
    have k2 := tablen_T w8.drew t' s' m' ms' _ 200 (hD8.below (Below.refl _ _).drew)
    rw [hpl] at k2
    have k3 := wakes_T w8.drew (hE.below hC8.drew)
    have hcm : IntKind.i64.wrap (1 + g) = g + 1 := by rw [IntWalk.i64_in _ (by omega)]; omega
    have hcl : IntKind.i64.wrap ((L1.length : Int) + 1) = (L1.length : Int) + 1 := IntWalk.i64_in _ (by omega)
    go_wp2_with fail
    go_region_held3 (fun W => W.cell? ⟨w7.heap.size, 2, none⟩ = some (.int .i64 (g + 1)))
      (first | go_keep | assumption)
      (first
        | ((with_reducible refine k1.mono ?_); rintro e w9 ⟨rfl, rfl⟩; have hS9 : w8.drew.cell? ⟨w7.heap.size, 2, none⟩ = some (.int .i64 (g + 1)) := e2)
        | ((with_reducible refine k2.mono ?_); rintro e w9 ⟨rfl, rfl⟩; have hS9 : w8.drew.cell? ⟨w7.heap.size, 2, none⟩ = some (.int .i64 (g + 1)) := e2)
        | ((with_reducible refine k3.mono ?_); rintro e w9 ⟨rfl, hB9⟩; have hC9 := hC8.drew.trans (hB9.mono hC8.drew.size); have hS9 : w9.cell? ⟨w7.heap.size, 2, none⟩ = some (.int .i64 (g + 1)) := (by have := (hB9.block _ (lt_of_block Hb8.out)).trans Hb8.out; simp [World.cell?, this]))
        | fail "no arm")
    go_wp2_with fail
    go_ret
    exact ⟨rfl, hC9⟩
  · rw [if_neg (by omega)] at hfr
    go_wp2_with fail
    refine hfr.mono ?_
    rintro e w7 ⟨rfl, hD7, hb7⟩
    have hC7 : Below w.heap.size w w7 := But2.below hC6 hb7 hs6.1 hs6.2 hC6.size
    have hSl7 := hSl6.but2 hb7 (.inr hs') (.inr hms')
    have hB8 : Below w7.heap.size w7 (w7.alloc (.cells #[.int .i64 0, .string ⟨#[]⟩, .int .i64 0] 33)) := (Below.refl _ w7).alloc (Nat.le_refl _) _
    have hD8 := hD7.below hB8
    have hSl8 := hSl7.below hB8
    have hC8 := hC7.trans (hB8.mono hC7.size)
    clear hD7 hSl7 hfr
    have Hgg := Lib.hid hgg
    have f3 : (1048576 ≤ g) = True := eq_true (by omega)
    clear hgg
    go_wp2_with fail
    generalize (w7.alloc (.cells #[.int .i64 0, .string ⟨#[]⟩, .int .i64 0] 33)) = w8 at hB8 hD8 hSl8 hC8 ⊢
    refine (Hmost.out w8 hSl8).mono ?_
    rintro e _ ⟨rfl, rfl⟩
    obtain ⟨az, cz, rfl, -⟩ := id hSl8
    go_wp2_with fail
    refine (tablen_T w8 t' s' m' ms' _ 200 hD8).mono ?_
    rintro e _ ⟨rfl, rfl⟩
    go_wp2_with fail
    refine (wakes_T w8 (hE.below hC8)).mono ?_
    rintro e w9 ⟨rfl, hB9⟩
    go_wp2_with fail
    go_ret
    exact ⟨rfl, hC8.trans (hB9.mono hC8.size)⟩

theorem symclones_walk (w : World) (v : Value) (xs : List SymV) (hv : S.SliceOf w v xs) (u : Value) (ys : List SymV) (hu : S.SliceOf w u ys) (hE : Env w) :
    Calls Tryz.prog 5 #[v, u] w fun e w' => e = .returned (.bool true) ∧ Below w.heap.size w w' := by
  by_cases h : 40 < xs.length ∨ 40 < ys.length
  · exact symclones_long w v u xs ys hv hu hE h
  · exact symclones_short w v u xs ys hv hu hE (by omega) (by omega)

end Go.Proofs.YtimeamehmefgnaaGreatDoor
