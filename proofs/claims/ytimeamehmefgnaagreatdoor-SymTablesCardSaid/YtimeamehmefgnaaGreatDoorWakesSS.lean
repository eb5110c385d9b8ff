/- 'wakes', the document's example of symbols, answers true. Conditions: strconv's table of powers and its two errors lie as the program lays them. -/
import Derived.Test.YtimeamehmefgnaaGreatDoorFreshS
import Derived.Test.YtimeamehmefgnaaGreatDoorSymParS
namespace Go.Proofs.YtimeamehmefgnaaGreatDoor
open Go Go.RowKit

theorem letter_S : letterB 83 = ⟨#[83]⟩ := rfl

theorem text_fresh (n : Nat) (h : n < 10) (h1 : 1 ≤ n) : textB (freshS 83 n) = ⟨#[83, UInt8.ofNat (48 + n)]⟩ := by
  have hv : validB (freshS 83 n) = true := fresh_valid (by decide) (by omega) (by omega)
  have hi : Lib.itoa (n : Int) = [UInt8.ofNat (48 + n)] := by
    have : ¬ ((n : Int) < 0) := by omega
    rw [Lib.itoa, if_neg this]
    exact Lib.decDigits_one h
  unfold textB
  rw [if_pos hv, if_neg (by simp [freshS])]
  show letterB 83 ++ itoaB (n : Int) = _
  unfold itoaB
  rw [hi]
  rfl

theorem parse_zero : parseOk ⟨#[45, 48]⟩ = false := by
  have ha : atoiV ⟨#[45, 48]⟩ = 0 := by decide +kernel
  have hg : guessV ⟨#[45, 48]⟩ = ⟨2, ⟨#[]⟩, 0⟩ := by
    unfold guessV
    rw [ha, if_neg (by decide), if_neg (by decide +kernel), if_neg (by decide +kernel)]
  have hi : Lib.itoa 0 = [48] := by
    rw [Lib.itoa, if_neg (by omega)]
    exact Lib.decDigits_one (by omega)
  have ht : textB ⟨2, ⟨#[]⟩, 0⟩ = ⟨#[48]⟩ := by
    unfold textB
    rw [if_pos (by decide), if_neg (by simp)]
    show (⟨#[]⟩ : ByteArray) ++ itoaB 0 = _
    unfold itoaB
    rw [hi]
    rfl
  unfold parseOk
  rw [hg, ht]
  decide +kernel

theorem max_one (n : Int) (h : 0 ≤ n) : maxN (put symCmp [] (freshS 83 n)) 83 = n := by
  rw [maxN_put]
  have : isId 83 (freshS 83 n) = true := by
    obtain ⟨-, -, e3⟩ := enc_cap (c := 83) (by decide)
    simp [isId, freshS, e3]
  rw [if_pos this]
  show max 0 n = n
  omega

set_option maxHeartbeats 3200000 in
theorem wakes_T (w : World) (hE : Env w) : Calls Tryz.prog 7 #[] w fun e w' => e = .returned (.bool true) ∧ Below w.heap.size w w' := by
  have hx1 := text_fresh 1 (by omega) (by omega)
  have hx2 := text_fresh 2 (by omega) (by omega)
  have hp0 := parse_zero
  have HX1 := Lib.hid hx1
  have HX2 := Lib.hid hx2
  have Hp0 := Lib.hid hp0
  clear hx1 hx2 hp0
  go_enter Tryz.func7, Tryz.ntmps7
  go_wp2_with fail
  refine (newtab_T w 9 (by omega) (by omega)).mono ?_
  rintro e w1 ⟨t, s, m, ms, rfl, ht, hs, hms, hT, hB1⟩
  have hf1 := fresh_ok w1 t s m ms [] 9 83 hT (by simp) (by decide) (by simp) (by decide)
  rw [show maxN [] 83 + 1 = 1 from rfl] at hf1
  have HT := Lib.hid hT
  clear hT
  go_wp2_with fail
  refine hf1.mono ?_
  rintro e w2 ⟨rfl, hT2, hb2⟩
  have hlen : (put symCmp [] (freshS 83 1)).length = 1 := rfl
  have hf2 : ∀ w, TableAt w t s m ms (put symCmp [] (freshS 83 1)) 9 → _ := fun w h => fresh_ok w t s m ms _ 9 83 h (by rw [hlen]; omega) (by decide) (by rw [hlen]; decide) (by rw [max_one 1 (by omega)]; decide)
  rw [max_one 1 (by omega)] at hf2
  have hB2 : Below w.heap.size w w2 := But2.below hB1 hb2 hs hms hB1.size
  have hBa : Below w2.heap.size w2 (w2.alloc (.cells #[.int .i64 1, .string (letterB 83), .int .i64 1] 33)) := (Below.refl _ w2).alloc (Nat.le_refl _) _
  have hba := heap_alloc_new w2 (.cells #[.int .i64 1, .string (letterB 83), .int .i64 1] 33)
  have hT3 := hT2.below hBa
  have hB3 := hB2.trans (hBa.mono hB2.size)
  clear hf1 hT2
  go_wp2_with fail
  generalize (w2.alloc (.cells #[.int .i64 1, .string (letterB 83), .int .i64 1] 33)) = w3 at hBa hba hT3 hB3 ⊢
  refine (hf2 w3 hT3).mono ?_
  rintro e w4 ⟨rfl, hT4, hb4⟩
  obtain ⟨n1, n2⟩ := hT3.ne hba (by decide) (by decide)
  have hba4 := (hb4.block _ (lt_of_block hba) n1 n2).trans hba
  have hB4 : Below w.heap.size w w4 := But2.below hB3 hb4 hs hms hB3.size
  have hBc : Below w4.heap.size w4 (w4.alloc (.cells #[.int .i64 1, .string (letterB 83), .int .i64 2] 33)) := (Below.refl _ w4).alloc (Nat.le_refl _) _
  have hbc := heap_alloc_new w4 (.cells #[.int .i64 1, .string (letterB 83), .int .i64 2] 33)
  have hba5 := (hBc.block _ (lt_of_block hba4)).trans hba4
  have hB5 := hB4.trans (hBc.mono hB4.size)
  clear hf2 hT3 hT4 hba hba4
  go_wp2_with fail
  generalize (w4.alloc (.cells #[.int .i64 1, .string (letterB 83), .int .i64 2] 33)) = w5 at hBc hbc hba5 hB5 ⊢
  have hE5 := hE.below hB5
  refine (parse_T w5 ⟨#[45, 48]⟩ (by decide) hE5).mono ?_
  rw [Hp0.out]
  rintro e w6 ⟨rfl, hB6⟩
  have hv0 : parseV ⟨#[45, 48]⟩ = ⟨0, ⟨#[]⟩, 0⟩ := by unfold parseV; rw [Hp0.out, if_neg (by simp)]
  rw [hv0]
  clear hv0
  have hB6' := hB5.trans (hB6.mono hB5.size)
  have hba6 := (hB6.block _ (lt_of_block hba5)).trans hba5
  have hbc6 := (hB6.block _ (lt_of_block hbc)).trans hbc
  clear hba5 hbc
  have d0 : w6.cell? ⟨w2.heap.size, 0, none⟩ = some (.int .i64 1) := by simp [World.cell?, hba6]
  have d1 : w6.cell? ⟨w2.heap.size, 1, none⟩ = some (.string (letterB 83)) := by simp [World.cell?, hba6]
  have d2 : w6.cell? ⟨w2.heap.size, 2, none⟩ = some (.int .i64 1) := by simp [World.cell?, hba6]
  have hBd : Below w6.heap.size w6 (w6.alloc (.cells #[.int .i64 0, .string ⟨#[]⟩, .int .i64 0] 33)) := (Below.refl _ w6).alloc (Nat.le_refl _) _
  have hB7 := hB6'.trans (hBd.mono hB6'.size)
  have hE7 := (hE5.below hB6).below hBd
  have hbc7 := (hBd.block _ (lt_of_block hbc6)).trans hbc6
  have hl2 : w2.heap.size < w6.heap.size := lt_of_block hba6
  clear hba6 hbc6
  have ht1 := text_T _ (freshS 83 1) (by decide) hE7
  rw [show textB (freshS 83 1) = ⟨#[83, 49]⟩ from HX1.out] at ht1
  dsimp only [freshS] at ht1
  go_wp2_with fail
  refine ht1.mono ?_
  rintro e w8 ⟨rfl, hB8⟩
  have hbc8 := (hB8.block _ (lt_of_block hbc7)).trans hbc7
  have hE8 := hE7.below hB8
  have ht2 := text_T w8 (freshS 83 2) (by decide) hE8
  rw [show textB (freshS 83 2) = ⟨#[83, 50]⟩ from HX2.out] at ht2
  dsimp only [freshS] at ht2
  have e0 : w8.cell? ⟨w4.heap.size, 0, none⟩ = some (.int .i64 1) := by simp [World.cell?, hbc8]
  have e1 : w8.cell? ⟨w4.heap.size, 1, none⟩ = some (.string (letterB 83)) := by simp [World.cell?, hbc8]
  have e2 : w8.cell? ⟨w4.heap.size, 2, none⟩ = some (.int .i64 2) := by simp [World.cell?, hbc8]
  clear hbc8 hbc7
  go_wp2_with fail
  refine ht2.mono ?_
  rintro e w9 ⟨rfl, hB9⟩
  go_wp2_with fail
  go_ret
  have t1 := hB7.trans (hB8.mono hB7.size)
  exact ⟨rfl, t1.trans (hB9.mono t1.size)⟩

end Go.Proofs.YtimeamehmefgnaaGreatDoor
