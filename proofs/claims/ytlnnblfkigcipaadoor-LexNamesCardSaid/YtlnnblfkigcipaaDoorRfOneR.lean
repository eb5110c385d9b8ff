/- What the statements' own sized and one answer, at a word. Conditions: the text is not too long. -/
import Derived.Test.YtlnnblfkigcipaaDoorRfSk
import Derived.Test.YtlnnblfkigcipaaDoorLxNextK
import Derived.Test.YtlnnblfkigcipaaDoorBoxSR
namespace Go.Proofs.YtlnnblfkigcipaaDoor
open Go Go.RowKit

theorem sized_T (w : World) (k : Int) (x : ByteArray) (p n : Nat) (hn : n ≤ 100000) :
    Calls Tryd.prog 26 #[.int .i64 k, .string x, .int .i64 p, .int .i64 n] w fun e w' => e = .returned (.agg #[.int .i64 (if n ≤ 32 then k else 6), .string x, .int .i64 p]) ∧ Below w.heap.size w w' := by
  have hB0 : Below w.heap.size w (w.alloc (.cells #[.int .i64 0, .string ⟨#[]⟩, .int .i64 0] 46)) := (Below.refl _ w).alloc (Nat.le_refl _) _
  have hb0 := heap_alloc_new w (.cells #[.int .i64 0, .string ⟨#[]⟩, .int .i64 0] 46)
  obtain ⟨z0, z1, z2, z3, z4, z5⟩ := R.zero_cells hb0
  have hm := fun k => R.mem_sto _ w.heap.size ⟨k, x, p⟩ hb0
  have hB3 := fun k => R.below_but hB0 (R.but_sto _ w.heap.size ⟨k, x, p⟩) (Nat.le_refl _) hB0.size
  have Hm := Lib.hid hm
  clear hb0 hm
  by_cases h32 : n ≤ 32
  · have f1 : ((32 : Int) < (n : Int)) = False := eq_false (by omega)
    rw [if_pos h32]
    clear h32
    go_enter Tryd.func26, Tryd.ntmps26
    go_wp2_with fail
    have hm := Hm.out k
    have hB := hB3 k
    exact bodyPost_ret (v := .agg #[.int .i64 k, .string x, .int .i64 p]) (by simp [results, Tryd.results26, go_sem, hm]) rfl ⟨rfl, by first | exact hB | (simp; exact hB) | exact (Below.refl _ w).alloc (Nat.le_refl _) _⟩
  · have f1 : ((32 : Int) < (n : Int)) = True := eq_true (by omega)
    rw [if_neg h32]
    clear h32
    go_enter Tryd.func26, Tryd.ntmps26
    go_wp2_with fail
    have hm := Hm.out 6
    have hB := hB3 6
    exact bodyPost_ret (v := .agg #[.int .i64 6, .string x, .int .i64 p]) (by simp [results, Tryd.results26, go_sem, hm]) rfl ⟨rfl, by first | exact hB | (simp; exact hB) | exact (Below.refl _ w).alloc (Nat.le_refl _) _⟩

/-- What one answers of the rest q of a text at p. -/
def OneA (q : List UInt8) (p : Nat) : Ending := .returned (.tuple #[.agg #[.int .i64 (tokL q p).k, .string (tokL q p).t, .int .i64 (tokL q p).n], .int .i64 (p + (measL q).2 : Nat)])

set_option maxRecDepth 100000 in
set_option maxHeartbeats 1600000 in
theorem one_word (w : World) (t : ByteArray) (i : Nat) (hm : t.size ≤ 100000) (hi : i < t.size) (hw : wordN (t.data.toList.drop i) ≠ 0) :
    Calls Tryd.prog 20 #[.string t, .int .i64 i] w fun e w' => e = OneA (t.data.toList.drop i) i ∧ Below w.heap.size w w' := by
  have hB0 : Below w.heap.size w (w.alloc (.cells #[.int .i64 0, .string ⟨#[]⟩, .int .i64 0] 46)) := (Below.refl _ w).alloc (Nat.le_refl _) _
  have hb0 := heap_alloc_new w (.cells #[.int .i64 0, .string ⟨#[]⟩, .int .i64 0] 46)
  have hd := drop_at t i hi
  have hql : (t.data.toList.drop i).length = t.size - i := by rw [List.length_drop, ← size_list]
  obtain ⟨n, hn⟩ : ∃ n, n = wordN (t.data.toList.drop i) := ⟨_, rfl⟩
  have hle := word_le (t.data.toList.drop i)
  have hmc : measL (t.data.toList.drop i) = (1, n) := by unfold measL; rw [if_pos hw, ← hn]
  rw [← hn] at hw hle
  have htk : OneA (t.data.toList.drop i) i = .returned (.tuple #[.agg #[.int .i64 (if n ≤ 32 then 1 else 6), .string (wholeL (t.data.toList.drop i) n), .int .i64 i], .int .i64 (i + n : Nat)]) := by
    unfold OneA tokL
    rw [hmc]
    by_cases h : n ≤ 32 <;> simp [okL, h]
  rw [htk]
  obtain ⟨kd, hkd⟩ : ∃ kd : Int, kd = if n ≤ 32 then 1 else 6 := ⟨_, rfl⟩
  rw [← hkd]
  have hsm : smallI ((t[i].toNat : Nat) : Int) = true := by
    rw [hd] at hn
    by_cases h : smallC t[i] = true
    · exact h
    · simp [wordN, h] at hn
      exact absurd hn hw
  have hpn : i + ((t.data.toList.drop i).takeWhile innC).length = i + n := by
    rw [hd] at hn ⊢
    have h : smallC t[i] = true := hsm
    simp only [wordN, h, if_true] at hn
    rw [hn]
  have hp := fun w => parts_T w t i hm (by omega)
  rw [hpn] at hp
  have hwh : t.extract i (i + n) = wholeL (t.data.toList.drop i) n := whole_eq t i n
  generalize wholeL (t.data.toList.drop i) n = wh at hwh htk ⊢
  rw [hql] at hle
  have Hsm := Lib.hid hsm
  clear hd hql hn hmc htk hsm hpn hw
  obtain ⟨e, he⟩ : ∃ e, e = i + n := ⟨_, rfl⟩
  rw [← he] at hwh hp ⊢
  have f1 : (e : Int) - (i : Int) = (n : Int) := by omega
  have g4 : e ≤ t.size := by omega
  have g5 : i ≤ e := by omega
  have hn1 : n ≤ 100000 := by omega
  clear he hle
  go_enter Tryd.func20, Tryd.ntmps20
  go_wp2_with fail
  generalize (w.alloc (.cells #[.int .i64 0, .string ⟨#[]⟩, .int .i64 0] 46)) = W0 at hB0 hb0 ⊢
  refine (rsmall_T _ _).mono ?_
  rw [Hsm.out]
  rintro e' w' ⟨rfl, rfl⟩
  go_wp2_with fail
  refine (hp _).mono ?_
  rintro e' w' ⟨rfl, rfl⟩
  go_wp2_with fail
  have hsz := fun w => sized_T w 1 wh i n hn1
  rw [← hkd] at hsz
  refine (hsz _).mono ?_
  rintro e' w1 ⟨rfl, hB1⟩
  have hb1 := (hB1.block _ (lt_of_block hb0)).trans hb0
  have hC1 := hB0.trans (hB1.mono hB0.size)
  obtain ⟨z0, z1, z2, z3, z4, z5⟩ := R.zero_cells hb1
  have hm2 := R.mem_sto w1 w.heap.size ⟨kd, wh, i⟩ hb1
  have hB6 := R.below_but hC1 (R.but_sto w1 w.heap.size ⟨kd, wh, i⟩) (Nat.le_refl _) hC1.size
  clear hkd hsz
  have Hm2 := Lib.hid hm2
  clear hm2 hb1 hb0
  go_wp2_with fail
  have hm2 := Hm2.out
  generalize (World.setCell (World.setCell (World.setCell _ ⟨w.heap.size, 0, none⟩ _) ⟨w.heap.size, 1, none⟩ _) ⟨w.heap.size, 2, none⟩ _) = W at hm2 hB6 ⊢
  exact bodyPost_ret (v := .tuple #[.agg #[.int .i64 kd, .string wh, .int .i64 i], .int .i64 e]) (by simp [results, Tryd.results20, go_sem, hm2]) rfl ⟨rfl, hB6⟩

end Go.Proofs.YtlnnblfkigcipaaDoor
