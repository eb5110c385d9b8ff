/- What the statements' own Parse answers. Conditions: the text has at most 1000 bytes. -/
import Derived.Test.YtimeamehmefgnaaDoorSyReadS
import Derived.Test.YtimeamehmefgnaaDoorSyParPl
import Derived.StillTailTactics
namespace Go.Proofs.YtimeamehmefgnaaDoor
open Go Go.RowKit

theorem refparse_word (w : World) (t : ByteArray) (hm : t.size ≤ 1000) (hw : wordB t = true) :
    Calls Tryd.prog 13 #[.string t] w fun e w' => e = .returned (.tuple #[.agg #[.int .i64 (parseV t).k, .string (parseV t).t, .int .i64 (parseV t).n], .bool (parseOk t)]) ∧ Below w.heap.size w w' := by
  have hB0 : Below w.heap.size w (w.alloc (.cells #[.int .i64 0, .string ⟨#[]⟩, .int .i64 0] 23)) := (Below.refl _ w).alloc (Nat.le_refl _) _
  have hb0 := heap_alloc_new w (.cells #[.int .i64 0, .string ⟨#[]⟩, .int .i64 0] 23)
  have hm2 : t.size ≤ maxLen := by unfold maxLen; omega
  obtain ⟨g1, g2⟩ := word_parse hw
  rw [g1, g2]
  clear g1 g2
  have hz1 := S.zero_cells hb0
  have Hb0 := Lib.hid hb0
  go_enter Tryd.func13, Tryd.ntmps13
  go_wp2_with fail
  generalize (w.alloc (.cells #[.int .i64 0, .string ⟨#[]⟩, .int .i64 0] 23)) = W0 at hB0 hb0 Hb0 hz1 ⊢
  clear hb0
  refine (refword_T W0 t hm2).mono ?_
  rw [hw]
  rintro e w' ⟨rfl, rfl⟩
  go_wp2_with fail
  have hm := S.mem_sto W0 w.heap.size (⟨3, t, 0⟩) Hb0.out
  have hB7 := S.below_but hB0 (S.but_sto W0 w.heap.size (⟨3, t, 0⟩)) (Nat.le_refl _) hB0.size
  dsimp only at hm hB7
  generalize (((W0.setCell ⟨w.heap.size, 0, none⟩ _).setCell ⟨w.heap.size, 1, none⟩ _).setCell ⟨w.heap.size, 2, none⟩ _) = W at hm hB7 ⊢
  exact bodyPost_ret (v := .tuple #[.agg #[.int .i64 3, .string t, .int .i64 0], .bool true]) (by simp [results, Tryd.results13, go_sem, hm]) rfl ⟨rfl, hB7⟩

set_option maxRecDepth 100000 in
set_option maxHeartbeats 3200000 in
theorem refparse_B (w : World) (t : ByteArray) (hm : t.size ≤ 1000) (hw : wordB t = false) (hb : refB t = true) :
    Calls Tryd.prog 13 #[.string t] w fun e w' => e = .returned (.tuple #[.agg #[.int .i64 (parseV t).k, .string (parseV t).t, .int .i64 (parseV t).n], .bool (parseOk t)]) ∧ Below w.heap.size w w' := by
  have hB0 : Below w.heap.size w (w.alloc (.cells #[.int .i64 0, .string ⟨#[]⟩, .int .i64 0] 23)) := (Below.refl _ w).alloc (Nat.le_refl _) _
  have hb0 := heap_alloc_new w (.cells #[.int .i64 0, .string ⟨#[]⟩, .int .i64 0] 23)
  have hm2 : t.size ≤ maxLen := by unfold maxLen; omega
  have hmi : (t.size : Int) ≤ 1000 := by omega
  have hbb := hb
  simp only [refB, Bool.and_eq_true, decide_eq_true_eq, capI, Bool.not_eq_true', beq_eq_false_iff_ne] at hbb
  obtain ⟨⟨b1, b2, b3⟩, b4⟩ := hbb
  have hpos : 0 < t.size := by omega
  have f1 : ((1 : Int) < (t.size : Int)) = True := eq_true (by omega)
  have fi : (1 : Int) ≤ (t.size : Int) := by omega
  rw [hd_pos hpos] at b2 b3
  rw [hd1, dif_pos b1] at b4
  have f2 : ((65 : Int) ≤ ((t[0].toNat : Nat) : Int)) = True := eq_true b2
  have f3 : (((t[0].toNat : Nat) : Int) ≤ 90) = True := eq_true b3
  have f4 : (((t[1].toNat : Nat) : Int) != 45) = true := by simp [b4]
  have f5 : (((t[1].toNat : Nat) : Int) == 45) = false := by simp [b4]
  clear b2 b3 b4
  go_enter Tryd.func13, Tryd.ntmps13
  go_wp2_with fail
  generalize (w.alloc (.cells #[.int .i64 0, .string ⟨#[]⟩, .int .i64 0] 23)) = W0 at hB0 hb0 ⊢
  refine (refword_T W0 t hm2).mono ?_
  rw [hw]
  rintro e w' ⟨rfl, rfl⟩
  go_wp2_with fail
  have hmx : (⟨1, t.extract 0 1, readV (t.extract 1 t.size)⟩ : SymV).t.size ≤ maxLen := by show (t.extract 0 1).size ≤ _; rw [ByteArray.size_extract]; unfold maxLen; omega
  have hS : refS t = ⟨1, t.extract 0 1, readV (t.extract 1 t.size)⟩ := by unfold refS; rw [hb]; rw [if_pos rfl]
  have hO : refO t = (readOk (t.extract 1 t.size) && validB (⟨1, t.extract 0 1, readV (t.extract 1 t.size)⟩)) := by unfold refO; rw [hS, hb]; rw [if_pos rfl]
  have hyes : refO t = true → Ending.returned (.tuple #[.agg #[.int .i64 (parseV t).k, .string (parseV t).t, .int .i64 (parseV t).n], .bool (parseOk t)]) = Ending.returned (.tuple #[.agg #[.int .i64 1, .string (t.extract 0 1), .int .i64 (readV (t.extract 1 t.size))], .bool true]) := fun h => by obtain ⟨g1, g2⟩ := ref_yes h; rw [g1, g2, hS]
  have hno : refO t = false → Ending.returned (.tuple #[.agg #[.int .i64 (parseV t).k, .string (parseV t).t, .int .i64 (parseV t).n], .bool (parseOk t)]) = Ending.returned (.tuple #[.agg #[.int .i64 0, .string ⟨#[]⟩, .int .i64 0], .bool false]) := fun h => by have g := ref_no hw h; rw [g, parse_no g]
  have Hyes := Lib.hid hyes
  have Hno := Lib.hid hno
  have HO := Lib.hid hO
  clear hyes hno hO hS hb
  refine (read_T W0 (t.extract 1 t.size) (by rw [ByteArray.size_extract]; omega)).mono ?_
  rintro e w1 ⟨rfl, hB1⟩
  have hb1 := (hB1.block _ (lt_of_block hb0)).trans hb0
  have hC1 := hB0.trans (hB1.mono hB0.size)
  have hBx : Below w1.heap.size w1 (w1.alloc (.cells #[.int .i64 1, .string (t.extract 0 1), .int .i64 (readV (t.extract 1 t.size))] 23)) := (Below.refl _ w1).alloc (Nat.le_refl _) _
  have hbx := heap_alloc_new w1 (.cells #[.int .i64 1, .string (t.extract 0 1), .int .i64 (readV (t.extract 1 t.size))] 23)
  have hb2 := (hBx.block _ (lt_of_block hb1)).trans hb1
  have hC2 := hC1.trans (hBx.mono hC1.size)
  have hlt1 := lt_of_block hb1
  have hne1 : ¬ w1.heap.size = w.heap.size := by omega
  have hne2 : ¬ w.heap.size = w1.heap.size := by omega
  clear hb0 hb1 hlt1
  go_wp2_with fail
  generalize (w1.alloc (.cells #[.int .i64 1, .string (t.extract 0 1), .int .i64 (readV (t.extract 1 t.size))] 23)) = w2 at hBx hbx hb2 hC2 ⊢
  have hmem : ∀ W, Below w2.heap.size w2 W → (W.cell? ⟨w1.heap.size, 0, none⟩ = some (.int .i64 1) ∧ W.cell? ⟨w1.heap.size, 1, none⟩ = some (.string (t.extract 0 1)) ∧ W.cell? ⟨w1.heap.size, 2, none⟩ = some (.int .i64 (readV (t.extract 1 t.size)))) ∧ W.heap[w.heap.size]? = some (.cells #[.int .i64 0, .string ⟨#[]⟩, .int .i64 0] 23 (0, 0)) := by
    intro W hB
    have e1 := (hB.block _ (lt_of_block hbx)).trans hbx
    exact ⟨by simp [World.cell?, e1], (hB.block _ (lt_of_block hb2)).trans hb2⟩
  have Hmem := Lib.hid hmem
  obtain ⟨⟨c0, c1, c2⟩, -⟩ := hmem _ (Below.refl _ _)
  clear hmem hbx hb2
  cases hro : readOk (t.extract 1 t.size)
  · have Hres := Lib.hid (Hno.out (by rw [HO.out, hro]; rfl))
    obtain ⟨vo, hvo⟩ : ∃ b, validB (⟨1, t.extract 0 1, readV (t.extract 1 t.size)⟩) = b := ⟨_, rfl⟩
    have ko := fun w => only_T w (⟨1, t.extract 0 1, readV (t.extract 1 t.size)⟩) false
    have kv := fun w => refvalid_T w (⟨1, t.extract 0 1, readV (t.extract 1 t.size)⟩) hmx
    rw [hvo] at kv
    dsimp only at ko kv
    simp only [Bool.false_eq_true, if_false] at ko
    go_region_with ((with_reducible refine (ko _).mono ?_); rintro e w6 ⟨rfl, hB6⟩; have hC6 : Below w2.heap.size w2 w6 := (Below.refl _ w2).drew.trans hB6; have hz6 := S.zero_cells (Hmem.out w6 hC6).2; have hm6 := (Hmem.out w6 hC6).1)
    all_goals
      have hb6 := (Hmem.out w6 hC6).2
      have Hb6 := Lib.hid hb6
      have hD6 := hC2.trans (hC6.mono hC2.size)
      clear hb6
      go_wp2_with fail
      have hm := S.mem_sto w6 w.heap.size (⟨0, ⟨#[]⟩, 0⟩) Hb6.out
      have hB7 := S.below_but hD6 (S.but_sto w6 w.heap.size (⟨0, ⟨#[]⟩, 0⟩)) (Nat.le_refl _) hD6.size
      dsimp only at hm hB7
      generalize (((w6.setCell ⟨w.heap.size, 0, none⟩ _).setCell ⟨w.heap.size, 1, none⟩ _).setCell ⟨w.heap.size, 2, none⟩ _) = W at hm hB7 ⊢
      exact bodyPost_ret (v := .tuple #[.agg #[.int .i64 0, .string ⟨#[]⟩, .int .i64 0], .bool false]) (by simp [results, Tryd.results13, go_sem, hm]) rfl ⟨Hres.out.symm, hB7⟩
  · cases hvo : validB (⟨1, t.extract 0 1, readV (t.extract 1 t.size)⟩)
    · have Hres := Lib.hid (Hno.out (by rw [HO.out, hro, hvo]; rfl))
      have ko := fun w => only_T w (⟨1, t.extract 0 1, readV (t.extract 1 t.size)⟩) false
      have kv := fun w => refvalid_T w (⟨1, t.extract 0 1, readV (t.extract 1 t.size)⟩) hmx
      rw [hvo] at kv
      dsimp only at ko kv
      simp only [Bool.false_eq_true, if_false] at ko
      go_region_held3 (fun W => W.cell? ⟨w1.heap.size, 0, none⟩ = some (.int .i64 1) ∧ W.cell? ⟨w1.heap.size, 1, none⟩ = some (.string (t.extract 0 1)) ∧ W.cell? ⟨w1.heap.size, 2, none⟩ = some (.int .i64 (readV (t.extract 1 t.size))))
        (first | go_keep | assumption)
        (first
          | ((with_reducible refine (kv w2.drew).mono ?_); rintro e w5 ⟨rfl, hB5⟩; have hC5 : Below w2.heap.size w2 w5 := (Below.refl _ w2).drew.trans hB5; have hm5 := (Hmem.out w5 hC5).1)
          | ((with_reducible refine (ko w5).mono ?_); rintro e w6 ⟨rfl, hB6⟩; have hC6 : Below w2.heap.size w2 w6 := hC5.trans (hB6.mono hC5.size); have hm6 := (Hmem.out w6 hC6).1; have hz6 := S.zero_cells (Hmem.out w6 hC6).2)
          | fail "no arm")
      have hb6 := (Hmem.out w6 hC6).2
      have Hb6 := Lib.hid hb6
      have hD6 := hC2.trans (hC6.mono hC2.size)
      clear hb6
      go_wp2_with fail
      have hm := S.mem_sto w6 w.heap.size (⟨0, ⟨#[]⟩, 0⟩) Hb6.out
      have hB7 := S.below_but hD6 (S.but_sto w6 w.heap.size (⟨0, ⟨#[]⟩, 0⟩)) (Nat.le_refl _) hD6.size
      dsimp only at hm hB7
      generalize (((w6.setCell ⟨w.heap.size, 0, none⟩ _).setCell ⟨w.heap.size, 1, none⟩ _).setCell ⟨w.heap.size, 2, none⟩ _) = W at hm hB7 ⊢
      exact bodyPost_ret (v := .tuple #[.agg #[.int .i64 0, .string ⟨#[]⟩, .int .i64 0], .bool false]) (by simp [results, Tryd.results13, go_sem, hm]) rfl ⟨Hres.out.symm, hB7⟩
    · have Hres := Lib.hid (Hyes.out (by rw [HO.out, hro, hvo]; rfl))
      have ko := fun w => only_T w (⟨1, t.extract 0 1, readV (t.extract 1 t.size)⟩) true
      have kv := fun w => refvalid_T w (⟨1, t.extract 0 1, readV (t.extract 1 t.size)⟩) hmx
      rw [hvo] at kv
      dsimp only at ko kv
      simp only [if_true] at ko
      go_region_held3 (fun W => W.cell? ⟨w1.heap.size, 0, none⟩ = some (.int .i64 1) ∧ W.cell? ⟨w1.heap.size, 1, none⟩ = some (.string (t.extract 0 1)) ∧ W.cell? ⟨w1.heap.size, 2, none⟩ = some (.int .i64 (readV (t.extract 1 t.size))))
        (first | go_keep | assumption)
        (first
          | ((with_reducible refine (kv w2.drew).mono ?_); rintro e w5 ⟨rfl, hB5⟩; have hC5 : Below w2.heap.size w2 w5 := (Below.refl _ w2).drew.trans hB5; have hm5 := (Hmem.out w5 hC5).1)
          | ((with_reducible refine (ko w5).mono ?_); rintro e w6 ⟨rfl, hB6⟩; have hC6 : Below w2.heap.size w2 w6 := hC5.trans (hB6.mono hC5.size); have hm6 := (Hmem.out w6 hC6).1; have hz6 := S.zero_cells (Hmem.out w6 hC6).2)
          | fail "no arm")
      have hb6 := (Hmem.out w6 hC6).2
      have Hb6 := Lib.hid hb6
      have hD6 := hC2.trans (hC6.mono hC2.size)
      clear hb6
      go_wp2_with fail
      have hm := S.mem_sto w6 w.heap.size (⟨1, t.extract 0 1, readV (t.extract 1 t.size)⟩) Hb6.out
      have hB7 := S.below_but hD6 (S.but_sto w6 w.heap.size (⟨1, t.extract 0 1, readV (t.extract 1 t.size)⟩)) (Nat.le_refl _) hD6.size
      dsimp only at hm hB7
      generalize (((w6.setCell ⟨w.heap.size, 0, none⟩ _).setCell ⟨w.heap.size, 1, none⟩ _).setCell ⟨w.heap.size, 2, none⟩ _) = W at hm hB7 ⊢
      exact bodyPost_ret (v := .tuple #[.agg #[.int .i64 1, .string (t.extract 0 1), .int .i64 (readV (t.extract 1 t.size))], .bool true]) (by simp [results, Tryd.results13, go_sem, hm]) rfl ⟨Hres.out.symm, hB7⟩

set_option maxRecDepth 100000 in
set_option maxHeartbeats 3200000 in
theorem refparse_short (w : World) (t : ByteArray) (hm : t.size ≤ 1000) (hw : wordB t = false) (hb : refB t = false) (h1 : t.size ≤ 1) :
    Calls Tryd.prog 13 #[.string t] w fun e w' => e = .returned (.tuple #[.agg #[.int .i64 (parseV t).k, .string (parseV t).t, .int .i64 (parseV t).n], .bool (parseOk t)]) ∧ Below w.heap.size w w' := by
  have hB0 : Below w.heap.size w (w.alloc (.cells #[.int .i64 0, .string ⟨#[]⟩, .int .i64 0] 23)) := (Below.refl _ w).alloc (Nat.le_refl _) _
  have hb0 := heap_alloc_new w (.cells #[.int .i64 0, .string ⟨#[]⟩, .int .i64 0] 23)
  have hm2 : t.size ≤ maxLen := by unfold maxLen; omega
  have hmi : (t.size : Int) ≤ 1000 := by omega
  have f1 : ((1 : Int) < (t.size : Int)) = False := eq_false (by omega)
  clear h1
  go_enter Tryd.func13, Tryd.ntmps13
  go_wp2_with fail
  generalize (w.alloc (.cells #[.int .i64 0, .string ⟨#[]⟩, .int .i64 0] 23)) = W0 at hB0 hb0 ⊢
  refine (refword_T W0 t hm2).mono ?_
  rw [hw]
  rintro e w' ⟨rfl, rfl⟩
  go_wp2_with fail
  have hmx : (⟨2, ⟨#[]⟩, readV t⟩ : SymV).t.size ≤ maxLen := Nat.zero_le _
  have hS : refS t = ⟨2, ⟨#[]⟩, readV t⟩ := by unfold refS; rw [hb]; rw [if_neg (by simp)]
  have hO : refO t = (readOk t && validB (⟨2, ⟨#[]⟩, readV t⟩)) := by unfold refO; rw [hS, hb]; rw [if_neg (by simp)]
  have hyes : refO t = true → Ending.returned (.tuple #[.agg #[.int .i64 (parseV t).k, .string (parseV t).t, .int .i64 (parseV t).n], .bool (parseOk t)]) = Ending.returned (.tuple #[.agg #[.int .i64 2, .string ⟨#[]⟩, .int .i64 (readV t)], .bool true]) := fun h => by obtain ⟨g1, g2⟩ := ref_yes h; rw [g1, g2, hS]
  have hno : refO t = false → Ending.returned (.tuple #[.agg #[.int .i64 (parseV t).k, .string (parseV t).t, .int .i64 (parseV t).n], .bool (parseOk t)]) = Ending.returned (.tuple #[.agg #[.int .i64 0, .string ⟨#[]⟩, .int .i64 0], .bool false]) := fun h => by have g := ref_no hw h; rw [g, parse_no g]
  have Hyes := Lib.hid hyes
  have Hno := Lib.hid hno
  have HO := Lib.hid hO
  clear hyes hno hO hS hb
  refine (read_T W0 t (by omega)).mono ?_
  rintro e w1 ⟨rfl, hB1⟩
  have hb1 := (hB1.block _ (lt_of_block hb0)).trans hb0
  have hC1 := hB0.trans (hB1.mono hB0.size)
  have hBx : Below w1.heap.size w1 (w1.alloc (.cells #[.int .i64 2, .string ⟨#[]⟩, .int .i64 (readV t)] 23)) := (Below.refl _ w1).alloc (Nat.le_refl _) _
  have hbx := heap_alloc_new w1 (.cells #[.int .i64 2, .string ⟨#[]⟩, .int .i64 (readV t)] 23)
  have hb2 := (hBx.block _ (lt_of_block hb1)).trans hb1
  have hC2 := hC1.trans (hBx.mono hC1.size)
  have hlt1 := lt_of_block hb1
  have hne1 : ¬ w1.heap.size = w.heap.size := by omega
  have hne2 : ¬ w.heap.size = w1.heap.size := by omega
  clear hb0 hb1 hlt1
  go_wp2_with fail
  generalize (w1.alloc (.cells #[.int .i64 2, .string ⟨#[]⟩, .int .i64 (readV t)] 23)) = w2 at hBx hbx hb2 hC2 ⊢
  have hmem : ∀ W, Below w2.heap.size w2 W → (W.cell? ⟨w1.heap.size, 0, none⟩ = some (.int .i64 2) ∧ W.cell? ⟨w1.heap.size, 1, none⟩ = some (.string ⟨#[]⟩) ∧ W.cell? ⟨w1.heap.size, 2, none⟩ = some (.int .i64 (readV t))) ∧ W.heap[w.heap.size]? = some (.cells #[.int .i64 0, .string ⟨#[]⟩, .int .i64 0] 23 (0, 0)) := by
    intro W hB
    have e1 := (hB.block _ (lt_of_block hbx)).trans hbx
    exact ⟨by simp [World.cell?, e1], (hB.block _ (lt_of_block hb2)).trans hb2⟩
  have Hmem := Lib.hid hmem
  obtain ⟨⟨c0, c1, c2⟩, -⟩ := hmem _ (Below.refl _ _)
  clear hmem hbx hb2
  cases hro : readOk t
  · have Hres := Lib.hid (Hno.out (by rw [HO.out, hro]; rfl))
    obtain ⟨vo, hvo⟩ : ∃ b, validB (⟨2, ⟨#[]⟩, readV t⟩) = b := ⟨_, rfl⟩
    have ko := fun w => only_T w (⟨2, ⟨#[]⟩, readV t⟩) false
    have kv := fun w => refvalid_T w (⟨2, ⟨#[]⟩, readV t⟩) hmx
    rw [hvo] at kv
    dsimp only at ko kv
    simp only [Bool.false_eq_true, if_false] at ko
    go_region_with ((with_reducible refine (ko _).mono ?_); rintro e w6 ⟨rfl, hB6⟩; have hC6 : Below w2.heap.size w2 w6 := (Below.refl _ w2).drew.trans hB6; have hz6 := S.zero_cells (Hmem.out w6 hC6).2; have hm6 := (Hmem.out w6 hC6).1)
    all_goals
      have hb6 := (Hmem.out w6 hC6).2
      have Hb6 := Lib.hid hb6
      have hD6 := hC2.trans (hC6.mono hC2.size)
      clear hb6
      go_wp2_with fail
      have hm := S.mem_sto w6 w.heap.size (⟨0, ⟨#[]⟩, 0⟩) Hb6.out
      have hB7 := S.below_but hD6 (S.but_sto w6 w.heap.size (⟨0, ⟨#[]⟩, 0⟩)) (Nat.le_refl _) hD6.size
      dsimp only at hm hB7
      generalize (((w6.setCell ⟨w.heap.size, 0, none⟩ _).setCell ⟨w.heap.size, 1, none⟩ _).setCell ⟨w.heap.size, 2, none⟩ _) = W at hm hB7 ⊢
      exact bodyPost_ret (v := .tuple #[.agg #[.int .i64 0, .string ⟨#[]⟩, .int .i64 0], .bool false]) (by simp [results, Tryd.results13, go_sem, hm]) rfl ⟨Hres.out.symm, hB7⟩
  · cases hvo : validB (⟨2, ⟨#[]⟩, readV t⟩)
    · have Hres := Lib.hid (Hno.out (by rw [HO.out, hro, hvo]; rfl))
      have ko := fun w => only_T w (⟨2, ⟨#[]⟩, readV t⟩) false
      have kv := fun w => refvalid_T w (⟨2, ⟨#[]⟩, readV t⟩) hmx
      rw [hvo] at kv
      dsimp only at ko kv
      simp only [Bool.false_eq_true, if_false] at ko
      go_region_held3 (fun W => W.cell? ⟨w1.heap.size, 0, none⟩ = some (.int .i64 2) ∧ W.cell? ⟨w1.heap.size, 1, none⟩ = some (.string ⟨#[]⟩) ∧ W.cell? ⟨w1.heap.size, 2, none⟩ = some (.int .i64 (readV t)))
        (first | go_keep | assumption)
        (first
          | ((with_reducible refine (kv w2.drew).mono ?_); rintro e w5 ⟨rfl, hB5⟩; have hC5 : Below w2.heap.size w2 w5 := (Below.refl _ w2).drew.trans hB5; have hm5 := (Hmem.out w5 hC5).1)
          | ((with_reducible refine (ko w5).mono ?_); rintro e w6 ⟨rfl, hB6⟩; have hC6 : Below w2.heap.size w2 w6 := hC5.trans (hB6.mono hC5.size); have hm6 := (Hmem.out w6 hC6).1; have hz6 := S.zero_cells (Hmem.out w6 hC6).2)
          | fail "no arm")
      have hb6 := (Hmem.out w6 hC6).2
      have Hb6 := Lib.hid hb6
      have hD6 := hC2.trans (hC6.mono hC2.size)
      clear hb6
      go_wp2_with fail
      have hm := S.mem_sto w6 w.heap.size (⟨0, ⟨#[]⟩, 0⟩) Hb6.out
      have hB7 := S.below_but hD6 (S.but_sto w6 w.heap.size (⟨0, ⟨#[]⟩, 0⟩)) (Nat.le_refl _) hD6.size
      dsimp only at hm hB7
      generalize (((w6.setCell ⟨w.heap.size, 0, none⟩ _).setCell ⟨w.heap.size, 1, none⟩ _).setCell ⟨w.heap.size, 2, none⟩ _) = W at hm hB7 ⊢
      exact bodyPost_ret (v := .tuple #[.agg #[.int .i64 0, .string ⟨#[]⟩, .int .i64 0], .bool false]) (by simp [results, Tryd.results13, go_sem, hm]) rfl ⟨Hres.out.symm, hB7⟩
    · have Hres := Lib.hid (Hyes.out (by rw [HO.out, hro, hvo]; rfl))
      have ko := fun w => only_T w (⟨2, ⟨#[]⟩, readV t⟩) true
      have kv := fun w => refvalid_T w (⟨2, ⟨#[]⟩, readV t⟩) hmx
      rw [hvo] at kv
      dsimp only at ko kv
      simp only [if_true] at ko
      go_region_held3 (fun W => W.cell? ⟨w1.heap.size, 0, none⟩ = some (.int .i64 2) ∧ W.cell? ⟨w1.heap.size, 1, none⟩ = some (.string ⟨#[]⟩) ∧ W.cell? ⟨w1.heap.size, 2, none⟩ = some (.int .i64 (readV t)))
        (first | go_keep | assumption)
        (first
          | ((with_reducible refine (kv w2.drew).mono ?_); rintro e w5 ⟨rfl, hB5⟩; have hC5 : Below w2.heap.size w2 w5 := (Below.refl _ w2).drew.trans hB5; have hm5 := (Hmem.out w5 hC5).1)
          | ((with_reducible refine (ko w5).mono ?_); rintro e w6 ⟨rfl, hB6⟩; have hC6 : Below w2.heap.size w2 w6 := hC5.trans (hB6.mono hC5.size); have hm6 := (Hmem.out w6 hC6).1; have hz6 := S.zero_cells (Hmem.out w6 hC6).2)
          | fail "no arm")
      have hb6 := (Hmem.out w6 hC6).2
      have Hb6 := Lib.hid hb6
      have hD6 := hC2.trans (hC6.mono hC2.size)
      clear hb6
      go_wp2_with fail
      have hm := S.mem_sto w6 w.heap.size (⟨2, ⟨#[]⟩, readV t⟩) Hb6.out
      have hB7 := S.below_but hD6 (S.but_sto w6 w.heap.size (⟨2, ⟨#[]⟩, readV t⟩)) (Nat.le_refl _) hD6.size
      dsimp only at hm hB7
      generalize (((w6.setCell ⟨w.heap.size, 0, none⟩ _).setCell ⟨w.heap.size, 1, none⟩ _).setCell ⟨w.heap.size, 2, none⟩ _) = W at hm hB7 ⊢
      exact bodyPost_ret (v := .tuple #[.agg #[.int .i64 2, .string ⟨#[]⟩, .int .i64 (readV t)], .bool true]) (by simp [results, Tryd.results13, go_sem, hm]) rfl ⟨Hres.out.symm, hB7⟩

set_option maxRecDepth 100000 in
set_option maxHeartbeats 3200000 in
theorem refparse_low (w : World) (t : ByteArray) (hm : t.size ≤ 1000) (hw : wordB t = false) (hb : refB t = false) (h1 : 1 < t.size) (h2 : ((t[0].toNat : Nat) : Int) < 65) :
    Calls Tryd.prog 13 #[.string t] w fun e w' => e = .returned (.tuple #[.agg #[.int .i64 (parseV t).k, .string (parseV t).t, .int .i64 (parseV t).n], .bool (parseOk t)]) ∧ Below w.heap.size w w' := by
  have hB0 : Below w.heap.size w (w.alloc (.cells #[.int .i64 0, .string ⟨#[]⟩, .int .i64 0] 23)) := (Below.refl _ w).alloc (Nat.le_refl _) _
  have hb0 := heap_alloc_new w (.cells #[.int .i64 0, .string ⟨#[]⟩, .int .i64 0] 23)
  have hm2 : t.size ≤ maxLen := by unfold maxLen; omega
  have hmi : (t.size : Int) ≤ 1000 := by omega
  have f1 : ((1 : Int) < (t.size : Int)) = True := eq_true (by omega)
  have hpos : 0 < t.size := by omega
  have f2 : ((65 : Int) ≤ ((t[0].toNat : Nat) : Int)) = False := eq_false (by omega)
  clear h2
  go_enter Tryd.func13, Tryd.ntmps13
  go_wp2_with fail
  generalize (w.alloc (.cells #[.int .i64 0, .string ⟨#[]⟩, .int .i64 0] 23)) = W0 at hB0 hb0 ⊢
  refine (refword_T W0 t hm2).mono ?_
  rw [hw]
  rintro e w' ⟨rfl, rfl⟩
  go_wp2_with fail
  have hmx : (⟨2, ⟨#[]⟩, readV t⟩ : SymV).t.size ≤ maxLen := Nat.zero_le _
  have hS : refS t = ⟨2, ⟨#[]⟩, readV t⟩ := by unfold refS; rw [hb]; rw [if_neg (by simp)]
  have hO : refO t = (readOk t && validB (⟨2, ⟨#[]⟩, readV t⟩)) := by unfold refO; rw [hS, hb]; rw [if_neg (by simp)]
  have hyes : refO t = true → Ending.returned (.tuple #[.agg #[.int .i64 (parseV t).k, .string (parseV t).t, .int .i64 (parseV t).n], .bool (parseOk t)]) = Ending.returned (.tuple #[.agg #[.int .i64 2, .string ⟨#[]⟩, .int .i64 (readV t)], .bool true]) := fun h => by obtain ⟨g1, g2⟩ := ref_yes h; rw [g1, g2, hS]
  have hno : refO t = false → Ending.returned (.tuple #[.agg #[.int .i64 (parseV t).k, .string (parseV t).t, .int .i64 (parseV t).n], .bool (parseOk t)]) = Ending.returned (.tuple #[.agg #[.int .i64 0, .string ⟨#[]⟩, .int .i64 0], .bool false]) := fun h => by have g := ref_no hw h; rw [g, parse_no g]
  have Hyes := Lib.hid hyes
  have Hno := Lib.hid hno
  have HO := Lib.hid hO
  clear hyes hno hO hS hb
  refine (read_T W0 t (by omega)).mono ?_
  rintro e w1 ⟨rfl, hB1⟩
  have hb1 := (hB1.block _ (lt_of_block hb0)).trans hb0
  have hC1 := hB0.trans (hB1.mono hB0.size)
  have hBx : Below w1.heap.size w1 (w1.alloc (.cells #[.int .i64 2, .string ⟨#[]⟩, .int .i64 (readV t)] 23)) := (Below.refl _ w1).alloc (Nat.le_refl _) _
  have hbx := heap_alloc_new w1 (.cells #[.int .i64 2, .string ⟨#[]⟩, .int .i64 (readV t)] 23)
  have hb2 := (hBx.block _ (lt_of_block hb1)).trans hb1
  have hC2 := hC1.trans (hBx.mono hC1.size)
  have hlt1 := lt_of_block hb1
  have hne1 : ¬ w1.heap.size = w.heap.size := by omega
  have hne2 : ¬ w.heap.size = w1.heap.size := by omega
  clear hb0 hb1 hlt1
  go_wp2_with fail
  generalize (w1.alloc (.cells #[.int .i64 2, .string ⟨#[]⟩, .int .i64 (readV t)] 23)) = w2 at hBx hbx hb2 hC2 ⊢
  have hmem : ∀ W, Below w2.heap.size w2 W → (W.cell? ⟨w1.heap.size, 0, none⟩ = some (.int .i64 2) ∧ W.cell? ⟨w1.heap.size, 1, none⟩ = some (.string ⟨#[]⟩) ∧ W.cell? ⟨w1.heap.size, 2, none⟩ = some (.int .i64 (readV t))) ∧ W.heap[w.heap.size]? = some (.cells #[.int .i64 0, .string ⟨#[]⟩, .int .i64 0] 23 (0, 0)) := by
    intro W hB
    have e1 := (hB.block _ (lt_of_block hbx)).trans hbx
    exact ⟨by simp [World.cell?, e1], (hB.block _ (lt_of_block hb2)).trans hb2⟩
  have Hmem := Lib.hid hmem
  obtain ⟨⟨c0, c1, c2⟩, -⟩ := hmem _ (Below.refl _ _)
  clear hmem hbx hb2
  cases hro : readOk t
  · have Hres := Lib.hid (Hno.out (by rw [HO.out, hro]; rfl))
    obtain ⟨vo, hvo⟩ : ∃ b, validB (⟨2, ⟨#[]⟩, readV t⟩) = b := ⟨_, rfl⟩
    have ko := fun w => only_T w (⟨2, ⟨#[]⟩, readV t⟩) false
    have kv := fun w => refvalid_T w (⟨2, ⟨#[]⟩, readV t⟩) hmx
    rw [hvo] at kv
    dsimp only at ko kv
    simp only [Bool.false_eq_true, if_false] at ko
    go_region_with ((with_reducible refine (ko _).mono ?_); rintro e w6 ⟨rfl, hB6⟩; have hC6 : Below w2.heap.size w2 w6 := (Below.refl _ w2).drew.trans hB6; have hz6 := S.zero_cells (Hmem.out w6 hC6).2; have hm6 := (Hmem.out w6 hC6).1)
    all_goals
      have hb6 := (Hmem.out w6 hC6).2
      have Hb6 := Lib.hid hb6
      have hD6 := hC2.trans (hC6.mono hC2.size)
      clear hb6
      go_wp2_with fail
      have hm := S.mem_sto w6 w.heap.size (⟨0, ⟨#[]⟩, 0⟩) Hb6.out
      have hB7 := S.below_but hD6 (S.but_sto w6 w.heap.size (⟨0, ⟨#[]⟩, 0⟩)) (Nat.le_refl _) hD6.size
      dsimp only at hm hB7
      generalize (((w6.setCell ⟨w.heap.size, 0, none⟩ _).setCell ⟨w.heap.size, 1, none⟩ _).setCell ⟨w.heap.size, 2, none⟩ _) = W at hm hB7 ⊢
      exact bodyPost_ret (v := .tuple #[.agg #[.int .i64 0, .string ⟨#[]⟩, .int .i64 0], .bool false]) (by simp [results, Tryd.results13, go_sem, hm]) rfl ⟨Hres.out.symm, hB7⟩
  · cases hvo : validB (⟨2, ⟨#[]⟩, readV t⟩)
    · have Hres := Lib.hid (Hno.out (by rw [HO.out, hro, hvo]; rfl))
      have ko := fun w => only_T w (⟨2, ⟨#[]⟩, readV t⟩) false
      have kv := fun w => refvalid_T w (⟨2, ⟨#[]⟩, readV t⟩) hmx
      rw [hvo] at kv
      dsimp only at ko kv
      simp only [Bool.false_eq_true, if_false] at ko
      go_region_held3 (fun W => W.cell? ⟨w1.heap.size, 0, none⟩ = some (.int .i64 2) ∧ W.cell? ⟨w1.heap.size, 1, none⟩ = some (.string ⟨#[]⟩) ∧ W.cell? ⟨w1.heap.size, 2, none⟩ = some (.int .i64 (readV t)))
        (first | go_keep | assumption)
        (first
          | ((with_reducible refine (kv w2.drew).mono ?_); rintro e w5 ⟨rfl, hB5⟩; have hC5 : Below w2.heap.size w2 w5 := (Below.refl _ w2).drew.trans hB5; have hm5 := (Hmem.out w5 hC5).1)
          | ((with_reducible refine (ko w5).mono ?_); rintro e w6 ⟨rfl, hB6⟩; have hC6 : Below w2.heap.size w2 w6 := hC5.trans (hB6.mono hC5.size); have hm6 := (Hmem.out w6 hC6).1; have hz6 := S.zero_cells (Hmem.out w6 hC6).2)
          | fail "no arm")
      have hb6 := (Hmem.out w6 hC6).2
      have Hb6 := Lib.hid hb6
      have hD6 := hC2.trans (hC6.mono hC2.size)
      clear hb6
      go_wp2_with fail
      have hm := S.mem_sto w6 w.heap.size (⟨0, ⟨#[]⟩, 0⟩) Hb6.out
      have hB7 := S.below_but hD6 (S.but_sto w6 w.heap.size (⟨0, ⟨#[]⟩, 0⟩)) (Nat.le_refl _) hD6.size
      dsimp only at hm hB7
      generalize (((w6.setCell ⟨w.heap.size, 0, none⟩ _).setCell ⟨w.heap.size, 1, none⟩ _).setCell ⟨w.heap.size, 2, none⟩ _) = W at hm hB7 ⊢
      exact bodyPost_ret (v := .tuple #[.agg #[.int .i64 0, .string ⟨#[]⟩, .int .i64 0], .bool false]) (by simp [results, Tryd.results13, go_sem, hm]) rfl ⟨Hres.out.symm, hB7⟩
    · have Hres := Lib.hid (Hyes.out (by rw [HO.out, hro, hvo]; rfl))
      have ko := fun w => only_T w (⟨2, ⟨#[]⟩, readV t⟩) true
      have kv := fun w => refvalid_T w (⟨2, ⟨#[]⟩, readV t⟩) hmx
      rw [hvo] at kv
      dsimp only at ko kv
      simp only [if_true] at ko
      go_region_held3 (fun W => W.cell? ⟨w1.heap.size, 0, none⟩ = some (.int .i64 2) ∧ W.cell? ⟨w1.heap.size, 1, none⟩ = some (.string ⟨#[]⟩) ∧ W.cell? ⟨w1.heap.size, 2, none⟩ = some (.int .i64 (readV t)))
        (first | go_keep | assumption)
        (first
          | ((with_reducible refine (kv w2.drew).mono ?_); rintro e w5 ⟨rfl, hB5⟩; have hC5 : Below w2.heap.size w2 w5 := (Below.refl _ w2).drew.trans hB5; have hm5 := (Hmem.out w5 hC5).1)
          | ((with_reducible refine (ko w5).mono ?_); rintro e w6 ⟨rfl, hB6⟩; have hC6 : Below w2.heap.size w2 w6 := hC5.trans (hB6.mono hC5.size); have hm6 := (Hmem.out w6 hC6).1; have hz6 := S.zero_cells (Hmem.out w6 hC6).2)
          | fail "no arm")
      have hb6 := (Hmem.out w6 hC6).2
      have Hb6 := Lib.hid hb6
      have hD6 := hC2.trans (hC6.mono hC2.size)
      clear hb6
      go_wp2_with fail
      have hm := S.mem_sto w6 w.heap.size (⟨2, ⟨#[]⟩, readV t⟩) Hb6.out
      have hB7 := S.below_but hD6 (S.but_sto w6 w.heap.size (⟨2, ⟨#[]⟩, readV t⟩)) (Nat.le_refl _) hD6.size
      dsimp only at hm hB7
      generalize (((w6.setCell ⟨w.heap.size, 0, none⟩ _).setCell ⟨w.heap.size, 1, none⟩ _).setCell ⟨w.heap.size, 2, none⟩ _) = W at hm hB7 ⊢
      exact bodyPost_ret (v := .tuple #[.agg #[.int .i64 2, .string ⟨#[]⟩, .int .i64 (readV t)], .bool true]) (by simp [results, Tryd.results13, go_sem, hm]) rfl ⟨Hres.out.symm, hB7⟩

set_option maxRecDepth 100000 in
set_option maxHeartbeats 3200000 in
theorem refparse_high (w : World) (t : ByteArray) (hm : t.size ≤ 1000) (hw : wordB t = false) (hb : refB t = false) (h1 : 1 < t.size) (h2 : 90 < ((t[0].toNat : Nat) : Int)) :
    Calls Tryd.prog 13 #[.string t] w fun e w' => e = .returned (.tuple #[.agg #[.int .i64 (parseV t).k, .string (parseV t).t, .int .i64 (parseV t).n], .bool (parseOk t)]) ∧ Below w.heap.size w w' := by
  have hB0 : Below w.heap.size w (w.alloc (.cells #[.int .i64 0, .string ⟨#[]⟩, .int .i64 0] 23)) := (Below.refl _ w).alloc (Nat.le_refl _) _
  have hb0 := heap_alloc_new w (.cells #[.int .i64 0, .string ⟨#[]⟩, .int .i64 0] 23)
  have hm2 : t.size ≤ maxLen := by unfold maxLen; omega
  have hmi : (t.size : Int) ≤ 1000 := by omega
  have f1 : ((1 : Int) < (t.size : Int)) = True := eq_true (by omega)
  have hpos : 0 < t.size := by omega
  have f2 : ((65 : Int) ≤ ((t[0].toNat : Nat) : Int)) = True := eq_true (by omega)
  have f3 : (((t[0].toNat : Nat) : Int) ≤ 90) = False := eq_false (by omega)
  clear h2
  go_enter Tryd.func13, Tryd.ntmps13
  go_wp2_with fail
  generalize (w.alloc (.cells #[.int .i64 0, .string ⟨#[]⟩, .int .i64 0] 23)) = W0 at hB0 hb0 ⊢
  refine (refword_T W0 t hm2).mono ?_
  rw [hw]
  rintro e w' ⟨rfl, rfl⟩
  go_wp2_with fail
  have hmx : (⟨2, ⟨#[]⟩, readV t⟩ : SymV).t.size ≤ maxLen := Nat.zero_le _
  have hS : refS t = ⟨2, ⟨#[]⟩, readV t⟩ := by unfold refS; rw [hb]; rw [if_neg (by simp)]
  have hO : refO t = (readOk t && validB (⟨2, ⟨#[]⟩, readV t⟩)) := by unfold refO; rw [hS, hb]; rw [if_neg (by simp)]
  have hyes : refO t = true → Ending.returned (.tuple #[.agg #[.int .i64 (parseV t).k, .string (parseV t).t, .int .i64 (parseV t).n], .bool (parseOk t)]) = Ending.returned (.tuple #[.agg #[.int .i64 2, .string ⟨#[]⟩, .int .i64 (readV t)], .bool true]) := fun h => by obtain ⟨g1, g2⟩ := ref_yes h; rw [g1, g2, hS]
  have hno : refO t = false → Ending.returned (.tuple #[.agg #[.int .i64 (parseV t).k, .string (parseV t).t, .int .i64 (parseV t).n], .bool (parseOk t)]) = Ending.returned (.tuple #[.agg #[.int .i64 0, .string ⟨#[]⟩, .int .i64 0], .bool false]) := fun h => by have g := ref_no hw h; rw [g, parse_no g]
  have Hyes := Lib.hid hyes
  have Hno := Lib.hid hno
  have HO := Lib.hid hO
  clear hyes hno hO hS hb
  refine (read_T W0 t (by omega)).mono ?_
  rintro e w1 ⟨rfl, hB1⟩
  have hb1 := (hB1.block _ (lt_of_block hb0)).trans hb0
  have hC1 := hB0.trans (hB1.mono hB0.size)
  have hBx : Below w1.heap.size w1 (w1.alloc (.cells #[.int .i64 2, .string ⟨#[]⟩, .int .i64 (readV t)] 23)) := (Below.refl _ w1).alloc (Nat.le_refl _) _
  have hbx := heap_alloc_new w1 (.cells #[.int .i64 2, .string ⟨#[]⟩, .int .i64 (readV t)] 23)
  have hb2 := (hBx.block _ (lt_of_block hb1)).trans hb1
  have hC2 := hC1.trans (hBx.mono hC1.size)
  have hlt1 := lt_of_block hb1
  have hne1 : ¬ w1.heap.size = w.heap.size := by omega
  have hne2 : ¬ w.heap.size = w1.heap.size := by omega
  clear hb0 hb1 hlt1
  go_wp2_with fail
  generalize (w1.alloc (.cells #[.int .i64 2, .string ⟨#[]⟩, .int .i64 (readV t)] 23)) = w2 at hBx hbx hb2 hC2 ⊢
  have hmem : ∀ W, Below w2.heap.size w2 W → (W.cell? ⟨w1.heap.size, 0, none⟩ = some (.int .i64 2) ∧ W.cell? ⟨w1.heap.size, 1, none⟩ = some (.string ⟨#[]⟩) ∧ W.cell? ⟨w1.heap.size, 2, none⟩ = some (.int .i64 (readV t))) ∧ W.heap[w.heap.size]? = some (.cells #[.int .i64 0, .string ⟨#[]⟩, .int .i64 0] 23 (0, 0)) := by
    intro W hB
    have e1 := (hB.block _ (lt_of_block hbx)).trans hbx
    exact ⟨by simp [World.cell?, e1], (hB.block _ (lt_of_block hb2)).trans hb2⟩
  have Hmem := Lib.hid hmem
  obtain ⟨⟨c0, c1, c2⟩, -⟩ := hmem _ (Below.refl _ _)
  clear hmem hbx hb2
  cases hro : readOk t
  · have Hres := Lib.hid (Hno.out (by rw [HO.out, hro]; rfl))
    obtain ⟨vo, hvo⟩ : ∃ b, validB (⟨2, ⟨#[]⟩, readV t⟩) = b := ⟨_, rfl⟩
    have ko := fun w => only_T w (⟨2, ⟨#[]⟩, readV t⟩) false
    have kv := fun w => refvalid_T w (⟨2, ⟨#[]⟩, readV t⟩) hmx
    rw [hvo] at kv
    dsimp only at ko kv
    simp only [Bool.false_eq_true, if_false] at ko
    go_region_with ((with_reducible refine (ko _).mono ?_); rintro e w6 ⟨rfl, hB6⟩; have hC6 : Below w2.heap.size w2 w6 := (Below.refl _ w2).drew.trans hB6; have hz6 := S.zero_cells (Hmem.out w6 hC6).2; have hm6 := (Hmem.out w6 hC6).1)
    all_goals
      have hb6 := (Hmem.out w6 hC6).2
      have Hb6 := Lib.hid hb6
      have hD6 := hC2.trans (hC6.mono hC2.size)
      clear hb6
      go_wp2_with fail
      have hm := S.mem_sto w6 w.heap.size (⟨0, ⟨#[]⟩, 0⟩) Hb6.out
      have hB7 := S.below_but hD6 (S.but_sto w6 w.heap.size (⟨0, ⟨#[]⟩, 0⟩)) (Nat.le_refl _) hD6.size
      dsimp only at hm hB7
      generalize (((w6.setCell ⟨w.heap.size, 0, none⟩ _).setCell ⟨w.heap.size, 1, none⟩ _).setCell ⟨w.heap.size, 2, none⟩ _) = W at hm hB7 ⊢
      exact bodyPost_ret (v := .tuple #[.agg #[.int .i64 0, .string ⟨#[]⟩, .int .i64 0], .bool false]) (by simp [results, Tryd.results13, go_sem, hm]) rfl ⟨Hres.out.symm, hB7⟩
  · cases hvo : validB (⟨2, ⟨#[]⟩, readV t⟩)
    · have Hres := Lib.hid (Hno.out (by rw [HO.out, hro, hvo]; rfl))
      have ko := fun w => only_T w (⟨2, ⟨#[]⟩, readV t⟩) false
      have kv := fun w => refvalid_T w (⟨2, ⟨#[]⟩, readV t⟩) hmx
      rw [hvo] at kv
      dsimp only at ko kv
      simp only [Bool.false_eq_true, if_false] at ko
      go_region_held3 (fun W => W.cell? ⟨w1.heap.size, 0, none⟩ = some (.int .i64 2) ∧ W.cell? ⟨w1.heap.size, 1, none⟩ = some (.string ⟨#[]⟩) ∧ W.cell? ⟨w1.heap.size, 2, none⟩ = some (.int .i64 (readV t)))
        (first | go_keep | assumption)
        (first
          | ((with_reducible refine (kv w2.drew).mono ?_); rintro e w5 ⟨rfl, hB5⟩; have hC5 : Below w2.heap.size w2 w5 := (Below.refl _ w2).drew.trans hB5; have hm5 := (Hmem.out w5 hC5).1)
          | ((with_reducible refine (ko w5).mono ?_); rintro e w6 ⟨rfl, hB6⟩; have hC6 : Below w2.heap.size w2 w6 := hC5.trans (hB6.mono hC5.size); have hm6 := (Hmem.out w6 hC6).1; have hz6 := S.zero_cells (Hmem.out w6 hC6).2)
          | fail "no arm")
      have hb6 := (Hmem.out w6 hC6).2
      have Hb6 := Lib.hid hb6
      have hD6 := hC2.trans (hC6.mono hC2.size)
      clear hb6
      go_wp2_with fail
      have hm := S.mem_sto w6 w.heap.size (⟨0, ⟨#[]⟩, 0⟩) Hb6.out
      have hB7 := S.below_but hD6 (S.but_sto w6 w.heap.size (⟨0, ⟨#[]⟩, 0⟩)) (Nat.le_refl _) hD6.size
      dsimp only at hm hB7
      generalize (((w6.setCell ⟨w.heap.size, 0, none⟩ _).setCell ⟨w.heap.size, 1, none⟩ _).setCell ⟨w.heap.size, 2, none⟩ _) = W at hm hB7 ⊢
      exact bodyPost_ret (v := .tuple #[.agg #[.int .i64 0, .string ⟨#[]⟩, .int .i64 0], .bool false]) (by simp [results, Tryd.results13, go_sem, hm]) rfl ⟨Hres.out.symm, hB7⟩
    · have Hres := Lib.hid (Hyes.out (by rw [HO.out, hro, hvo]; rfl))
      have ko := fun w => only_T w (⟨2, ⟨#[]⟩, readV t⟩) true
      have kv := fun w => refvalid_T w (⟨2, ⟨#[]⟩, readV t⟩) hmx
      rw [hvo] at kv
      dsimp only at ko kv
      simp only [if_true] at ko
      go_region_held3 (fun W => W.cell? ⟨w1.heap.size, 0, none⟩ = some (.int .i64 2) ∧ W.cell? ⟨w1.heap.size, 1, none⟩ = some (.string ⟨#[]⟩) ∧ W.cell? ⟨w1.heap.size, 2, none⟩ = some (.int .i64 (readV t)))
        (first | go_keep | assumption)
        (first
          | ((with_reducible refine (kv w2.drew).mono ?_); rintro e w5 ⟨rfl, hB5⟩; have hC5 : Below w2.heap.size w2 w5 := (Below.refl _ w2).drew.trans hB5; have hm5 := (Hmem.out w5 hC5).1)
          | ((with_reducible refine (ko w5).mono ?_); rintro e w6 ⟨rfl, hB6⟩; have hC6 : Below w2.heap.size w2 w6 := hC5.trans (hB6.mono hC5.size); have hm6 := (Hmem.out w6 hC6).1; have hz6 := S.zero_cells (Hmem.out w6 hC6).2)
          | fail "no arm")
      have hb6 := (Hmem.out w6 hC6).2
      have Hb6 := Lib.hid hb6
      have hD6 := hC2.trans (hC6.mono hC2.size)
      clear hb6
      go_wp2_with fail
      have hm := S.mem_sto w6 w.heap.size (⟨2, ⟨#[]⟩, readV t⟩) Hb6.out
      have hB7 := S.below_but hD6 (S.but_sto w6 w.heap.size (⟨2, ⟨#[]⟩, readV t⟩)) (Nat.le_refl _) hD6.size
      dsimp only at hm hB7
      generalize (((w6.setCell ⟨w.heap.size, 0, none⟩ _).setCell ⟨w.heap.size, 1, none⟩ _).setCell ⟨w.heap.size, 2, none⟩ _) = W at hm hB7 ⊢
      exact bodyPost_ret (v := .tuple #[.agg #[.int .i64 2, .string ⟨#[]⟩, .int .i64 (readV t)], .bool true]) (by simp [results, Tryd.results13, go_sem, hm]) rfl ⟨Hres.out.symm, hB7⟩

set_option maxRecDepth 100000 in
set_option maxHeartbeats 3200000 in
theorem refparse_minus (w : World) (t : ByteArray) (hm : t.size ≤ 1000) (hw : wordB t = false) (hb : refB t = false) (h1 : 1 < t.size) (h2 : 65 ≤ ((t[0].toNat : Nat) : Int)) (h3 : ((t[0].toNat : Nat) : Int) ≤ 90) (h4 : ((t[1].toNat : Nat) : Int) = 45) :
    Calls Tryd.prog 13 #[.string t] w fun e w' => e = .returned (.tuple #[.agg #[.int .i64 (parseV t).k, .string (parseV t).t, .int .i64 (parseV t).n], .bool (parseOk t)]) ∧ Below w.heap.size w w' := by
  have hB0 : Below w.heap.size w (w.alloc (.cells #[.int .i64 0, .string ⟨#[]⟩, .int .i64 0] 23)) := (Below.refl _ w).alloc (Nat.le_refl _) _
  have hb0 := heap_alloc_new w (.cells #[.int .i64 0, .string ⟨#[]⟩, .int .i64 0] 23)
  have hm2 : t.size ≤ maxLen := by unfold maxLen; omega
  have hmi : (t.size : Int) ≤ 1000 := by omega
  have f1 : ((1 : Int) < (t.size : Int)) = True := eq_true (by omega)
  have hpos : 0 < t.size := by omega
  have f2 : ((65 : Int) ≤ ((t[0].toNat : Nat) : Int)) = True := eq_true h2
  have f3 : (((t[0].toNat : Nat) : Int) ≤ 90) = True := eq_true h3
  have f4 : (((t[1].toNat : Nat) : Int) != 45) = false := by simp [h4]
  have f5 : (((t[1].toNat : Nat) : Int) == 45) = true := by simp [h4]
  clear h2 h3 h4
  go_enter Tryd.func13, Tryd.ntmps13
  go_wp2_with fail
  generalize (w.alloc (.cells #[.int .i64 0, .string ⟨#[]⟩, .int .i64 0] 23)) = W0 at hB0 hb0 ⊢
  refine (refword_T W0 t hm2).mono ?_
  rw [hw]
  rintro e w' ⟨rfl, rfl⟩
  go_wp2_with fail
  have hmx : (⟨2, ⟨#[]⟩, readV t⟩ : SymV).t.size ≤ maxLen := Nat.zero_le _
  have hS : refS t = ⟨2, ⟨#[]⟩, readV t⟩ := by unfold refS; rw [hb]; rw [if_neg (by simp)]
  have hO : refO t = (readOk t && validB (⟨2, ⟨#[]⟩, readV t⟩)) := by unfold refO; rw [hS, hb]; rw [if_neg (by simp)]
  have hyes : refO t = true → Ending.returned (.tuple #[.agg #[.int .i64 (parseV t).k, .string (parseV t).t, .int .i64 (parseV t).n], .bool (parseOk t)]) = Ending.returned (.tuple #[.agg #[.int .i64 2, .string ⟨#[]⟩, .int .i64 (readV t)], .bool true]) := fun h => by obtain ⟨g1, g2⟩ := ref_yes h; rw [g1, g2, hS]
  have hno : refO t = false → Ending.returned (.tuple #[.agg #[.int .i64 (parseV t).k, .string (parseV t).t, .int .i64 (parseV t).n], .bool (parseOk t)]) = Ending.returned (.tuple #[.agg #[.int .i64 0, .string ⟨#[]⟩, .int .i64 0], .bool false]) := fun h => by have g := ref_no hw h; rw [g, parse_no g]
  have Hyes := Lib.hid hyes
  have Hno := Lib.hid hno
  have HO := Lib.hid hO
  clear hyes hno hO hS hb
  refine (read_T W0 t (by omega)).mono ?_
  rintro e w1 ⟨rfl, hB1⟩
  have hb1 := (hB1.block _ (lt_of_block hb0)).trans hb0
  have hC1 := hB0.trans (hB1.mono hB0.size)
  have hBx : Below w1.heap.size w1 (w1.alloc (.cells #[.int .i64 2, .string ⟨#[]⟩, .int .i64 (readV t)] 23)) := (Below.refl _ w1).alloc (Nat.le_refl _) _
  have hbx := heap_alloc_new w1 (.cells #[.int .i64 2, .string ⟨#[]⟩, .int .i64 (readV t)] 23)
  have hb2 := (hBx.block _ (lt_of_block hb1)).trans hb1
  have hC2 := hC1.trans (hBx.mono hC1.size)
  have hlt1 := lt_of_block hb1
  have hne1 : ¬ w1.heap.size = w.heap.size := by omega
  have hne2 : ¬ w.heap.size = w1.heap.size := by omega
  clear hb0 hb1 hlt1
  go_wp2_with fail
  generalize (w1.alloc (.cells #[.int .i64 2, .string ⟨#[]⟩, .int .i64 (readV t)] 23)) = w2 at hBx hbx hb2 hC2 ⊢
  have hmem : ∀ W, Below w2.heap.size w2 W → (W.cell? ⟨w1.heap.size, 0, none⟩ = some (.int .i64 2) ∧ W.cell? ⟨w1.heap.size, 1, none⟩ = some (.string ⟨#[]⟩) ∧ W.cell? ⟨w1.heap.size, 2, none⟩ = some (.int .i64 (readV t))) ∧ W.heap[w.heap.size]? = some (.cells #[.int .i64 0, .string ⟨#[]⟩, .int .i64 0] 23 (0, 0)) := by
    intro W hB
    have e1 := (hB.block _ (lt_of_block hbx)).trans hbx
    exact ⟨by simp [World.cell?, e1], (hB.block _ (lt_of_block hb2)).trans hb2⟩
  have Hmem := Lib.hid hmem
  obtain ⟨⟨c0, c1, c2⟩, -⟩ := hmem _ (Below.refl _ _)
  clear hmem hbx hb2
  cases hro : readOk t
  · have Hres := Lib.hid (Hno.out (by rw [HO.out, hro]; rfl))
    obtain ⟨vo, hvo⟩ : ∃ b, validB (⟨2, ⟨#[]⟩, readV t⟩) = b := ⟨_, rfl⟩
    have ko := fun w => only_T w (⟨2, ⟨#[]⟩, readV t⟩) false
    have kv := fun w => refvalid_T w (⟨2, ⟨#[]⟩, readV t⟩) hmx
    rw [hvo] at kv
    dsimp only at ko kv
    simp only [Bool.false_eq_true, if_false] at ko
    go_region_with ((with_reducible refine (ko _).mono ?_); rintro e w6 ⟨rfl, hB6⟩; have hC6 : Below w2.heap.size w2 w6 := (Below.refl _ w2).drew.trans hB6; have hz6 := S.zero_cells (Hmem.out w6 hC6).2; have hm6 := (Hmem.out w6 hC6).1)
    all_goals
      have hb6 := (Hmem.out w6 hC6).2
      have Hb6 := Lib.hid hb6
      have hD6 := hC2.trans (hC6.mono hC2.size)
      clear hb6
      go_wp2_with fail
      have hm := S.mem_sto w6 w.heap.size (⟨0, ⟨#[]⟩, 0⟩) Hb6.out
      have hB7 := S.below_but hD6 (S.but_sto w6 w.heap.size (⟨0, ⟨#[]⟩, 0⟩)) (Nat.le_refl _) hD6.size
      dsimp only at hm hB7
      generalize (((w6.setCell ⟨w.heap.size, 0, none⟩ _).setCell ⟨w.heap.size, 1, none⟩ _).setCell ⟨w.heap.size, 2, none⟩ _) = W at hm hB7 ⊢
      exact bodyPost_ret (v := .tuple #[.agg #[.int .i64 0, .string ⟨#[]⟩, .int .i64 0], .bool false]) (by simp [results, Tryd.results13, go_sem, hm]) rfl ⟨Hres.out.symm, hB7⟩
  · cases hvo : validB (⟨2, ⟨#[]⟩, readV t⟩)
    · have Hres := Lib.hid (Hno.out (by rw [HO.out, hro, hvo]; rfl))
      have ko := fun w => only_T w (⟨2, ⟨#[]⟩, readV t⟩) false
      have kv := fun w => refvalid_T w (⟨2, ⟨#[]⟩, readV t⟩) hmx
      rw [hvo] at kv
      dsimp only at ko kv
      simp only [Bool.false_eq_true, if_false] at ko
      go_region_held3 (fun W => W.cell? ⟨w1.heap.size, 0, none⟩ = some (.int .i64 2) ∧ W.cell? ⟨w1.heap.size, 1, none⟩ = some (.string ⟨#[]⟩) ∧ W.cell? ⟨w1.heap.size, 2, none⟩ = some (.int .i64 (readV t)))
        (first | go_keep | assumption)
        (first
          | ((with_reducible refine (kv w2.drew).mono ?_); rintro e w5 ⟨rfl, hB5⟩; have hC5 : Below w2.heap.size w2 w5 := (Below.refl _ w2).drew.trans hB5; have hm5 := (Hmem.out w5 hC5).1)
          | ((with_reducible refine (ko w5).mono ?_); rintro e w6 ⟨rfl, hB6⟩; have hC6 : Below w2.heap.size w2 w6 := hC5.trans (hB6.mono hC5.size); have hm6 := (Hmem.out w6 hC6).1; have hz6 := S.zero_cells (Hmem.out w6 hC6).2)
          | fail "no arm")
      have hb6 := (Hmem.out w6 hC6).2
      have Hb6 := Lib.hid hb6
      have hD6 := hC2.trans (hC6.mono hC2.size)
      clear hb6
      go_wp2_with fail
      have hm := S.mem_sto w6 w.heap.size (⟨0, ⟨#[]⟩, 0⟩) Hb6.out
      have hB7 := S.below_but hD6 (S.but_sto w6 w.heap.size (⟨0, ⟨#[]⟩, 0⟩)) (Nat.le_refl _) hD6.size
      dsimp only at hm hB7
      generalize (((w6.setCell ⟨w.heap.size, 0, none⟩ _).setCell ⟨w.heap.size, 1, none⟩ _).setCell ⟨w.heap.size, 2, none⟩ _) = W at hm hB7 ⊢
      exact bodyPost_ret (v := .tuple #[.agg #[.int .i64 0, .string ⟨#[]⟩, .int .i64 0], .bool false]) (by simp [results, Tryd.results13, go_sem, hm]) rfl ⟨Hres.out.symm, hB7⟩
    · have Hres := Lib.hid (Hyes.out (by rw [HO.out, hro, hvo]; rfl))
      have ko := fun w => only_T w (⟨2, ⟨#[]⟩, readV t⟩) true
      have kv := fun w => refvalid_T w (⟨2, ⟨#[]⟩, readV t⟩) hmx
      rw [hvo] at kv
      dsimp only at ko kv
      simp only [if_true] at ko
      go_region_held3 (fun W => W.cell? ⟨w1.heap.size, 0, none⟩ = some (.int .i64 2) ∧ W.cell? ⟨w1.heap.size, 1, none⟩ = some (.string ⟨#[]⟩) ∧ W.cell? ⟨w1.heap.size, 2, none⟩ = some (.int .i64 (readV t)))
        (first | go_keep | assumption)
        (first
          | ((with_reducible refine (kv w2.drew).mono ?_); rintro e w5 ⟨rfl, hB5⟩; have hC5 : Below w2.heap.size w2 w5 := (Below.refl _ w2).drew.trans hB5; have hm5 := (Hmem.out w5 hC5).1)
          | ((with_reducible refine (ko w5).mono ?_); rintro e w6 ⟨rfl, hB6⟩; have hC6 : Below w2.heap.size w2 w6 := hC5.trans (hB6.mono hC5.size); have hm6 := (Hmem.out w6 hC6).1; have hz6 := S.zero_cells (Hmem.out w6 hC6).2)
          | fail "no arm")
      have hb6 := (Hmem.out w6 hC6).2
      have Hb6 := Lib.hid hb6
      have hD6 := hC2.trans (hC6.mono hC2.size)
      clear hb6
      go_wp2_with fail
      have hm := S.mem_sto w6 w.heap.size (⟨2, ⟨#[]⟩, readV t⟩) Hb6.out
      have hB7 := S.below_but hD6 (S.but_sto w6 w.heap.size (⟨2, ⟨#[]⟩, readV t⟩)) (Nat.le_refl _) hD6.size
      dsimp only at hm hB7
      generalize (((w6.setCell ⟨w.heap.size, 0, none⟩ _).setCell ⟨w.heap.size, 1, none⟩ _).setCell ⟨w.heap.size, 2, none⟩ _) = W at hm hB7 ⊢
      exact bodyPost_ret (v := .tuple #[.agg #[.int .i64 2, .string ⟨#[]⟩, .int .i64 (readV t)], .bool true]) (by simp [results, Tryd.results13, go_sem, hm]) rfl ⟨Hres.out.symm, hB7⟩

theorem refparse_T (w : World) (t : ByteArray) (hm : t.size ≤ 1000) :
    Calls Tryd.prog 13 #[.string t] w fun e w' => e = .returned (.tuple #[.agg #[.int .i64 (parseV t).k, .string (parseV t).t, .int .i64 (parseV t).n], .bool (parseOk t)]) ∧ Below w.heap.size w w' := by
  cases hw : wordB t
  · cases hb : refB t
    · by_cases h1 : 1 < t.size
      · by_cases h2 : ((t[0].toNat : Nat) : Int) < 65
        · exact refparse_low w t hm hw hb h1 h2
        · by_cases h3 : 90 < ((t[0].toNat : Nat) : Int)
          · exact refparse_high w t hm hw hb h1 h3
          · refine refparse_minus w t hm hw hb h1 (by omega) (by omega) ?_
            have hbb := hb
            simp only [refB, capI, hd_pos (show 0 < t.size by omega), hd1, dif_pos h1] at hbb
            simp at hbb
            omega
      · exact refparse_short w t hm hw hb (by omega)
    · exact refparse_B w t hm hw hb
  · exact refparse_word w t hm hw

end Go.Proofs.YtimeamehmefgnaaDoor
