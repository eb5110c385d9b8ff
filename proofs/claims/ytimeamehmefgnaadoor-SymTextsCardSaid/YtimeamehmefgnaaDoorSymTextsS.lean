/- SymTexts returns true, whatever it is given. Conditions: strconv's table of powers and its two errors lie as the program lays them. -/
import Derived.Test.YtimeamehmefgnaaDoorWakesSS
import Derived.Test.YtimeamehmefgnaaDoorSyRefS
namespace Go.Proofs.YtimeamehmefgnaaDoor
open Go Go.RowKit

set_option maxHeartbeats 3200000 in
theorem symtexts_short (w : World) (x : SymV) (hs : x.t.size ≤ 200) (hE : Env w) : Calls Tryd.prog 3 #[.agg #[.int .i64 x.k, .string x.t, .int .i64 x.n]] w fun e w' => e = .returned (.bool true) ∧ Below w.heap.size w w' := by
  have hB0 := box1_S w x
  have hb0 := heap_alloc_new w (.cells #[.int .i64 x.k, .string x.t, .int .i64 x.n] 23)
  have f1 : ((200 : Int) < (x.t.size : Int)) = False := eq_false (by omega)
  have hm1 : x.t.size ≤ maxLen := by unfold maxLen; omega
  have hm2 : x.t.size ≤ maxLen - 100 := by unfold maxLen; omega
  have Hs := Lib.hid hs
  clear hs
  obtain ⟨vb, hvb⟩ : ∃ b, validB x = b := ⟨_, rfl⟩
  obtain ⟨tx, htx⟩ : ∃ t, textB x = t := ⟨_, rfl⟩
  have k1 := fun w => valid_T w x hm1
  have k2 := fun w => refvalid_T w x hm1
  have k3 := fun w => text_T w x hm2
  have k4 := fun w => reftext_T w x hm2
  rw [hvb] at k1 k2
  rw [htx] at k3 k4
  clear hvb htx
  go_enter Tryd.func3, Tryd.ntmps3
  go_wp2_with fail
  generalize (w.alloc (.cells #[.int .i64 x.k, .string x.t, .int .i64 x.n] 23)) = W0 at hB0 hb0 ⊢
  have hmem : ∀ W, Below W0.heap.size W0 W → (W.cell? ⟨w.heap.size, 0, none⟩ = some (.int .i64 x.k) ∧ W.cell? ⟨w.heap.size, 1, none⟩ = some (.string x.t) ∧ W.cell? ⟨w.heap.size, 2, none⟩ = some (.int .i64 x.n)) := by
    intro W hB
    have := (hB.block _ (lt_of_block hb0)).trans hb0
    simp [World.cell?, this]
  have Hmem := Lib.hid hmem
  have c0 := hmem _ (Below.refl _ _)
  clear hmem hb0
  obtain ⟨c0, c1, c2⟩ := c0
  have hE0 := hE.below hB0
  cases vb
  all_goals
    go_region_held3 (fun W => (W.cell? ⟨w.heap.size, 0, none⟩ = some (.int .i64 x.k) ∧ W.cell? ⟨w.heap.size, 1, none⟩ = some (.string x.t) ∧ W.cell? ⟨w.heap.size, 2, none⟩ = some (.int .i64 x.n)))
      (first | go_keep | assumption)
      (first
        | ((with_reducible refine (k1 W0.drew).mono ?_); rintro e w1 ⟨rfl, hB1⟩; have hC1 : Below W0.heap.size W0 w1 := (Below.refl _ W0).drew.trans hB1; have hm1 := Hmem.out w1 hC1)
        | ((with_reducible refine (k2 w1).mono ?_); rintro e w2 ⟨rfl, hB2⟩; have hC2 := hC1.trans (hB2.mono hC1.size); have hm2 := Hmem.out w2 hC2; have hE2 := hE0.below hC2)
        | ((with_reducible refine (k3 w2 hE2).mono ?_); rintro e w3 ⟨rfl, hB3⟩; have hC3 := hC2.trans (hB3.mono hC2.size); have hm3 := Hmem.out w3 hC3)
        | ((with_reducible refine (k4 w3).mono ?_); rintro e w4 ⟨rfl, hB4⟩; have hC4 := hC3.trans (hB4.mono hC3.size); have hm4 := Hmem.out w4 hC4; have hE4 := hE0.below hC4)
        | ((with_reducible refine (wakes_T w4 hE4).mono ?_); rintro e w5 ⟨rfl, hB5⟩; have hC5 := hC4.trans (hB5.mono hC4.size); have hm5 := Hmem.out w5 hC5)
        | fail "no arm")
    go_wp2_with fail
    go_ret
    exact ⟨rfl, hB0.trans (hC5.mono hB0.size)⟩

theorem symtexts_walk (w : World) (x : SymV) (hE : Env w) : Calls Tryd.prog 3 #[.agg #[.int .i64 x.k, .string x.t, .int .i64 x.n]] w fun e w' => e = .returned (.bool true) ∧ Below w.heap.size w w' := by
  by_cases hs : x.t.size ≤ 200
  · exact symtexts_short w x hs hE
  · have hB0 := box1_S w x
    have f1 : ((200 : Int) < (x.t.size : Int)) = True := eq_true (by omega)
    clear hs
    go_enter Tryd.func3, Tryd.ntmps3
    go_wp2_with fail
    generalize (w.alloc (.cells #[.int .i64 x.k, .string x.t, .int .i64 x.n] 23)) = W0 at hB0 ⊢
    refine (wakes_T W0 (hE.below hB0)).mono ?_
    rintro e w1 ⟨rfl, hB1⟩
    go_wp2_with fail
    go_ret
    exact ⟨rfl, hB0.trans (hB1.mono hB0.size)⟩

end Go.Proofs.YtimeamehmefgnaaDoor
