/- What First answers of a map that is empty. Conditions: none. -/
import Derived.Test.YtbpibbcehfkeeaaMapOpsE
import Derived.Test.YtbpibbcehfkeeaaNoneSE
namespace Go.Proofs.Ytbpibbcehfkeeaa.E
open Go Go.RowKit

set_option pp.deepTerms true
set_option pp.maxSteps 1000000
set_option maxHeartbeats 2000000 in
theorem mapfirst_none_T (w : World) (m s : Nat) (h : MapAt w m s []) :
    Calls Try.prog 19 #[.pointer (some ⟨m, 0, none⟩)] w fun e w' => e = .returned (.tuple #[.agg #[.int .i64 0, .string ⟨#[]⟩, .int .i64 0], .int .i64 0, .bool false]) ∧ Below w.heap.size w w' := by
  have hBz : Below w.heap.size w (w.alloc (.cells #[.int .i64 0, .string ⟨#[]⟩, .int .i64 0] 26)) := (Below.refl _ w).alloc (Nat.le_refl _) _
  have h0 := h.below hBz
  have hc := cell_of_one h0.1
  have hzb := heap_alloc_new w (.cells #[.int .i64 0, .string ⟨#[]⟩, .int .i64 0] 26)
  go_enter Try.func19, Try.ntmps19
  go_wp2_with fail
  refine (at_no_T _ s [] 0 h0.2 (by simp) (.inr (by simp))).mono ?_
  rintro e w1 ⟨rfl, hB1⟩
  have hC1 := hBz.trans (hB1.mono hBz.size)
  have hBy : Below w1.heap.size w1 (w1.alloc (.cells #[.int .i64 0, .string ⟨#[]⟩, .int .i64 0, .int .i64 0] 93)) := (Below.refl _ w1).alloc (Nat.le_refl _) _
  have hyb := heap_alloc_new w1 (.cells #[.int .i64 0, .string ⟨#[]⟩, .int .i64 0, .int .i64 0] 93)
  have hz1 := (hB1.block _ (lt_of_block hzb)).trans hzb
  have hz2 : (w1.alloc (.cells #[.int .i64 0, .string ⟨#[]⟩, .int .i64 0, .int .i64 0] 93)).heap[w.heap.size]? = some (.cells #[.int .i64 0, .string ⟨#[]⟩, .int .i64 0] 26 (0, 0)) := (hBy.block _ (lt_of_block hz1)).trans hz1
  have hC2 := hC1.trans (hBy.mono hC1.size)
  have hlt := lt_of_block hz1
  have hne : ¬ w1.heap.size = w.heap.size := by omega
  have hne2 : ¬ w.heap.size = w1.heap.size := by omega
  have hmy : (w1.alloc (.cells #[.int .i64 0, .string ⟨#[]⟩, .int .i64 0, .int .i64 0] 93)).cell? ⟨w1.heap.size, 0, none⟩ = some (.int .i64 0) ∧ (w1.alloc (.cells #[.int .i64 0, .string ⟨#[]⟩, .int .i64 0, .int .i64 0] 93)).cell? ⟨w1.heap.size, 1, none⟩ = some (.string ⟨#[]⟩) ∧ (w1.alloc (.cells #[.int .i64 0, .string ⟨#[]⟩, .int .i64 0, .int .i64 0] 93)).cell? ⟨w1.heap.size, 2, none⟩ = some (.int .i64 0) ∧ (w1.alloc (.cells #[.int .i64 0, .string ⟨#[]⟩, .int .i64 0, .int .i64 0] 93)).cell? ⟨w1.heap.size, 3, none⟩ = some (.int .i64 0) := by simp only [World.cell?, hyb]; and_intros <;> rfl
  go_wp2_with fail
  generalize (w1.alloc (.cells #[.int .i64 0, .string ⟨#[]⟩, .int .i64 0, .int .i64 0] 93)) = Wy at hBy hyb hz2 hC2 hmy ⊢
  have q : (Wy.drew.cell? ⟨w.heap.size, 0, none⟩ = some (.int .i64 0) ∧ Wy.drew.cell? ⟨w.heap.size, 1, none⟩ = some (.string ⟨#[]⟩) ∧ Wy.drew.cell? ⟨w.heap.size, 2, none⟩ = some (.int .i64 0)) ∧
      Wy.drew.frozen? ⟨w.heap.size, 0, none⟩ = false ∧ Wy.drew.frozen? ⟨w.heap.size, 1, none⟩ = false ∧ Wy.drew.frozen? ⟨w.heap.size, 2, none⟩ = false := by
    have hz2d : Wy.drew.heap[w.heap.size]? = some (.cells #[.int .i64 0, .string ⟨#[]⟩, .int .i64 0] 26 (0, 0)) := hz2
    simp only [World.cell?, World.frozen?, hz2d]; simp
  obtain ⟨⟨q0, q1, q2⟩, q3, q4, q5⟩ := q
  have r0 : Wy.cell? ⟨w.heap.size, 0, none⟩ = some (.int .i64 0) := q0
  have r1 : Wy.cell? ⟨w.heap.size, 1, none⟩ = some (.string ⟨#[]⟩) := q1
  have r2 : Wy.cell? ⟨w.heap.size, 2, none⟩ = some (.int .i64 0) := q2
  have r3 : Wy.frozen? ⟨w.heap.size, 0, none⟩ = false := q3
  have r4 : Wy.frozen? ⟨w.heap.size, 1, none⟩ = false := q4
  have r5 : Wy.frozen? ⟨w.heap.size, 2, none⟩ = false := q5
  have hfin : (((Wy.setCell ⟨w.heap.size, 0, none⟩ (.int .i64 0)).setCell ⟨w.heap.size, 1, none⟩ (.string ⟨#[]⟩)).setCell ⟨w.heap.size, 2, none⟩ (.int .i64 0)).heap[w.heap.size]? = some (.cells #[.int .i64 0, .string ⟨#[]⟩, .int .i64 0] 26 (0, 0)) := by
    have := set_block (o := 2) (set_block (o := 1) (set_block (w := Wy) (o := 0) hz2 (.int .i64 0)) (.string ⟨#[]⟩)) (.int .i64 0)
    simpa using this
  have hbut : But w.heap.size Wy (((Wy.setCell ⟨w.heap.size, 0, none⟩ (.int .i64 0)).setCell ⟨w.heap.size, 1, none⟩ (.string ⟨#[]⟩)).setCell ⟨w.heap.size, 2, none⟩ (.int .i64 0)) := (((But.refl _ _).setCell 0 _).setCell 1 _).setCell 2 _
  have hB3 : Below w.heap.size w (((Wy.setCell ⟨w.heap.size, 0, none⟩ (.int .i64 0)).setCell ⟨w.heap.size, 1, none⟩ (.string ⟨#[]⟩)).setCell ⟨w.heap.size, 2, none⟩ (.int .i64 0)) := below_but hC2 hbut (Nat.le_refl _) hC2.size
  have Hfin := Lib.hid hfin
  have HB3 := Lib.hid hB3
  clear hfin hbut hB3
  go_region_held3 (fun W => W.cell? ⟨w1.heap.size, 0, none⟩ = some (.int .i64 0) ∧ W.cell? ⟨w1.heap.size, 1, none⟩ = some (.string ⟨#[]⟩) ∧ W.cell? ⟨w1.heap.size, 2, none⟩ = some (.int .i64 0) ∧ W.cell? ⟨w1.heap.size, 3, none⟩ = some (.int .i64 0))
    (first | go_keep | assumption)
    (fail "no arm")
  have hfin := Hfin.out
  have hB3 := HB3.out
  clear Hfin HB3
  generalize (((Wy.setCell ⟨w.heap.size, 0, none⟩ (.int .i64 0)).setCell ⟨w.heap.size, 1, none⟩ (.string ⟨#[]⟩)).setCell ⟨w.heap.size, 2, none⟩ (.int .i64 0)) = W at hfin hB3 ⊢
  have hm : W.cell? ⟨w.heap.size, 0, none⟩ = some (.int .i64 0) ∧ W.cell? ⟨w.heap.size, 1, none⟩ = some (.string ⟨#[]⟩) ∧ W.cell? ⟨w.heap.size, 2, none⟩ = some (.int .i64 0) := by simp [World.cell?, hfin]
  have hm2 : W.drew.cell? ⟨w.heap.size, 0, none⟩ = some (.int .i64 0) ∧ W.drew.cell? ⟨w.heap.size, 1, none⟩ = some (.string ⟨#[]⟩) ∧ W.drew.cell? ⟨w.heap.size, 2, none⟩ = some (.int .i64 0) := hm
  go_wp2_with fail
  exact bodyPost_ret (v := .tuple #[.agg #[.int .i64 0, .string ⟨#[]⟩, .int .i64 0], .int .i64 0, .bool false]) (by simp [results, Try.results19, go_sem, hm, hm2]) rfl ⟨rfl, hB3.drew⟩

end Go.Proofs.Ytbpibbcehfkeeaa.E
