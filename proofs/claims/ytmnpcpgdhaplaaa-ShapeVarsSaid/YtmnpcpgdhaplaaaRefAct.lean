/- What the statements' own act answers. Conditions: texts of at most maxLen bytes. -/
import Derived.Test.YtmnpcpgdhaplaaaMg23
import Derived.Test.YtmnpcpgdhaplaaaMg10
import Derived.Test.YtmnpcpgdhaplaaaMg7
import Derived.Test.YtmnpcpgdhaplaaaMg19
namespace Go.Proofs.Ytmnpcpgdhaplaaa
open Go Go.RowKit

def refActB (x : ActV) : Bool := wordB x.id && (atomB x.attr.var x.attr.sym && (atomB x.value.a.var x.value.a.sym && (decide (0 ≤ x.value.op) && (decide (x.value.op ≤ 3) && (decide (1 ≤ x.pref) && (decide (x.pref ≤ 10) && ((if x.value.op == 0 then atomZ x.value.b else atomB x.value.b.var x.value.b.sym && ((x.value.a.sym.k != 3) && (x.value.b.sym.k != 3))) && (if decide (8 ≤ x.pref) then atomB x.other.var x.other.sym else atomZ x.other))))))))

theorem refActB_eq (x : ActV) : refActB x = actB x := by
  have e1 : termB x.value = (atomB x.value.a.var x.value.a.sym && (decide (0 ≤ x.value.op) && (decide (x.value.op ≤ 3) && (if x.value.op == 0 then atomZ x.value.b else atomB x.value.b.var x.value.b.sym && ((x.value.a.sym.k != 3) && (x.value.b.sym.k != 3)))))) := by
    unfold termB operandB
    by_cases h0 : x.value.op = 0
    · simp [h0]
    · have g0 : (x.value.op == 0) = false := by simp [h0]
      rw [g0]
      by_cases h : 0 ≤ x.value.op ∧ x.value.op ≤ 3
      · have g1 : (x.value.op == 1 || (x.value.op == 2 || x.value.op == 3)) = true := by
          have : x.value.op = 1 ∨ x.value.op = 2 ∨ x.value.op = 3 := by omega
          rcases this with h | h | h <;> rw [h] <;> rfl
        have g2 : decide (0 ≤ x.value.op) = true := decide_eq_true h.1
        have g3 : decide (x.value.op ≤ 3) = true := decide_eq_true h.2
        rw [g1, g2, g3]
        cases atomB x.value.a.var x.value.a.sym <;> cases atomB x.value.b.var x.value.b.sym <;> cases (x.value.a.sym.k != 3) <;> cases (x.value.b.sym.k != 3) <;> rfl
      · have g1 : (x.value.op == 1 || (x.value.op == 2 || x.value.op == 3)) = false := by
          rw [← Bool.not_eq_true]; simp; omega
        have g2 : (decide (0 ≤ x.value.op) && decide (x.value.op ≤ 3)) = false := by
          rw [← Bool.not_eq_true]; simp; omega
        rw [g1]
        revert g2
        cases decide (0 ≤ x.value.op) <;> cases decide (x.value.op ≤ 3) <;> cases atomB x.value.a.var x.value.a.sym <;> simp
  have e2 : prefB x.pref x.other = (decide (1 ≤ x.pref) && (decide (x.pref ≤ 10) && (if decide (8 ≤ x.pref) then atomB x.other.var x.other.sym else atomZ x.other))) := by
    unfold prefB
    by_cases h : 1 ≤ x.pref ∧ x.pref ≤ 7
    · have g1 : plainRel x.pref = true := (plainRel_iff x.pref).2 (by omega)
      have g2 : decide (1 ≤ x.pref) = true := decide_eq_true h.1
      have g3 : decide (x.pref ≤ 10) = true := decide_eq_true (by omega)
      have g4 : decide (8 ≤ x.pref) = false := decide_eq_false (by omega)
      rw [g1, g2, g3, g4]; rfl
    · have g1 : plainRel x.pref = false := by rw [← Bool.not_eq_true, plainRel_iff]; omega
      rw [g1]
      by_cases h2 : 8 ≤ x.pref ∧ x.pref ≤ 10
      · have g2 : decide (1 ≤ x.pref) = true := decide_eq_true (by omega)
        have g3 : decide (x.pref ≤ 10) = true := decide_eq_true (by omega)
        have g4 : decide (8 ≤ x.pref) = true := decide_eq_true (by omega)
        have g5 : (x.pref == 8 || (x.pref == 9 || x.pref == 10)) = true := by
          have : x.pref = 8 ∨ x.pref = 9 ∨ x.pref = 10 := by omega
          rcases this with h | h | h <;> rw [h] <;> rfl
        rw [g2, g3, g4, g5]; rfl
      · have g5 : (x.pref == 8 || (x.pref == 9 || x.pref == 10)) = false := by
          rw [← Bool.not_eq_true]; simp; omega
        have g2 : (decide (1 ≤ x.pref) && decide (x.pref ≤ 10)) = false := by
          rw [← Bool.not_eq_true]; simp; omega
        rw [g5]
        revert g2
        cases decide (1 ≤ x.pref) <;> cases decide (x.pref ≤ 10) <;> simp
  unfold refActB actB
  rw [e1, e2]
  generalize (if x.value.op == 0 then atomZ x.value.b else atomB x.value.b.var x.value.b.sym && ((x.value.a.sym.k != 3) && (x.value.b.sym.k != 3))) = t1
  generalize (if decide (8 ≤ x.pref) then atomB x.other.var x.other.sym else atomZ x.other) = t2
  cases wordB x.id <;> cases atomB x.attr.var x.attr.sym <;> cases atomB x.value.a.var x.value.a.sym <;> cases decide (0 ≤ x.value.op) <;> cases decide (x.value.op ≤ 3) <;> cases decide (1 ≤ x.pref) <;> cases decide (x.pref ≤ 10) <;> cases t1 <;> cases t2 <;> rfl

set_option pp.deepTerms true
set_option pp.maxSteps 1000000
set_option maxRecDepth 100000 in
set_option maxHeartbeats 3200000 in
theorem refact_T (w : World) (x : ActV) (hf : ActFit x) : Calls Try.prog 45 #[.agg #[.string x.id, .string x.attr.var, .int .i64 x.attr.sym.k, .string x.attr.sym.t, .int .i64 x.attr.sym.n, .int .i64 x.value.op, .string x.value.a.var, .int .i64 x.value.a.sym.k, .string x.value.a.sym.t, .int .i64 x.value.a.sym.n, .string x.value.b.var, .int .i64 x.value.b.sym.k, .string x.value.b.sym.t, .int .i64 x.value.b.sym.n, .int .i64 x.pref, .string x.other.var, .int .i64 x.other.sym.k, .string x.other.sym.t, .int .i64 x.other.sym.n]] w fun e w' => e = .returned (.bool (actB x)) ∧ Below w.heap.size w w' := by
  have hB := below2 w #[.string x.id, .string x.attr.var, .int .i64 x.attr.sym.k, .string x.attr.sym.t, .int .i64 x.attr.sym.n, .int .i64 x.value.op, .string x.value.a.var, .int .i64 x.value.a.sym.k, .string x.value.a.sym.t, .int .i64 x.value.a.sym.n, .string x.value.b.var, .int .i64 x.value.b.sym.k, .string x.value.b.sym.t, .int .i64 x.value.b.sym.n, .int .i64 x.pref, .string x.other.var, .int .i64 x.other.sym.k, .string x.other.sym.t, .int .i64 x.other.sym.n] 59
  have hae := atom_equal'
  have hcc : ∀ W, Below (w.alloc (.cells #[.string x.id, .string x.attr.var, .int .i64 x.attr.sym.k, .string x.attr.sym.t, .int .i64 x.attr.sym.n, .int .i64 x.value.op, .string x.value.a.var, .int .i64 x.value.a.sym.k, .string x.value.a.sym.t, .int .i64 x.value.a.sym.n, .string x.value.b.var, .int .i64 x.value.b.sym.k, .string x.value.b.sym.t, .int .i64 x.value.b.sym.n, .int .i64 x.pref, .string x.other.var, .int .i64 x.other.sym.k, .string x.other.sym.t, .int .i64 x.other.sym.n] 59)).heap.size (w.alloc (.cells #[.string x.id, .string x.attr.var, .int .i64 x.attr.sym.k, .string x.attr.sym.t, .int .i64 x.attr.sym.n, .int .i64 x.value.op, .string x.value.a.var, .int .i64 x.value.a.sym.k, .string x.value.a.sym.t, .int .i64 x.value.a.sym.n, .string x.value.b.var, .int .i64 x.value.b.sym.k, .string x.value.b.sym.t, .int .i64 x.value.b.sym.n, .int .i64 x.pref, .string x.other.var, .int .i64 x.other.sym.k, .string x.other.sym.t, .int .i64 x.other.sym.n] 59)) W →
      (W.cell? ⟨w.heap.size, 1, none⟩ = some (.string x.attr.var) ∧ W.cell? ⟨w.heap.size, 2, none⟩ = some (.int .i64 x.attr.sym.k) ∧ W.cell? ⟨w.heap.size, 3, none⟩ = some (.string x.attr.sym.t) ∧ W.cell? ⟨w.heap.size, 4, none⟩ = some (.int .i64 x.attr.sym.n)) ∧
      (W.cell? ⟨w.heap.size, 5, none⟩ = some (.int .i64 x.value.op) ∧ W.cell? ⟨w.heap.size, 6, none⟩ = some (.string x.value.a.var) ∧ W.cell? ⟨w.heap.size, 7, none⟩ = some (.int .i64 x.value.a.sym.k) ∧ W.cell? ⟨w.heap.size, 8, none⟩ = some (.string x.value.a.sym.t) ∧ W.cell? ⟨w.heap.size, 9, none⟩ = some (.int .i64 x.value.a.sym.n) ∧ W.cell? ⟨w.heap.size, 10, none⟩ = some (.string x.value.b.var) ∧ W.cell? ⟨w.heap.size, 11, none⟩ = some (.int .i64 x.value.b.sym.k) ∧ W.cell? ⟨w.heap.size, 12, none⟩ = some (.string x.value.b.sym.t) ∧ W.cell? ⟨w.heap.size, 13, none⟩ = some (.int .i64 x.value.b.sym.n)) ∧
      (W.cell? ⟨w.heap.size, 14, none⟩ = some (.int .i64 x.pref) ∧ W.cell? ⟨w.heap.size, 15, none⟩ = some (.string x.other.var) ∧ W.cell? ⟨w.heap.size, 16, none⟩ = some (.int .i64 x.other.sym.k) ∧ W.cell? ⟨w.heap.size, 17, none⟩ = some (.string x.other.sym.t) ∧ W.cell? ⟨w.heap.size, 18, none⟩ = some (.int .i64 x.other.sym.n)) := by
    intro W hW
    have hn := heap_alloc_new w (.cells #[.string x.id, .string x.attr.var, .int .i64 x.attr.sym.k, .string x.attr.sym.t, .int .i64 x.attr.sym.n, .int .i64 x.value.op, .string x.value.a.var, .int .i64 x.value.a.sym.k, .string x.value.a.sym.t, .int .i64 x.value.a.sym.n, .string x.value.b.var, .int .i64 x.value.b.sym.k, .string x.value.b.sym.t, .int .i64 x.value.b.sym.n, .int .i64 x.pref, .string x.other.var, .int .i64 x.other.sym.k, .string x.other.sym.t, .int .i64 x.other.sym.n] 59)
    have := (hW.block _ (lt_of_block hn)).trans hn
    simp [World.cell?, this]
  have Hcc := Lib.hid hcc
  have Hf := Lib.hid hf
  clear hcc hf
  rw [← refActB_eq]
  cases hw : wordB x.id
  · have Hw := Lib.hid hw
    go_enter Try.func45, Try.ntmps45
    go_wp2_with fail
    refine (refword_T _ x.id Hf.out.1).mono ?_
    rintro e w1 ⟨rfl, rfl⟩
    rw [Hw.out]
    go_wp2_with fail
    go_ret
    exact ⟨by simp [refActB, Hw.out], hB⟩
  have Hw := Lib.hid hw
  clear hw
  go_enter Try.func45, Try.ntmps45
  go_wp2_with fail
  refine (refword_T _ x.id Hf.out.1).mono ?_
  rintro e w1 ⟨rfl, rfl⟩
  rw [Hw.out]
  cases ha : atomB x.attr.var x.attr.sym
  · have Ha := Lib.hid ha
    go_wp2_with fail
    refine (refatom_T _ x.attr.var x.attr.sym Hf.out.2.1.1 Hf.out.2.1.2).mono ?_
    rintro e w1 ⟨rfl, hB1⟩
    rw [Ha.out]
    go_wp2_with fail
    go_ret
    exact ⟨by simp [refActB, Hw.out, Ha.out], hB.trans (hB1.mono hB.size)⟩
  have Ha := Lib.hid ha
  clear ha
  go_wp2_with fail
  refine (refatom_T _ x.attr.var x.attr.sym Hf.out.2.1.1 Hf.out.2.1.2).mono ?_
  rintro e w1 ⟨rfl, hB1⟩
  rw [Ha.out]
  have hC1 := hB.trans (hB1.mono hB.size)
  obtain ⟨-, ⟨q5, q6, q7, q8, q9, q10, q11, q12, q13⟩, -⟩ := Hcc.out w1 hB1
  cases hva : atomB x.value.a.var x.value.a.sym
  · have Hva := Lib.hid hva
    go_wp2_with fail
    refine (refatom_T _ x.value.a.var x.value.a.sym Hf.out.2.2.1.1 Hf.out.2.2.1.2).mono ?_
    rintro e w2 ⟨rfl, hB2⟩
    rw [Hva.out]
    go_wp2_with fail
    go_ret
    exact ⟨by simp [refActB, Hw.out, Ha.out, Hva.out], hC1.trans (hB2.mono hC1.size)⟩
  have Hva := Lib.hid hva
  clear hva
  go_wp2_with fail
  refine (refatom_T _ x.value.a.var x.value.a.sym Hf.out.2.2.1.1 Hf.out.2.2.1.2).mono ?_
  rintro e w2 ⟨rfl, hB2⟩
  rw [Hva.out]
  have hC2 := hC1.trans (hB2.mono hC1.size)
  have hD2 := hB1.trans (hB2.mono hB1.size)
  clear q5 q6 q7 q8 q9 q10 q11 q12 q13
  obtain ⟨-, ⟨q5, q6, q7, q8, q9, q10, q11, q12, q13⟩, q14, q15, q16, q17, q18⟩ := Hcc.out w2 hD2
  by_cases o1 : x.value.op < 0
  · have d1 : decide (0 ≤ x.value.op) = false := decide_eq_false (by omega)
    have D1 := Lib.hid d1
    have r1 : (x.value.op < 0) = True := eq_true o1
    clear o1 d1
    go_wp2_with fail
    go_ret
    exact ⟨by simp [refActB, Hw.out, Ha.out, Hva.out, D1.out], hC2⟩
  have d1 : decide (0 ≤ x.value.op) = true := decide_eq_true (by omega)
  have D1 := Lib.hid d1
  have r1 : (x.value.op < 0) = False := eq_false o1
  clear d1
  by_cases o2 : 3 < x.value.op
  · have d2 : decide (x.value.op ≤ 3) = false := decide_eq_false (by omega)
    have D2 := Lib.hid d2
    have r2 : (3 < x.value.op) = True := eq_true o2
    clear o1 o2 d2
    go_wp2_with fail
    go_ret
    exact ⟨by simp [refActB, Hw.out, Ha.out, Hva.out, D2.out], hC2⟩
  have d2 : decide (x.value.op ≤ 3) = true := decide_eq_true (by omega)
  have D2 := Lib.hid d2
  have r2 : (3 < x.value.op) = False := eq_false o2
  clear o1 o2 d2
  by_cases p1 : x.pref < 1
  · have d3 : decide (1 ≤ x.pref) = false := decide_eq_false (by omega)
    have D3 := Lib.hid d3
    have r3 : (x.pref < 1) = True := eq_true p1
    clear p1 d3
    go_wp2_with fail
    go_ret
    exact ⟨by simp [refActB, Hw.out, Ha.out, Hva.out, D3.out], hC2⟩
  have d3 : decide (1 ≤ x.pref) = true := decide_eq_true (by omega)
  have D3 := Lib.hid d3
  have r3 : (x.pref < 1) = False := eq_false p1
  clear p1 d3
  by_cases p2 : 10 < x.pref
  · have d4 : decide (x.pref ≤ 10) = false := decide_eq_false (by omega)
    have D4 := Lib.hid d4
    have r4 : (10 < x.pref) = True := eq_true p2
    clear p2 d4
    go_wp2_with fail
    go_ret
    exact ⟨by simp [refActB, Hw.out, Ha.out, Hva.out, D4.out], hC2⟩
  have d4 : decide (x.pref ≤ 10) = true := decide_eq_true (by omega)
  have D4 := Lib.hid d4
  have r4 : (10 < x.pref) = False := eq_false p2
  clear p2 d4
  have hz1 := sameA_zero x.value.b
  have hz2 := sameA_zero x.other
  by_cases p0 : x.value.op = 0
  · have g0 : (x.value.op == 0) = true := by simp [p0]
    have G0 := Lib.hid g0
    cases hzb : atomZ x.value.b
    · have Hzb := Lib.hid hzb
      rw [hzb] at hz1
      clear p0 hzb
      go_wp2_with fail
      go_ret
      exact ⟨by simp [refActB, Hw.out, Ha.out, Hva.out, G0.out, Hzb.out], hC2⟩
    have Hzb := Lib.hid hzb
    rw [hzb] at hz1
    clear p0 hzb
    by_cases p8 : 8 ≤ x.pref
    · have r8 : (8 ≤ x.pref) = True := eq_true p8
      have D8 := Lib.hid (decide_eq_true p8)
      clear p8
      go_wp2_with fail
      refine (refatom_T _ x.other.var x.other.sym Hf.out.2.2.2.2.1 Hf.out.2.2.2.2.2).mono ?_
      rintro e w3 ⟨rfl, hB3⟩
      go_wp2_with fail
      go_ret
      exact ⟨by simp [refActB, Hw.out, Ha.out, Hva.out, G0.out, Hzb.out, D1.out, D2.out, D3.out, D4.out, D8.out], hC2.trans (hB3.mono hC2.size)⟩
    · have r8 : (8 ≤ x.pref) = False := eq_false p8
      have D8 := Lib.hid (decide_eq_false p8)
      clear p8
      go_wp2_with fail
      go_ret
      exact ⟨by simp [refActB, Hw.out, Ha.out, Hva.out, G0.out, Hzb.out, D1.out, D2.out, D3.out, D4.out, D8.out], hC2⟩
  have g0 : (x.value.op == 0) = false := by simp [p0]
  have G0 := Lib.hid g0
  clear p0
  cases hvb : atomB x.value.b.var x.value.b.sym
  · have Hvb := Lib.hid hvb
    clear hvb
    go_wp2_with fail
    refine (refatom_T _ x.value.b.var x.value.b.sym Hf.out.2.2.2.1.1 Hf.out.2.2.2.1.2).mono ?_
    rintro e w3 ⟨rfl, hB3⟩
    rw [Hvb.out]
    go_wp2_with fail
    go_ret
    exact ⟨by simp [refActB, Hw.out, Ha.out, Hva.out, G0.out, Hvb.out], hC2.trans (hB3.mono hC2.size)⟩
  have Hvb := Lib.hid hvb
  clear hvb
  go_wp2_with fail
  refine (refatom_T _ x.value.b.var x.value.b.sym Hf.out.2.2.2.1.1 Hf.out.2.2.2.1.2).mono ?_
  rintro e w3 ⟨rfl, hB3⟩
  rw [Hvb.out]
  have hC3 := hC2.trans (hB3.mono hC2.size)
  clear q5 q6 q7 q8 q9 q10 q11 q12 q13 q14 q15 q16 q17 q18
  obtain ⟨-, ⟨q5, q6, q7, q8, q9, q10, q11, q12, q13⟩, q14, q15, q16, q17, q18⟩ := Hcc.out w3 (hD2.trans (hB3.mono hD2.size))
  by_cases k1 : x.value.a.sym.k = 3
  · have s1 : (x.value.a.sym.k == 3) = true := by simp [k1]
    have S1 := Lib.hid k1
    clear k1
    go_wp2_with fail
    go_ret
    exact ⟨by simp [refActB, Hw.out, Ha.out, Hva.out, G0.out, Hvb.out, S1.out], hC3⟩
  have s1 : (x.value.a.sym.k == 3) = false := by simp [k1]
  have S1 := Lib.hid k1
  clear k1
  by_cases k2 : x.value.b.sym.k = 3
  · have s2 : (x.value.b.sym.k == 3) = true := by simp [k2]
    have S2 := Lib.hid k2
    clear k2
    go_wp2_with fail
    go_ret
    exact ⟨by simp [refActB, Hw.out, Ha.out, Hva.out, G0.out, Hvb.out, S2.out], hC3⟩
  have s2 : (x.value.b.sym.k == 3) = false := by simp [k2]
  have S2 := Lib.hid k2
  clear k2
  by_cases p8 : 8 ≤ x.pref
  · have r8 : (8 ≤ x.pref) = True := eq_true p8
    have D8 := Lib.hid (decide_eq_true p8)
    clear p8
    go_wp2_with fail
    refine (refatom_T _ x.other.var x.other.sym Hf.out.2.2.2.2.1 Hf.out.2.2.2.2.2).mono ?_
    rintro e w4 ⟨rfl, hB4⟩
    go_wp2_with fail
    go_ret
    exact ⟨by simp [refActB, Hw.out, Ha.out, Hva.out, G0.out, Hvb.out, S1.out, S2.out, D1.out, D2.out, D3.out, D4.out, D8.out], hC3.trans (hB4.mono hC3.size)⟩
  · have r8 : (8 ≤ x.pref) = False := eq_false p8
    have D8 := Lib.hid (decide_eq_false p8)
    clear p8
    go_wp2_with fail
    go_ret
    exact ⟨by simp [refActB, Hw.out, Ha.out, Hva.out, G0.out, Hvb.out, S1.out, S2.out, D1.out, D2.out, D3.out, D4.out, D8.out], hC3⟩

end Go.Proofs.Ytmnpcpgdhaplaaa
