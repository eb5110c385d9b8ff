/- What rightOperand, rightTerm, rightPref, rightAct answer. Conditions: none. -/
import Derived.Test.YtmnpcpgdhaplaaaMg7
namespace Go.Proofs.Ytmnpcpgdhaplaaa
open Go Go.RowKit

theorem sym_equalD (d : Nat) (x y : SymV) (w : World) : (Op.equalIn (d + 2) 47 (.agg #[.int .i64 x.k, .string x.t, .int .i64 x.n]) (.agg #[.int .i64 y.k, .string y.t, .int .i64 y.n])).run Try.prog w = .ok (same x y) w := by
  rw [run_equalIn_struct _ (d + 1) _ _ _ sym_under sym_held]
  simp only [Program.fieldsOf, Try.underlying47]
  simp [go_sem, Op.eqFields]
  by_cases h1 : x.k = y.k <;> by_cases h2 : x.t.toList = y.t.toList <;> by_cases h3 : x.n = y.n <;> simp [same, h1, h2, h3]

theorem atom_under : Try.prog.underlying 55 = some (.struct (Try.prog.fieldsOf 55)) := by kernel_rfl
theorem atom_held : Try.prog.stoodInHeld 55 = false := by kernel_rfl
theorem atom_guard : Try.prog.eqGuardType Try.prog.depth 55 = false := by kernel_rfl

def sameA (x y : AtomV) : Bool := x.var.toList == y.var.toList && same x.sym y.sym

set_option maxHeartbeats 800000 in
theorem atom_equal (x y : AtomV) (w : World) : (Op.equalIn 10000 55 (.agg #[.string x.var, .int .i64 x.sym.k, .string x.sym.t, .int .i64 x.sym.n]) (.agg #[.string y.var, .int .i64 y.sym.k, .string y.sym.t, .int .i64 y.sym.n])).run Try.prog w = .ok (sameA x y) w := by
  have hs := fun (x y : SymV) w => sym_equalD 9997 x y w
  rw [run_equalIn_struct _ 9999 _ _ _ atom_under atom_held]
  simp only [Program.fieldsOf, Try.underlying55]
  cases h1 : (x.var.toList == y.var.toList)
  · simp [go_sem, Op.eqFields, hs, h1, sameA]
  cases h2 : same x.sym y.sym
  · simp [go_sem, Op.eqFields, hs, h1, h2, sameA]
  · simp [go_sem, Op.eqFields, hs, h1, h2, sameA]

theorem atom_equal' (a : ByteArray) (b : Int) (c : ByteArray) (d : Int) (a' : ByteArray) (b' : Int) (c' : ByteArray) (d' : Int) (w : World) : (Op.equalIn 10000 55 (.agg #[.string a, .int .i64 b, .string c, .int .i64 d]) (.agg #[.string a', .int .i64 b', .string c', .int .i64 d'])).run Try.prog w = .ok (sameA ⟨a, ⟨b, c, d⟩⟩ ⟨a', ⟨b', c', d'⟩⟩) w := atom_equal ⟨a, ⟨b, c, d⟩⟩ ⟨a', ⟨b', c', d'⟩⟩ w

theorem sameA_zero (x : AtomV) : sameA ⟨x.var, ⟨x.sym.k, x.sym.t, x.sym.n⟩⟩ ⟨⟨#[]⟩, ⟨0, ⟨#[]⟩, 0⟩⟩ = atomZ x := by
  unfold sameA atomZ isZ
  congr 1
  cases h : x.var.toList <;> simp [h]

theorem below2 (w : World) (cs : Array Value) (T : TypeId) : Below w.heap.size w (w.alloc (.cells cs T)) := (Below.refl _ w).alloc (Nat.le_refl _) _

set_option maxHeartbeats 800000 in
theorem operand_T (w : World) (x : AtomV) : Calls Try.prog 92 #[.agg #[.string x.var, .int .i64 x.sym.k, .string x.sym.t, .int .i64 x.sym.n]] w fun e w' => e = .returned (.bool (operandB x)) ∧ Below w.heap.size w w' := by
  have hB := below2 w #[.string x.var, .int .i64 x.sym.k, .string x.sym.t, .int .i64 x.sym.n] 55
  have hcc : ∀ W, Below (w.alloc (.cells #[.string x.var, .int .i64 x.sym.k, .string x.sym.t, .int .i64 x.sym.n] 55)).heap.size (w.alloc (.cells #[.string x.var, .int .i64 x.sym.k, .string x.sym.t, .int .i64 x.sym.n] 55)) W → W.cell? ⟨w.heap.size, 1, none⟩ = some (.int .i64 x.sym.k) := by
    intro W hW
    have hn := heap_alloc_new w (.cells #[.string x.var, .int .i64 x.sym.k, .string x.sym.t, .int .i64 x.sym.n] 55)
    have := (hW.block _ (lt_of_block hn)).trans hn
    simp [World.cell?, this]
  have Hcc := Lib.hid hcc
  clear hcc
  cases ha : atomB x.var x.sym
  · have Ha := Lib.hid ha
    go_enter Try.func92, Try.ntmps92
    go_wp2_with fail
    refine (atom_T _ x.var x.sym).mono ?_
    rintro e w1 ⟨rfl, hB1⟩
    rw [Ha.out]
    go_wp2_with fail
    go_ret
    exact ⟨by rw [operandB, Ha.out]; rfl, hB.trans (hB1.mono hB.size)⟩
  · have Ha := Lib.hid ha
    go_enter Try.func92, Try.ntmps92
    go_wp2_with fail
    refine (atom_T _ x.var x.sym).mono ?_
    rintro e w1 ⟨rfl, hB1⟩
    rw [Ha.out]
    have q1 := Hcc.out w1 hB1
    go_wp2_with fail
    go_ret
    exact ⟨by rw [operandB, Ha.out]; rfl, hB.trans (hB1.mono hB.size)⟩

set_option maxRecDepth 100000 in
set_option maxHeartbeats 1600000 in
theorem pref_T (w : World) (k : Int) (x : AtomV) : Calls Try.prog 70 #[.int .i64 k, .agg #[.string x.var, .int .i64 x.sym.k, .string x.sym.t, .int .i64 x.sym.n]] w fun e w' => e = .returned (.bool (prefB k x)) ∧ Below w.heap.size w w' := by
  have hB := below2 w #[.string x.var, .int .i64 x.sym.k, .string x.sym.t, .int .i64 x.sym.n] 55
  have hse := atom_equal'
  have hsg := atom_guard
  by_cases hp : k = 1 ∨ k = 2 ∨ k = 3 ∨ k = 4 ∨ k = 5 ∨ k = 6 ∨ k = 7
  · have hpr : plainRel k = true := by simpa [plainRel] using hp
    have Hp := Lib.hid hpr
    have Hz := Lib.hid (sameA_zero x)
    clear hpr
    rcases hp with rfl | rfl | rfl | rfl | rfl | rfl | rfl
    all_goals
      go_enter Try.func70, Try.ntmps70
      go_wp2_with fail
      go_ret
      exact ⟨by rw [prefB, Hp.out, if_pos rfl, ← Hz.out]; rfl, hB⟩
  · have hpr : plainRel k = false := by rw [← Bool.not_eq_true]; simpa [plainRel] using hp
    have Hp := Lib.hid hpr
    have p1 : (k == 1) = false := by simp; omega
    have p2 : (k == 2) = false := by simp; omega
    have p3 : (k == 3) = false := by simp; omega
    have p4 : (k == 4) = false := by simp; omega
    have p5 : (k == 5) = false := by simp; omega
    have p6 : (k == 6) = false := by simp; omega
    have p7 : (k == 7) = false := by simp; omega
    clear hpr hp
    by_cases h8 : k = 8 ∨ k = 9 ∨ k = 10
    · clear p1 p2 p3 p4 p5 p6 p7
      rcases h8 with rfl | rfl | rfl
      all_goals
        go_enter Try.func70, Try.ntmps70
        go_wp2_with fail
        refine (atom_T _ x.var x.sym).mono ?_
        rintro e w1 ⟨rfl, hB1⟩
        go_wp2_with fail
        go_ret
        exact ⟨by rw [prefB, Hp.out]; rfl, hB.trans (hB1.mono hB.size)⟩
    · have p8 : (k == 8) = false := by simp; omega
      have p9 : (k == 9) = false := by simp; omega
      have p10 : (k == 10) = false := by simp; omega
      have P8 := Lib.hid p8
      have P9 := Lib.hid p9
      have P10 := Lib.hid p10
      clear h8
      go_enter Try.func70, Try.ntmps70
      go_wp2_with fail
      go_ret
      exact ⟨by rw [prefB, Hp.out, P8.out, P9.out, P10.out]; rfl, hB⟩

abbrev termCells (t : TermV) : Array Value := #[.int .i64 t.op, .string t.a.var, .int .i64 t.a.sym.k, .string t.a.sym.t, .int .i64 t.a.sym.n, .string t.b.var, .int .i64 t.b.sym.k, .string t.b.sym.t, .int .i64 t.b.sym.n]

set_option maxRecDepth 100000 in
set_option maxHeartbeats 1600000 in
theorem term_T (w : World) (o : Int) (a b : AtomV) : Calls Try.prog 69 #[.agg #[.int .i64 o, .string a.var, .int .i64 a.sym.k, .string a.sym.t, .int .i64 a.sym.n, .string b.var, .int .i64 b.sym.k, .string b.sym.t, .int .i64 b.sym.n]] w fun e w' => e = .returned (.bool (termB ⟨o, a, b⟩)) ∧ Below w.heap.size w w' := by
  have hB := below2 w #[.int .i64 o, .string a.var, .int .i64 a.sym.k, .string a.sym.t, .int .i64 a.sym.n, .string b.var, .int .i64 b.sym.k, .string b.sym.t, .int .i64 b.sym.n] 57
  have hcc : ∀ W, Below (w.alloc (.cells #[.int .i64 o, .string a.var, .int .i64 a.sym.k, .string a.sym.t, .int .i64 a.sym.n, .string b.var, .int .i64 b.sym.k, .string b.sym.t, .int .i64 b.sym.n] 57)).heap.size (w.alloc (.cells #[.int .i64 o, .string a.var, .int .i64 a.sym.k, .string a.sym.t, .int .i64 a.sym.n, .string b.var, .int .i64 b.sym.k, .string b.sym.t, .int .i64 b.sym.n] 57)) W →
      W.cell? ⟨w.heap.size, 5, none⟩ = some (.string b.var) ∧ W.cell? ⟨w.heap.size, 6, none⟩ = some (.int .i64 b.sym.k) ∧ W.cell? ⟨w.heap.size, 7, none⟩ = some (.string b.sym.t) ∧ W.cell? ⟨w.heap.size, 8, none⟩ = some (.int .i64 b.sym.n) := by
    intro W hW
    have hn := heap_alloc_new w (.cells #[.int .i64 o, .string a.var, .int .i64 a.sym.k, .string a.sym.t, .int .i64 a.sym.n, .string b.var, .int .i64 b.sym.k, .string b.sym.t, .int .i64 b.sym.n] 57)
    have := (hW.block _ (lt_of_block hn)).trans hn
    simp [World.cell?, this]
  have Hcc := Lib.hid hcc
  clear hcc
  have hse := atom_equal'
  have hsg := atom_guard
  by_cases h0 : o = 0
  · subst h0
    have Hz := Lib.hid (sameA_zero b)
    cases ha : atomB a.var a.sym
    · have Ha := Lib.hid ha
      go_enter Try.func69, Try.ntmps69
      go_wp2_with fail
      refine (atom_T _ a.var a.sym).mono ?_
      rintro e w1 ⟨rfl, hB1⟩
      rw [Ha.out]
      go_wp2_with fail
      go_ret
      exact ⟨by simp [termB, Ha.out], hB.trans (hB1.mono hB.size)⟩
    · have Ha := Lib.hid ha
      go_enter Try.func69, Try.ntmps69
      go_wp2_with fail
      refine (atom_T _ a.var a.sym).mono ?_
      rintro e w1 ⟨rfl, hB1⟩
      rw [Ha.out]
      obtain ⟨q1, q2, q3, q4⟩ := Hcc.out w1 hB1
      go_wp2_with fail
      go_ret
      exact ⟨by simp only [termB, Ha.out, ← Hz.out]; rfl, hB.trans (hB1.mono hB.size)⟩
  · have p0 : (o == 0) = false := by simp [h0]
    have P0 := Lib.hid p0
    by_cases h1 : o = 1 ∨ o = 2 ∨ o = 3
    · have hop : (o == 1 || (o == 2 || o == 3)) = true := by simpa using h1
      have Hop := Lib.hid hop
      clear hop h0 p0
      cases ha : operandB a
      · have Ha := Lib.hid ha
        rcases h1 with rfl | rfl | rfl
        all_goals
          go_enter Try.func69, Try.ntmps69
          go_wp2_with fail
          refine (operand_T _ a).mono ?_
          rintro e w1 ⟨rfl, hB1⟩
          rw [Ha.out]
          go_wp2_with fail
          go_ret
          exact ⟨by simp [termB, Ha.out], hB.trans (hB1.mono hB.size)⟩
      · have Ha := Lib.hid ha
        rcases h1 with rfl | rfl | rfl
        all_goals
          go_enter Try.func69, Try.ntmps69
          go_wp2_with fail
          refine (operand_T _ a).mono ?_
          rintro e w1 ⟨rfl, hB1⟩
          rw [Ha.out]
          obtain ⟨q1, q2, q3, q4⟩ := Hcc.out w1 hB1
          go_wp2_with fail
          refine (operand_T _ b).mono ?_
          rintro e w2 ⟨rfl, hB2⟩
          have hC1 := hB.trans (hB1.mono hB.size)
          go_wp2_with fail
          go_ret
          exact ⟨by simp [termB, Ha.out], hC1.trans (hB2.mono hC1.size)⟩
    · have p1 : (o == 1) = false := by simp; omega
      have p2 : (o == 2) = false := by simp; omega
      have p3 : (o == 3) = false := by simp; omega
      have P1 := Lib.hid p1
      have P2 := Lib.hid p2
      have P3 := Lib.hid p3
      clear h0 h1
      go_enter Try.func69, Try.ntmps69
      go_wp2_with fail
      go_ret
      exact ⟨by simp only [termB, P0.out, P1.out, P2.out, P3.out]; rfl, hB⟩

end Go.Proofs.Ytmnpcpgdhaplaaa
