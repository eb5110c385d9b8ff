/- What rightAct answers. Conditions: none.
What wholeError answers. Conditions: the production lies in memory; at most 50000 conditions.
Variables that are known, their order, and what Compare of them answers. Conditions: none. -/
import Derived.Test.YtmnpcpgdhaplaaaShAct
import Derived.Test.YtmnpcpgdhaplaaaMg5
import Derived.Test.YtmnpcpgdhaplaaaShCond
import Derived.Test.YtmnpcpgdhaplaaaMg1
import Derived.Test.YtmnpcpgdhaplaaaMg6
namespace Go.Proofs.Ytmnpcpgdhaplaaa
open Go Go.RowKit

set_option maxRecDepth 100000 in
set_option maxHeartbeats 1600000 in
theorem act_T (w : World) (x : ActV) : Calls Try.prog 41 #[.agg #[.string x.id, .string x.attr.var, .int .i64 x.attr.sym.k, .string x.attr.sym.t, .int .i64 x.attr.sym.n, .int .i64 x.value.op, .string x.value.a.var, .int .i64 x.value.a.sym.k, .string x.value.a.sym.t, .int .i64 x.value.a.sym.n, .string x.value.b.var, .int .i64 x.value.b.sym.k, .string x.value.b.sym.t, .int .i64 x.value.b.sym.n, .int .i64 x.pref, .string x.other.var, .int .i64 x.other.sym.k, .string x.other.sym.t, .int .i64 x.other.sym.n]] w fun e w' => e = .returned (.bool (actB x)) ∧ Below w.heap.size w w' := by
  have hB := below2 w #[.string x.id, .string x.attr.var, .int .i64 x.attr.sym.k, .string x.attr.sym.t, .int .i64 x.attr.sym.n, .int .i64 x.value.op, .string x.value.a.var, .int .i64 x.value.a.sym.k, .string x.value.a.sym.t, .int .i64 x.value.a.sym.n, .string x.value.b.var, .int .i64 x.value.b.sym.k, .string x.value.b.sym.t, .int .i64 x.value.b.sym.n, .int .i64 x.pref, .string x.other.var, .int .i64 x.other.sym.k, .string x.other.sym.t, .int .i64 x.other.sym.n] 59
  have hcc : ∀ W, Below (w.alloc (.cells #[.string x.id, .string x.attr.var, .int .i64 x.attr.sym.k, .string x.attr.sym.t, .int .i64 x.attr.sym.n, .int .i64 x.value.op, .string x.value.a.var, .int .i64 x.value.a.sym.k, .string x.value.a.sym.t, .int .i64 x.value.a.sym.n, .string x.value.b.var, .int .i64 x.value.b.sym.k, .string x.value.b.sym.t, .int .i64 x.value.b.sym.n, .int .i64 x.pref, .string x.other.var, .int .i64 x.other.sym.k, .string x.other.sym.t, .int .i64 x.other.sym.n] 59)).heap.size (w.alloc (.cells #[.string x.id, .string x.attr.var, .int .i64 x.attr.sym.k, .string x.attr.sym.t, .int .i64 x.attr.sym.n, .int .i64 x.value.op, .string x.value.a.var, .int .i64 x.value.a.sym.k, .string x.value.a.sym.t, .int .i64 x.value.a.sym.n, .string x.value.b.var, .int .i64 x.value.b.sym.k, .string x.value.b.sym.t, .int .i64 x.value.b.sym.n, .int .i64 x.pref, .string x.other.var, .int .i64 x.other.sym.k, .string x.other.sym.t, .int .i64 x.other.sym.n] 59)) W →
      (W.cell? ⟨w.heap.size, 5, none⟩ = some (.int .i64 x.value.op) ∧ W.cell? ⟨w.heap.size, 6, none⟩ = some (.string x.value.a.var) ∧ W.cell? ⟨w.heap.size, 7, none⟩ = some (.int .i64 x.value.a.sym.k) ∧ W.cell? ⟨w.heap.size, 8, none⟩ = some (.string x.value.a.sym.t) ∧ W.cell? ⟨w.heap.size, 9, none⟩ = some (.int .i64 x.value.a.sym.n) ∧ W.cell? ⟨w.heap.size, 10, none⟩ = some (.string x.value.b.var) ∧ W.cell? ⟨w.heap.size, 11, none⟩ = some (.int .i64 x.value.b.sym.k) ∧ W.cell? ⟨w.heap.size, 12, none⟩ = some (.string x.value.b.sym.t) ∧ W.cell? ⟨w.heap.size, 13, none⟩ = some (.int .i64 x.value.b.sym.n)) ∧
      (W.cell? ⟨w.heap.size, 14, none⟩ = some (.int .i64 x.pref) ∧ W.cell? ⟨w.heap.size, 15, none⟩ = some (.string x.other.var) ∧ W.cell? ⟨w.heap.size, 16, none⟩ = some (.int .i64 x.other.sym.k) ∧ W.cell? ⟨w.heap.size, 17, none⟩ = some (.string x.other.sym.t) ∧ W.cell? ⟨w.heap.size, 18, none⟩ = some (.int .i64 x.other.sym.n)) := by
    intro W hW
    have hn := heap_alloc_new w (.cells #[.string x.id, .string x.attr.var, .int .i64 x.attr.sym.k, .string x.attr.sym.t, .int .i64 x.attr.sym.n, .int .i64 x.value.op, .string x.value.a.var, .int .i64 x.value.a.sym.k, .string x.value.a.sym.t, .int .i64 x.value.a.sym.n, .string x.value.b.var, .int .i64 x.value.b.sym.k, .string x.value.b.sym.t, .int .i64 x.value.b.sym.n, .int .i64 x.pref, .string x.other.var, .int .i64 x.other.sym.k, .string x.other.sym.t, .int .i64 x.other.sym.n] 59)
    have := (hW.block _ (lt_of_block hn)).trans hn
    simp [World.cell?, this]
  have Hcc := Lib.hid hcc
  clear hcc
  cases hw : wordB x.id
  · have Hw := Lib.hid hw
    go_enter Try.func41, Try.ntmps41
    go_wp2_with fail
    refine (word_any _ x.id).mono ?_
    rintro e w1 ⟨rfl, rfl⟩
    rw [Hw.out]
    go_wp2_with fail
    go_ret
    exact ⟨by simp [actB, Hw.out], hB⟩
  have Hw := Lib.hid hw
  clear hw
  go_enter Try.func41, Try.ntmps41
  go_wp2_with fail
  refine (word_any _ x.id).mono ?_
  rintro e w1 ⟨rfl, rfl⟩
  rw [Hw.out]
  cases ha : atomB x.attr.var x.attr.sym
  · have Ha := Lib.hid ha
    go_wp2_with fail
    refine (atom_T _ x.attr.var x.attr.sym).mono ?_
    rintro e w1 ⟨rfl, hB1⟩
    rw [Ha.out]
    go_wp2_with fail
    go_ret
    exact ⟨by simp [actB, Hw.out, Ha.out], hB.trans (hB1.mono hB.size)⟩
  have Ha := Lib.hid ha
  clear ha
  go_wp2_with fail
  refine (atom_T _ x.attr.var x.attr.sym).mono ?_
  rintro e w1 ⟨rfl, hB1⟩
  rw [Ha.out]
  have hC1 := hB.trans (hB1.mono hB.size)
  obtain ⟨⟨q5, q6, q7, q8, q9, q10, q11, q12, q13⟩, -⟩ := Hcc.out w1 hB1
  cases ht : termB x.value
  · have Ht : Hid (termB ⟨x.value.op, x.value.a, x.value.b⟩ = false) := Lib.hid ht
    go_wp2_with fail
    refine (term_T _ x.value.op x.value.a x.value.b).mono ?_
    rintro e w2 ⟨rfl, hB2⟩
    rw [Ht.out]
    go_wp2_with fail
    go_ret
    have h3 : termB x.value = false := Ht.out
    exact ⟨by simp [actB, Hw.out, Ha.out, h3], hC1.trans (hB2.mono hC1.size)⟩
  have Ht : Hid (termB ⟨x.value.op, x.value.a, x.value.b⟩ = true) := Lib.hid ht
  clear ht
  go_wp2_with fail
  refine (term_T _ x.value.op x.value.a x.value.b).mono ?_
  rintro e w2 ⟨rfl, hB2⟩
  rw [Ht.out]
  have hC2 := hC1.trans (hB2.mono hC1.size)
  clear q5 q6 q7 q8 q9 q10 q11 q12 q13
  obtain ⟨-, q14, q15, q16, q17, q18⟩ := Hcc.out w2 (hB1.trans (hB2.mono hB1.size))
  go_wp2_with fail
  refine (pref_T _ x.pref x.other).mono ?_
  rintro e w3 ⟨rfl, hB3⟩
  go_wp2_with fail
  go_ret
  have h3 : termB x.value = true := Ht.out
  exact ⟨by simp [actB, Hw.out, Ha.out, h3], hC2.trans (hB3.mono hC2.size)⟩

end Go.Proofs.Ytmnpcpgdhaplaaa

namespace Go.Proofs.Ytmnpcpgdhaplaaa
open Go Go.RowKit

structure ProdV where
  name : ByteArray
  conds : SlH
  cs : List CondV
  acts : SlH
  xs : List ActV

abbrev actCells (a : ActV) : List Value := [.string a.id, .string a.attr.var, .int .i64 a.attr.sym.k, .string a.attr.sym.t, .int .i64 a.attr.sym.n, .int .i64 a.value.op, .string a.value.a.var, .int .i64 a.value.a.sym.k, .string a.value.a.sym.t, .int .i64 a.value.a.sym.n, .string a.value.b.var, .int .i64 a.value.b.sym.k, .string a.value.b.sym.t, .int .i64 a.value.b.sym.n, .int .i64 a.pref, .string a.other.var, .int .i64 a.other.sym.k, .string a.other.sym.t, .int .i64 a.other.sym.n]
def ProdOk (lo hi : Nat) (W : World) (p : ProdV) : Prop := CondsOk lo hi W p.conds p.cs ∧ RowIn lo hi 19 actCells W p.acts p.xs
theorem ProdOk.keep {lo hi : Nat} {W W' : World} {p : ProdV} (h : ProdOk lo hi W p) (hk : KeepIn lo hi W W') : ProdOk lo hi W' p := ⟨h.1.keep hk, h.2.keep hk⟩

def wholeE (p : ProdV) : Int := if !wordB p.name then 2 else if p.cs.length == 0 || (decide (16 < sizeL p.cs) || (p.xs.length == 0 || decide (16 < p.xs.length))) then 7 else 0

set_option maxRecDepth 100000 in
set_option maxHeartbeats 3200000 in
theorem whole_T (w : World) (lo hi : Nat) (p : ProdV) (h : ProdOk lo hi w p) (hhi : hi ≤ w.heap.size) (hs : sizeL p.cs ≤ 50000) :
    Calls Try.prog 38 #[.agg #[.string p.name, .slice p.conds.a p.conds.n p.conds.c, .slice p.acts.a p.acts.n p.acts.c]] w fun e w' => e = .returned (.int .i64 (wholeE p)) ∧ Below w.heap.size w w' := by
  have hB := (Below.refl w.heap.size w).alloc (Nat.le_refl _) (.cells #[.string p.name, .slice p.conds.a p.conds.n p.conds.c, .slice p.acts.a p.acts.n p.acts.c] 25)
  have hex := exceeds_T (w.alloc (.cells #[.string p.name, .slice p.conds.a p.conds.n p.conds.c, .slice p.acts.a p.acts.n p.acts.c] 25)) lo hi p.conds p.cs 16 (h.1.keep (KeepIn.of_below hB hhi)) (Nat.le_trans hhi hB.size) hs
  have nc : p.conds.n = p.cs.length := h.1.1.1
  have na : p.acts.n = p.xs.length := h.2.1
  have hcc : ∀ W, Below (w.alloc (.cells #[.string p.name, .slice p.conds.a p.conds.n p.conds.c, .slice p.acts.a p.acts.n p.acts.c] 25)).heap.size (w.alloc (.cells #[.string p.name, .slice p.conds.a p.conds.n p.conds.c, .slice p.acts.a p.acts.n p.acts.c] 25)) W → W.cell? ⟨w.heap.size, 2, none⟩ = some (.slice p.acts.a p.acts.n p.acts.c) := by
    intro W hW
    have hn := heap_alloc_new w (.cells #[.string p.name, .slice p.conds.a p.conds.n p.conds.c, .slice p.acts.a p.acts.n p.acts.c] 25)
    have := (hW.block _ (lt_of_block hn)).trans hn
    simp [World.cell?, this]
  rw [nc, na] at hB hex hcc ⊢
  have Hcc := Lib.hid hcc
  have e16 : (((16 : Nat)) : Int) = 16 := rfl
  rw [e16] at hex
  clear hcc h nc na e16
  cases hw : wordB p.name
  · have Hw := Lib.hid hw
    go_enter Try.func38, Try.ntmps38
    go_wp2_with fail
    refine (word_any _ p.name).mono ?_
    rintro e w1 ⟨rfl, rfl⟩
    rw [Hw.out]
    go_wp2_with fail
    go_ret
    exact ⟨by simp [wholeE, Hw.out], hB⟩
  have Hw := Lib.hid hw
  clear hw
  by_cases h0 : p.cs.length = 0
  · have b0 : ((p.cs.length : Int) == 0) = true := by simp [h0]
    have H0 := Lib.hid h0
    clear h0
    go_enter Try.func38, Try.ntmps38
    go_wp2_with fail
    refine (word_any _ p.name).mono ?_
    rintro e w1 ⟨rfl, rfl⟩
    rw [Hw.out]
    go_wp2_with fail
    go_ret
    exact ⟨by simp [wholeE, Hw.out, H0.out], hB⟩
  have b0 : ((p.cs.length : Int) == 0) = false := by simp [h0]
  have H0 := Lib.hid h0
  clear h0
  by_cases h1 : 16 < sizeL p.cs
  · rw [decide_eq_true h1] at hex
    have H1 := Lib.hid h1
    clear h1
    go_enter Try.func38, Try.ntmps38
    go_wp2_with fail
    refine (word_any _ p.name).mono ?_
    rintro e w1 ⟨rfl, rfl⟩
    rw [Hw.out]
    go_wp2_with fail
    refine hex.mono ?_
    rintro e w2 ⟨rfl, hB2⟩
    go_wp2_with fail
    go_ret
    exact ⟨by simp [wholeE, Hw.out, H0.out, H1.out], hB.trans (hB2.mono hB.size)⟩
  rw [decide_eq_false h1] at hex
  have H1 := Lib.hid h1
  clear h1
  by_cases h2 : p.xs.length = 0
  · have b2 : ((p.xs.length : Int) == 0) = true := by simp [h2]
    have H2 := Lib.hid h2
    clear h2
    go_enter Try.func38, Try.ntmps38
    go_wp2_with fail
    refine (word_any _ p.name).mono ?_
    rintro e w1 ⟨rfl, rfl⟩
    rw [Hw.out]
    go_wp2_with fail
    refine hex.mono ?_
    rintro e w2 ⟨rfl, hB2⟩
    have q2 := Hcc.out w2 hB2
    go_wp2_with fail
    go_ret
    exact ⟨by simp [wholeE, Hw.out, H0.out, H1.out, H2.out], hB.trans (hB2.mono hB.size)⟩
  have b2 : ((p.xs.length : Int) == 0) = false := by simp [h2]
  have H2 := Lib.hid h2
  clear h2
  by_cases h3 : 16 < p.xs.length
  · have b3 : ((16 : Int) < (p.xs.length : Int)) = True := eq_true (by omega)
    have H3 := Lib.hid h3
    clear h3
    go_enter Try.func38, Try.ntmps38
    go_wp2_with fail
    refine (word_any _ p.name).mono ?_
    rintro e w1 ⟨rfl, rfl⟩
    rw [Hw.out]
    go_wp2_with fail
    refine hex.mono ?_
    rintro e w2 ⟨rfl, hB2⟩
    have q2 := Hcc.out w2 hB2
    go_wp2_with fail
    go_ret
    exact ⟨by simp [wholeE, Hw.out, H0.out, H1.out, H2.out, H3.out], hB.trans (hB2.mono hB.size)⟩
  · have b3 : ((16 : Int) < (p.xs.length : Int)) = False := eq_false (by omega)
    have H3 : Hid (p.xs.length ≤ 16) := Lib.hid (by omega)
    clear h3
    go_enter Try.func38, Try.ntmps38
    go_wp2_with fail
    refine (word_any _ p.name).mono ?_
    rintro e w1 ⟨rfl, rfl⟩
    rw [Hw.out]
    go_wp2_with fail
    refine hex.mono ?_
    rintro e w2 ⟨rfl, hB2⟩
    have q2 := Hcc.out w2 hB2
    go_wp2_with fail
    go_ret
    exact ⟨by simp [wholeE, Hw.out, H0.out, Nat.not_lt.1 H1.out, H2.out, H3.out], hB.trans (hB2.mono hB.size)⟩

end Go.Proofs.Ytmnpcpgdhaplaaa

namespace Go.Proofs.Ytmnpcpgdhaplaaa
open Go Go.RowKit

/-- A variable: its name, how many became known before it. -/
structure VarV where
  name : ByteArray
  nth : Int

def varCmp (x y : VarV) : Int := scmp x.name y.name
theorem varCmp_lin : Lin varCmp := comap_lin VarV.name scmp_lin

set_option maxHeartbeats 800000 in
theorem var_compare (w : World) (x y : VarV) : Calls Try.prog 149 #[.agg #[.string x.name, .int .i64 x.nth], .agg #[.string y.name, .int .i64 y.nth]] w
    fun e w' => e = .returned (.int .i64 (varCmp x y)) ∧ Below w.heap.size w w' := by
  have hB0 : Below w.heap.size w ((w.alloc (.cells #[.string x.name, .int .i64 x.nth] 121)).alloc (.cells #[.string y.name, .int .i64 y.nth] 121)) := ((Below.refl _ w).alloc (Nat.le_refl _) _).alloc (by simp) _
  go_enter Try.func149, Try.ntmps149
  go_wp2_with fail
  refine (cmp_str _ x.name y.name).mono ?_
  rintro e w' ⟨rfl, rfl⟩
  go_wp2_with fail
  go_ret
  exact ⟨rfl, hB0⟩

end Go.Proofs.Ytmnpcpgdhaplaaa
