/- What the statements' own cond answers. Conditions: the condition's lists lie in memory; texts of at most maxLen bytes. -/
import Derived.Test.YtmnpcpgdhaplaaaMg23
import Derived.Test.YtmnpcpgdhaplaaaShCond
namespace Go.Proofs.Ytmnpcpgdhaplaaa
open Go Go.RowKit

set_option pp.deepTerms true
set_option pp.maxSteps 1000000
set_option maxRecDepth 100000 in
set_option maxHeartbeats 3200000 in
theorem refsingle_T (w : World) (lo hi : Nat) (c : CondV) (d : Int) (h : CondOk lo hi w c) (hhi : hi ≤ w.heap.size) (hf : CondFit c) (k1 : (c.h.kind < 1) = False) (k4 : (3 < c.h.kind) = False) (k3 : (c.h.kind == 3) = false) :
    Calls Try.prog 72 #[.agg #[.int .i64 c.h.kind, .bool c.h.goal, .string c.h.id, .slice c.h.attr.a c.h.attr.n c.h.attr.c, .slice c.h.value.a c.h.value.n c.h.value.c, .bool c.h.acc, .slice c.h.conds.a c.h.conds.n c.h.conds.c], .int .i64 d] w fun e w' => e = .returned (.int .i64 (singleE c)) ∧ Below w.heap.size w w' := by
  have Hf := Lib.hid hf
  clear hf
  have hB := boxC w c
  obtain ⟨ha, hv, hi2⟩ := condOk_iff.1 h
  have na : c.h.attr.n = c.h.attrs.length := ha.1.1
  have nv : c.h.value.n = c.h.values.length := hv.1.1
  have ni : c.h.conds.n = c.inner.length := hi2.1.1
  have hta := fun hl => reftests_T (w.alloc (.cells #[.int .i64 c.h.kind, .bool c.h.goal, .string c.h.id, .slice c.h.attr.a c.h.attr.n c.h.attr.c, .slice c.h.value.a c.h.value.n c.h.value.c, .bool c.h.acc, .slice c.h.conds.a c.h.conds.n c.h.conds.c] 64)) lo hi c.h.attr c.h.attrs (ha.keep (KeepIn.of_below hB hhi)) (Nat.le_trans hhi hB.size) hl Hf.out.2.1
  have htv : ∀ W, Below w.heap.size w W → c.h.values.length ≤ 1000 → Calls Try.prog 93 #[.slice c.h.value.a c.h.value.n c.h.value.c] W fun e w' => e = .returned (.bool (testsB c.h.values)) ∧ Below W.heap.size W w' := fun W hW hl2 => reftests_T W lo hi c.h.value c.h.values (hv.keep (KeepIn.of_below hW hhi)) (Nat.le_trans hhi hW.size) hl2 Hf.out.2.2
  have Htv := Lib.hid htv
  rw [nv] at Htv
  rw [na, nv, ni] at hB hta ⊢
  clear htv h ha hv hi2 na nv ni
  have hcc : ∀ W, Below (w.alloc (.cells #[.int .i64 c.h.kind, .bool c.h.goal, .string c.h.id, .slice c.h.attr.a c.h.attrs.length c.h.attr.c, .slice c.h.value.a c.h.values.length c.h.value.c, .bool c.h.acc, .slice c.h.conds.a c.inner.length c.h.conds.c] 64)).heap.size (w.alloc (.cells #[.int .i64 c.h.kind, .bool c.h.goal, .string c.h.id, .slice c.h.attr.a c.h.attrs.length c.h.attr.c, .slice c.h.value.a c.h.values.length c.h.value.c, .bool c.h.acc, .slice c.h.conds.a c.inner.length c.h.conds.c] 64)) W → W.cell? ⟨w.heap.size, 4, none⟩ = some (.slice c.h.value.a c.h.values.length c.h.value.c) := by
    intro W hW
    have hn := heap_alloc_new w (.cells #[.int .i64 c.h.kind, .bool c.h.goal, .string c.h.id, .slice c.h.attr.a c.h.attrs.length c.h.attr.c, .slice c.h.value.a c.h.values.length c.h.value.c, .bool c.h.acc, .slice c.h.conds.a c.inner.length c.h.conds.c] 64)
    have := (hW.block _ (lt_of_block hn)).trans hn
    simp [World.cell?, this]
  have Hcc := Lib.hid hcc
  clear hcc
  by_cases hin : 0 < c.inner.length
  · have b1 : (0 < c.inner.length) = True := eq_true (by omega)
    have Hin := Lib.hid hin
    clear hin
    go_enter Try.func72, Try.ntmps72
    go_wp2_with fail
    go_ret
    exact ⟨by simp [singleE, Hin.out], hB⟩
  have hin0 : c.inner.length = 0 := by omega
  have b1 : (0 < c.inner.length) = False := eq_false (by omega)
  have Hin := Lib.hid hin0
  clear hin hin0
  cases hw : wordB c.h.id
  · have Hw := Lib.hid hw
    go_enter Try.func72, Try.ntmps72
    go_wp2_with fail
    refine (refword_T _ c.h.id Hf.out.1).mono ?_
    rintro e w1 ⟨rfl, rfl⟩
    rw [Hw.out]
    go_wp2_with fail
    go_ret
    exact ⟨by simp [singleE, Hin.out, Hw.out], hB⟩
  have Hw := Lib.hid hw
  clear hw
  by_cases h0 : c.h.attrs.length = 0
  · have b0 : ((c.h.attrs.length : Int) == 0) = true := by simp [h0]
    have H0 := Lib.hid h0
    clear h0
    go_enter Try.func72, Try.ntmps72
    go_wp2_with fail
    refine (refword_T _ c.h.id Hf.out.1).mono ?_
    rintro e w1 ⟨rfl, rfl⟩
    rw [Hw.out]
    go_wp2_with fail
    go_ret
    exact ⟨by simp [singleE, Hin.out, Hw.out, H0.out], hB⟩
  have b0 : ((c.h.attrs.length : Int) == 0) = false := by simp [h0]
  have H0 := Lib.hid h0
  clear h0
  by_cases h4 : 4 < c.h.attrs.length
  · have b4 : ((4 : Int) < (c.h.attrs.length : Int)) = True := eq_true (by omega)
    have H4 := Lib.hid h4
    clear h4
    go_enter Try.func72, Try.ntmps72
    go_wp2_with fail
    refine (refword_T _ c.h.id Hf.out.1).mono ?_
    rintro e w1 ⟨rfl, rfl⟩
    rw [Hw.out]
    go_wp2_with fail
    go_ret
    exact ⟨by simp [singleE, Hin.out, Hw.out, H0.out, H4.out], hB⟩
  have b4 : ((4 : Int) < (c.h.attrs.length : Int)) = False := eq_false (by omega)
  have H4 : Hid (¬ 4 < c.h.attrs.length) := Lib.hid h4
  clear h4
  by_cases h5 : 4 < c.h.values.length
  · have b5 : ((4 : Int) < (c.h.values.length : Int)) = True := eq_true (by omega)
    have H5 := Lib.hid h5
    clear h5
    go_enter Try.func72, Try.ntmps72
    go_wp2_with fail
    refine (refword_T _ c.h.id Hf.out.1).mono ?_
    rintro e w1 ⟨rfl, rfl⟩
    rw [Hw.out]
    go_wp2_with fail
    go_ret
    exact ⟨by simp [singleE, Hin.out, Hw.out, H0.out, H4.out, H5.out], hB⟩
  have b5 : ((4 : Int) < (c.h.values.length : Int)) = False := eq_false (by omega)
  have H5 : Hid (¬ 4 < c.h.values.length) := Lib.hid h5
  have hta := hta (by have := H4.out; omega)
  have h5o : c.h.values.length ≤ 1000 := by omega
  clear h5
  go_enter Try.func72, Try.ntmps72
  go_wp2_with fail
  refine (refword_T _ c.h.id Hf.out.1).mono ?_
  rintro e w1 ⟨rfl, rfl⟩
  rw [Hw.out]
  go_wp2_with fail
  refine hta.mono ?_
  rintro e w2 ⟨rfl, hB2⟩
  have q4 := Hcc.out w2 hB2
  have hC2 := hB.trans (hB2.mono hB.size)
  cases hca : testsB c.h.attrs
  · have Hca := Lib.hid hca
    go_wp2_with fail
    go_ret
    exact ⟨by simp [singleE, Hin.out, Hw.out, H0.out, H4.out, H5.out, Hca.out], hC2⟩
  · have Hca := Lib.hid hca
    go_wp2_with fail
    refine (Htv.out w2 hC2 h5o).mono ?_
    rintro e w3 ⟨rfl, hB3⟩
    cases hcv : testsB c.h.values
    · have Hcv := Lib.hid hcv
      go_wp2_with fail
      go_ret
      exact ⟨by simp [singleE, Hin.out, Hw.out, H0.out, H4.out, H5.out, Hca.out, Hcv.out], hC2.trans (hB3.mono hC2.size)⟩
    · have Hcv := Lib.hid hcv
      go_wp2_with fail
      go_ret
      exact ⟨by simp [singleE, Hin.out, Hw.out, H0.out, H4.out, H5.out, Hca.out, Hcv.out], hC2.trans (hB3.mono hC2.size)⟩

set_option maxRecDepth 100000 in
set_option maxHeartbeats 3200000 in
theorem refgroup_T (w : World) (lo hi : Nat) (c : CondV) (d : Int) (h : CondOk lo hi w c) (k1 : (c.h.kind < 1) = False) (k4 : (3 < c.h.kind) = False) (k3 : (c.h.kind == 3) = true) :
    Calls Try.prog 72 #[.agg #[.int .i64 c.h.kind, .bool c.h.goal, .string c.h.id, .slice c.h.attr.a c.h.attr.n c.h.attr.c, .slice c.h.value.a c.h.value.n c.h.value.c, .bool c.h.acc, .slice c.h.conds.a c.h.conds.n c.h.conds.c], .int .i64 d] w fun e w' => e = .returned (.int .i64 (groupE c d)) ∧ Below w.heap.size w w' := by
  have hB := boxC w c
  obtain ⟨ha, hv, hi2⟩ := condOk_iff.1 h
  have na : c.h.attr.n = c.h.attrs.length := ha.1.1
  have nv : c.h.value.n = c.h.values.length := hv.1.1
  have ni : c.h.conds.n = c.inner.length := hi2.1.1
  rw [na, nv, ni] at hB ⊢
  clear h ha hv hi2 na nv ni
  cases hg : c.h.goal
  case true =>
    have Hg := Lib.hid hg
    rw [hg] at hB
    clear hg
    go_enter Try.func72, Try.ntmps72
    go_wp2_with fail
    go_ret
    exact ⟨by simp [groupE, Hg.out], hB⟩
  have Hg := Lib.hid hg
  rw [hg] at hB
  clear hg
  cases he : c.h.id.toList.isEmpty
  · have He := Lib.hid he
    have he2 : ¬ c.h.id.toList = [] := by intro h; rw [h] at he; cases he
    go_enter Try.func72, Try.ntmps72
    go_wp2_with fail
    go_ret
    exact ⟨by simp only [groupE, Hg.out, He.out]; rfl, hB⟩
  have He := Lib.hid he
  have he2 : c.h.id.toList = [] := by simpa using he
  by_cases h1 : 0 < c.h.attrs.length
  · have b1 : (0 < c.h.attrs.length) = True := eq_true (by omega)
    have H1 := Lib.hid h1
    clear h1
    go_enter Try.func72, Try.ntmps72
    go_wp2_with fail
    go_ret
    exact ⟨by simp [groupE, H1.out], hB⟩
  have b1 : (0 < c.h.attrs.length) = False := eq_false (by omega)
  have H1 : Hid (c.h.attrs.length = 0) := Lib.hid (by omega)
  clear h1
  by_cases h2 : 0 < c.h.values.length
  · have b2 : (0 < c.h.values.length) = True := eq_true (by omega)
    have H2 := Lib.hid h2
    clear h2
    go_enter Try.func72, Try.ntmps72
    go_wp2_with fail
    go_ret
    exact ⟨by simp [groupE, H2.out], hB⟩
  have b2 : (0 < c.h.values.length) = False := eq_false (by omega)
  have H2 : Hid (c.h.values.length = 0) := Lib.hid (by omega)
  clear h2
  cases hac : c.h.acc
  case true =>
    have Hac := Lib.hid hac
    rw [hac] at hB
    clear hac
    go_enter Try.func72, Try.ntmps72
    go_wp2_with fail
    go_ret
    exact ⟨by simp [groupE, Hac.out], hB⟩
  have Hac := Lib.hid hac
  rw [hac] at hB
  clear hac
  by_cases h3 : c.inner.length = 0
  · have b3 : ((c.inner.length : Int) == 0) = true := by simp [h3]
    have H3 := Lib.hid h3
    clear h3
    go_enter Try.func72, Try.ntmps72
    go_wp2_with fail
    go_ret
    exact ⟨by simp [groupE, H3.out], hB⟩
  have b3 : ((c.inner.length : Int) == 0) = false := by simp [h3]
  have H3 := Lib.hid h3
  clear h3
  by_cases h4 : 3 ≤ d
  · have H4 := Lib.hid h4
    go_enter Try.func72, Try.ntmps72
    go_wp2_with fail
    go_ret
    exact ⟨by simp [groupE, Hg.out, He.out, H1.out, H2.out, Hac.out, H3.out, H4.out], hB⟩
  · have H4 := Lib.hid h4
    have b4 : ((3 : Int) ≤ d) = False := eq_false h4
    go_enter Try.func72, Try.ntmps72
    go_wp2_with fail
    go_ret
    exact ⟨by simp [groupE, Hg.out, He.out, H1.out, H2.out, Hac.out, H3.out, H4.out], hB⟩

set_option maxRecDepth 100000 in
set_option maxHeartbeats 1600000 in
theorem refcond_T (w : World) (lo hi : Nat) (c : CondV) (d : Int) (h : CondOk lo hi w c) (hhi : hi ≤ w.heap.size) (hf : CondFit c) :
    Calls Try.prog 72 #[.agg #[.int .i64 c.h.kind, .bool c.h.goal, .string c.h.id, .slice c.h.attr.a c.h.attr.n c.h.attr.c, .slice c.h.value.a c.h.value.n c.h.value.c, .bool c.h.acc, .slice c.h.conds.a c.h.conds.n c.h.conds.c], .int .i64 d] w fun e w' => e = .returned (.int .i64 (condE c d)) ∧ Below w.heap.size w w' := by
  by_cases k3 : c.h.kind = 3
  · have e1 : condE c d = groupE c d := by simp [condE, k3]
    rw [e1]
    exact refgroup_T w lo hi c d h (eq_false (by omega)) (eq_false (by omega)) (by simp [k3])
  by_cases k12 : 1 ≤ c.h.kind ∧ c.h.kind ≤ 3
  · have e1 : condE c d = singleE c := by
      have : c.h.kind = 1 ∨ c.h.kind = 2 := by omega
      rcases this with h1 | h1 <;> simp [condE, h1]
    rw [e1]
    exact refsingle_T w lo hi c d h hhi hf (eq_false (by omega)) (eq_false (by omega)) (by simp [k3])
  have e1 : condE c d = 9 := by
    have a1 : (c.h.kind == 1) = false := by simp; omega
    have a2 : (c.h.kind == 2) = false := by simp; omega
    have a3 : (c.h.kind == 3) = false := by simp; omega
    simp [condE, a1, a2, a3]
  rw [e1]
  clear e1
  have hB := boxC w c
  obtain ⟨ha, hv, hi2⟩ := condOk_iff.1 h
  have na : c.h.attr.n = c.h.attrs.length := ha.1.1
  have nv : c.h.value.n = c.h.values.length := hv.1.1
  have ni : c.h.conds.n = c.inner.length := hi2.1.1
  rw [na, nv, ni] at hB ⊢
  clear h ha hv hi2 na nv ni hf
  by_cases k1 : c.h.kind < 1
  · have p1 : (c.h.kind < 1) = True := eq_true k1
    clear k1 k12 k3
    go_enter Try.func72, Try.ntmps72
    go_wp2_with fail
    go_ret
    exact ⟨rfl, hB⟩
  · have p1 : (c.h.kind < 1) = False := eq_false k1
    have p2 : (3 < c.h.kind) = True := eq_true (by omega)
    clear k1 k12 k3
    go_enter Try.func72, Try.ntmps72
    go_wp2_with fail
    go_ret
    exact ⟨rfl, hB⟩

end Go.Proofs.Ytmnpcpgdhaplaaa
