/- What the statements' own Shape answers. Conditions: the production lies in memory; at most 50000 conditions, 1000 actions; texts of at most maxLen bytes.
What suffices of a scope answers. Conditions: the scope lies in memory; at most 10000 variables. -/
import Derived.Test.YtmnpcpgdhaplaaaRefCond
import Derived.Test.YtmnpcpgdhaplaaaRefAct
import Derived.Test.YtmnpcpgdhaplaaaShShape
import Derived.Test.YtmnpcpgdhaplaaaMg19
namespace Go.Proofs.Ytmnpcpgdhaplaaa
open Go Go.RowKit

theorem refL_flat (p : ProdV) : refL 0 0 p.cs = firstBad (flatL 0 0 p.cs) := refL_eq _ _ (Nat.le_refl _) 0 0

set_option pp.deepTerms true
set_option pp.maxSteps 1000000
set_option maxRecDepth 100000 in
set_option maxHeartbeats 3200000 in
theorem refshape_T (w : World) (lo hi : Nat) (p : ProdV) (h : ProdOk lo hi w p) (hhi : hi ≤ w.heap.size) (hs : sizeL p.cs ≤ 50000) (hx : p.xs.length ≤ 1000) (hf : ProdFit p) :
    Calls Try.prog 14 #[.agg #[.string p.name, .slice p.conds.a p.conds.n p.conds.c, .slice p.acts.a p.acts.n p.acts.c]] w fun e w' => e = .returned (.tuple #[.int .i64 (shapeP p).1, .int .i64 (shapeP p).2]) ∧ Below w.heap.size w w' := by
  have na : p.acts.n = p.xs.length := h.2.1
  obtain ⟨aa, haa⟩ : ∃ a, p.acts.a = a := ⟨_, rfl⟩
  have hB := (Below.refl w.heap.size w).alloc (Nat.le_refl _) (.cells #[.string p.name, .slice p.conds.a p.conds.n p.conds.c, .slice p.acts.a p.acts.n p.acts.c] 25)
  have hnb := heap_alloc_new w (.cells #[.string p.name, .slice p.conds.a p.conds.n p.conds.c, .slice p.acts.a p.acts.n p.acts.c] 25)
  rw [na, haa] at hB hnb ⊢
  obtain ⟨W0, hW0⟩ : ∃ W0, W0 = w.alloc (.cells #[.string p.name, .slice p.conds.a p.conds.n p.conds.c, .slice aa p.xs.length p.acts.c] 25) := ⟨_, rfl⟩
  rw [← hW0] at hB hnb
  have hsize : ∀ W, Below w.heap.size w W → Calls Try.prog 43 #[.slice p.conds.a p.conds.n p.conds.c] W fun e w' => e = .returned (.int .i64 (sizeL p.cs)) ∧ w' = W := fun W hW => refsize_T lo hi _ p.cs (Nat.le_refl _) W p.conds (h.1.keep (KeepIn.of_below hW hhi)) (by omega)
  have hconds : ∀ W, Below w.heap.size w W → Calls Try.prog 44 #[.slice p.conds.a p.conds.n p.conds.c, .int .i64 0, .int .i64 0] W fun e w' => e = .returned (.tuple #[.int .i64 (refOut (refL 0 0 p.cs)).1, .int .i64 (refOut (refL 0 0 p.cs)).2]) ∧ Below W.heap.size W w' := fun W hW =>
    refconds_T lo hi (fun W c d h1 h2 h3 => refcond_T W lo hi c d h1 h2 h3) _ p.cs (Nat.le_refl _) W p.conds 0 0 (h.1.keep (KeepIn.of_below hW hhi)) hf.2.1 (Nat.le_trans hhi hW.size) (by omega) (by omega) (by omega) (by omega)
  have hacts : ∀ W, Below w.heap.size w W → RowIn lo hi 19 actCells W ⟨aa, p.xs.length, p.acts.c⟩ p.xs := fun W hW => by
    have := h.2.keep (KeepIn.of_below hW hhi)
    obtain ⟨h1, h2⟩ := this
    rw [haa] at h2
    exact ⟨rfl, h2⟩
  have Hsize := Lib.hid hsize
  have Hconds := Lib.hid hconds
  have Hacts := Lib.hid hacts
  have Hf := Lib.hid hf
  have HW0 := Lib.hid hW0
  have hpr : ∀ W, Below W0.heap.size W0 W → W.cell? ⟨w.heap.size, 1, none⟩ = some (.slice p.conds.a p.conds.n p.conds.c) ∧ W.cell? ⟨w.heap.size, 2, none⟩ = some (.slice aa p.xs.length p.acts.c) := fun W hW => by
    have := (hW.block _ (lt_of_block hnb)).trans hnb
    simp [World.cell?, this]
  have Hpr := Lib.hid hpr
  clear hsize hconds hacts h hf na haa hW0 hpr
  have hsz := hs
  cases hw : wordB p.name
  · have Hw := Lib.hid hw
    go_enter Try.func14, Try.ntmps14
    go_wp2_with fail
    rw [← HW0.out]
    refine (refword_T _ p.name Hf.out.1).mono ?_
    rintro e w1 ⟨rfl, rfl⟩
    rw [Hw.out]
    go_wp2_with fail
    go_ret2
    exact ⟨by simp [shapeP, wholeE, Hw.out], hB⟩
  have Hw := Lib.hid hw
  clear hw
  go_enter Try.func14, Try.ntmps14
  go_wp2_with fail
  rw [← HW0.out]
  refine (refword_T _ p.name Hf.out.1).mono ?_
  rintro e w1 ⟨rfl, rfl⟩
  rw [Hw.out]
  obtain ⟨q1, q2⟩ := Hpr.out W0 (Below.refl _ _)
  go_wp2_with fail
  refine (Hsize.out W0 hB).mono ?_
  rintro e w1 ⟨rfl, rfl⟩
  by_cases n1 : sizeL p.cs < 1
  · have r1 : ((sizeL p.cs : Int) < 1) = True := eq_true (by omega)
    have hcs : p.cs.length = 0 := by have := sizeL_le p.cs; omega
    have H1 := Lib.hid hcs
    clear n1 hcs
    go_wp2_with fail
    go_ret2
    exact ⟨by simp [shapeP, wholeE, Hw.out, H1.out], hB⟩
  have r1 : ((sizeL p.cs : Int) < 1) = False := eq_false (by omega)
  have hcs : p.cs.length ≠ 0 := fun h => by
    have : p.cs = [] := List.length_eq_zero_iff.1 h
    rw [this] at n1; simp [sizeL] at n1
  have H1 := Lib.hid hcs
  clear hcs
  by_cases n2 : 16 < sizeL p.cs
  · have r2 : (16 < (sizeL p.cs : Int)) = True := eq_true (by omega)
    have H2 := Lib.hid n2
    clear n2
    go_wp2_with fail
    go_ret2
    exact ⟨by simp [shapeP, wholeE, Hw.out, H1.out, H2.out], hB⟩
  have r2 : (16 < (sizeL p.cs : Int)) = False := eq_false (by omega)
  have H2 := Lib.hid n2
  by_cases n3 : p.xs.length < 1
  · have r3 : ((p.xs.length : Int) < 1) = True := eq_true (by omega)
    have H3 : Hid (p.xs.length = 0) := Lib.hid (by omega)
    clear n1 n2 n3
    go_wp2_with fail
    go_ret2
    exact ⟨by simp [shapeP, wholeE, Hw.out, H1.out, H2.out, H3.out], hB⟩
  have r3 : ((p.xs.length : Int) < 1) = False := eq_false (by omega)
  have H3 : Hid (p.xs.length ≠ 0) := Lib.hid (by omega)
  by_cases n4 : 16 < p.xs.length
  · have r4 : (16 < (p.xs.length : Int)) = True := eq_true (by omega)
    have H4 := Lib.hid n4
    clear n1 n2 n3 n4
    go_wp2_with fail
    go_ret2
    exact ⟨by simp [shapeP, wholeE, Hw.out, H1.out, H2.out, H3.out, H4.out], hB⟩
  have r4 : (16 < (p.xs.length : Int)) = False := eq_false (by omega)
  have H4 := Lib.hid n4
  have hwhole : wholeE p = 0 := by simp [wholeE, Hw.out, H1.out, H2.out, H3.out, H4.out]
  have Hwhole := Lib.hid hwhole
  clear n1 n2 n3 n4 hwhole
  go_wp2_with fail
  refine (Hconds.out _ hB).mono ?_
  rintro e w1 ⟨rfl, hB1⟩
  have hBw := hB.trans (hB1.mono hB.size)
  cases hr : refL 0 0 p.cs with
  | some r =>
    have Hr := Lib.hid hr
    have hne : (r.2 != 0) = true := by
      have := hr
      rw [refL_flat] at this
      simpa using firstBad_ne this
    have e2 : refOut (some r) = r := rfl
    rw [e2]
    clear hr e2
    go_wp2_with fail
    go_ret2
    have e3 := Hr.out
    rw [refL_flat] at e3
    exact ⟨by rw [shapeP, Hwhole.out, e3]; rfl, hBw⟩
  | none =>
    have Hr := Lib.hid hr
    have e2 : refOut none = (-1, 0) := rfl
    rw [e2]
    clear hr e2
    go_wp2_with fail
    go_loopg [7] p.xs.length (fun k iv wr => ∃ j : Nat, iv = .int .i64 j ∧ j ≤ p.xs.length ∧ Hid (k = p.xs.length - j ∧ ∀ a ∈ p.xs.take j, actB a = true) ∧ Below w1.heap.size w1 wr)
    case atStart => exact ⟨0, rfl, by omega, Lib.hid ⟨rfl, by simp⟩, Below.refl _ _⟩
    case round =>
      obtain ⟨j, rfl, hj, Hm, hBr⟩ := hrel
      have hBr0 := hB1.trans (hBr.mono hB1.size)
      have hBrw := hBw.trans (hBr.mono hBw.size)
      obtain ⟨q1, q2⟩ := Hpr.out wr hBr0
      by_cases hlt : j < p.xs.length
      · obtain ⟨a, ha⟩ : ∃ a, p.xs[j]? = some a := ⟨p.xs[j], by simp [hlt]⟩
        obtain ⟨b, off, -, -, haa2, hcell⟩ := (Hacts.out wr hBrw).at ha
        replace haa2 : aa = some ⟨b, off, none⟩ := haa2
        subst haa2
        have Hrange : Hid (wr.rangeAt b (off + j * 19) (actCells a)) := Lib.hid hcell
        have Ha := Lib.hid ha
        clear hcell ha
        go_wp2_with (refine wpList_load_mid rfl 59 _ rfl b (off + j * 19) rfl _ _ Hrange.out Try.underlying59 rfl (by kernel_rfl) ?_)
        refine (refact_T wr a (Hf.out.2.2 a (List.mem_of_getElem? Ha.out))).mono ?_
        rintro e w2 ⟨rfl, hB2⟩
        have hBr2 := hBr.trans (hB2.mono hBr.size)
        cases hact : actB a
        · have Hact := Lib.hid hact
          have wr1 : IntKind.i64.wrap ((sizeL p.cs : Int) + (j : Int)) = (sizeL p.cs : Int) + j := IntWalk.i64_in _ (by omega)
          clear hact
          go_wp2_with fail
          go_ret2
          have hidx : badAct p.xs = some j := by
            unfold badAct
            rw [List.findIdx?_eq_some_iff_getElem]
            obtain ⟨h1, h2⟩ := List.getElem?_eq_some_iff.1 Ha.out
            refine ⟨h1, by rw [h2, Hact.out]; rfl, fun i hi => ?_⟩
            have h3 : p.xs[i] ∈ p.xs.take j := List.mem_of_getElem? (i := i) (by rw [List.getElem?_take_of_lt hi]; exact List.getElem?_eq_getElem _)
            rw [Hm.out.2 _ h3]; simp
          have e3 := Hr.out
          rw [refL_flat] at e3
          exact ⟨by rw [shapeP, Hwhole.out, e3, hidx]; rfl, hBw.trans (hBr2.mono hBw.size)⟩
        · have Hact := Lib.hid hact
          clear hact
          go_wp2_with fail
          go_roundg (p.xs.length - (j + 1))
          case measure => rw [Hm.out.1]; omega
          case rel =>
            refine ⟨j + 1, by go_num, by omega, Lib.hid ⟨rfl, fun y hy => ?_⟩, hBr2⟩
            rw [List.take_add_one, Ha.out] at hy
            rcases List.mem_append.1 hy with hy | hy
            · exact Hm.out.2 y hy
            · obtain rfl : y = a := by simpa using hy
              exact Hact.out
      · obtain rfl : j = p.xs.length := by omega
        go_wp2_with fail
        go_ret2
        have hidx : badAct p.xs = none := by
          unfold badAct
          rw [List.findIdx?_eq_none_iff]
          intro x hx
          have h3 := Hm.out.2 x (by rw [List.take_length]; exact hx)
          rw [h3]; rfl
        have e3 := Hr.out
        rw [refL_flat] at e3
        exact ⟨by rw [shapeP, Hwhole.out, e3, hidx]; rfl, hBrw⟩

end Go.Proofs.Ytmnpcpgdhaplaaa

namespace Go.Proofs.Ytmnpcpgdhaplaaa
open Go Go.RowKit

def sufficesB (K : List ByteArray) (a : ActV) : Bool := allowsB K a.attr.var && (a.value.op == 0 || (allowsB K a.value.a.var && allowsB K a.value.b.var))

set_option maxRecDepth 100000 in
set_option maxHeartbeats 1600000 in
theorem suffices_T (w : World) (s : Nat) (K : List ByteArray) (x : ActV) (h : Sc w s K) (hK : K.length ≤ 10000) :
    Calls Try.prog 77 #[.agg #[.pointer (some ⟨s, 0, none⟩)], .agg #[.string x.id, .string x.attr.var, .int .i64 x.attr.sym.k, .string x.attr.sym.t, .int .i64 x.attr.sym.n, .int .i64 x.value.op, .string x.value.a.var, .int .i64 x.value.a.sym.k, .string x.value.a.sym.t, .int .i64 x.value.a.sym.n, .string x.value.b.var, .int .i64 x.value.b.sym.k, .string x.value.b.sym.t, .int .i64 x.value.b.sym.n, .int .i64 x.pref, .string x.other.var, .int .i64 x.other.sym.k, .string x.other.sym.t, .int .i64 x.other.sym.n]] w fun e w' => e = .returned (.bool (sufficesB K x)) ∧ Below w.heap.size w w' := by
  have hB0 : Below w.heap.size w ((w.alloc (.cells #[.pointer (some ⟨s, 0, none⟩)] 85)).alloc (.cells #[.string x.id, .string x.attr.var, .int .i64 x.attr.sym.k, .string x.attr.sym.t, .int .i64 x.attr.sym.n, .int .i64 x.value.op, .string x.value.a.var, .int .i64 x.value.a.sym.k, .string x.value.a.sym.t, .int .i64 x.value.a.sym.n, .string x.value.b.var, .int .i64 x.value.b.sym.k, .string x.value.b.sym.t, .int .i64 x.value.b.sym.n, .int .i64 x.pref, .string x.other.var, .int .i64 x.other.sym.k, .string x.other.sym.t, .int .i64 x.other.sym.n] 59)) := ((Below.refl _ w).alloc (Nat.le_refl _) _).alloc (by simp) _
  have hb0 : ((w.alloc (.cells #[.pointer (some ⟨s, 0, none⟩)] 85)).alloc (.cells #[.string x.id, .string x.attr.var, .int .i64 x.attr.sym.k, .string x.attr.sym.t, .int .i64 x.attr.sym.n, .int .i64 x.value.op, .string x.value.a.var, .int .i64 x.value.a.sym.k, .string x.value.a.sym.t, .int .i64 x.value.a.sym.n, .string x.value.b.var, .int .i64 x.value.b.sym.k, .string x.value.b.sym.t, .int .i64 x.value.b.sym.n, .int .i64 x.pref, .string x.other.var, .int .i64 x.other.sym.k, .string x.other.sym.t, .int .i64 x.other.sym.n] 59)).heap[w.heap.size]? = some (.cells #[.pointer (some ⟨s, 0, none⟩)] 85 (0, 0)) := (Below.heap_alloc _ _ _ (by simp)).trans (heap_alloc_new w _)
  have ha0 := heap_alloc_new (w.alloc (.cells #[.pointer (some ⟨s, 0, none⟩)] 85)) (.cells #[.string x.id, .string x.attr.var, .int .i64 x.attr.sym.k, .string x.attr.sym.t, .int .i64 x.attr.sym.n, .int .i64 x.value.op, .string x.value.a.var, .int .i64 x.value.a.sym.k, .string x.value.a.sym.t, .int .i64 x.value.a.sym.n, .string x.value.b.var, .int .i64 x.value.b.sym.k, .string x.value.b.sym.t, .int .i64 x.value.b.sym.n, .int .i64 x.pref, .string x.other.var, .int .i64 x.other.sym.k, .string x.other.sym.t, .int .i64 x.other.sym.n] 59)
  rw [World.size_alloc] at ha0
  generalize hW0 : ((w.alloc (.cells #[.pointer (some ⟨s, 0, none⟩)] 85)).alloc (.cells #[.string x.id, .string x.attr.var, .int .i64 x.attr.sym.k, .string x.attr.sym.t, .int .i64 x.attr.sym.n, .int .i64 x.value.op, .string x.value.a.var, .int .i64 x.value.a.sym.k, .string x.value.a.sym.t, .int .i64 x.value.a.sym.n, .string x.value.b.var, .int .i64 x.value.b.sym.k, .string x.value.b.sym.t, .int .i64 x.value.b.sym.n, .int .i64 x.pref, .string x.other.var, .int .i64 x.other.sym.k, .string x.other.sym.t, .int .i64 x.other.sym.n] 59)) = W0 at hB0 hb0 ha0
  have hq : ∀ W, Below W0.heap.size W0 W → (W.cell? ⟨w.heap.size, 0, none⟩ = some (.pointer (some ⟨s, 0, none⟩)) ∧ W.cell? ⟨w.heap.size + 1, 1, none⟩ = some (.string x.attr.var) ∧ W.cell? ⟨w.heap.size + 1, 5, none⟩ = some (.int .i64 x.value.op) ∧ W.cell? ⟨w.heap.size + 1, 6, none⟩ = some (.string x.value.a.var) ∧ W.cell? ⟨w.heap.size + 1, 10, none⟩ = some (.string x.value.b.var)) ∧ Sc W s K ∧ Below w.heap.size w W := by
    intro W hW
    have e1 := (hW.block _ (lt_of_block hb0)).trans hb0
    have e2 := (hW.block _ (lt_of_block ha0)).trans ha0
    have hBW := hB0.trans (hW.mono hB0.size)
    refine ⟨⟨cell_of_one e1, ?_⟩, h.below hBW, hBW⟩
    simp [World.cell?, e2]
  have Hq := Lib.hid hq
  obtain ⟨⟨q0, q1, q2, q3, q4⟩, hS0, -⟩ := hq W0 (Below.refl _ _)
  have hal := fun W (hS : Sc W s K) n => allows_T W s K n hS hK
  have Hal := Lib.hid hal
  clear hq h hal hb0 ha0
  cases h1 : allowsB K x.attr.var
  · have H1 := Lib.hid h1
    have hc := Hal.out W0 hS0 x.attr.var
    rw [h1] at hc
    go_enter Try.func77, Try.ntmps77
    go_wp2_with fail
    clear hW0
    refine hc.mono ?_
    rintro e w1 ⟨rfl, hB1⟩
    go_wp2_with fail
    go_ret
    exact ⟨by rw [sufficesB, H1.out]; rfl, hB0.trans (hB1.mono hB0.size)⟩
  have H1 := Lib.hid h1
  have hc := Hal.out W0 hS0 x.attr.var
  rw [h1] at hc
  clear h1
  cases h0 : (x.value.op == 0)
  case true =>
    have H0 := Lib.hid h0
    go_enter Try.func77, Try.ntmps77
    go_wp2_with fail
    clear hW0
    refine hc.mono ?_
    rintro e w1 ⟨rfl, hB1⟩
    obtain ⟨⟨r0, r1, r2, r3, r4⟩, hS1, hC1⟩ := Hq.out w1 hB1
    go_wp2_with fail
    go_ret
    exact ⟨by rw [sufficesB, H1.out, H0.out]; rfl, hC1⟩
  have H0 := Lib.hid h0
  go_enter Try.func77, Try.ntmps77
  go_wp2_with fail
  clear hW0
  refine hc.mono ?_
  rintro e w1 ⟨rfl, hB1⟩
  obtain ⟨⟨r0, r1, r2, r3, r4⟩, hS1, hC1⟩ := Hq.out w1 hB1
  have hca := Hal.out w1 hS1 x.value.a.var
  cases h2 : allowsB K x.value.a.var
  · have H2 := Lib.hid h2
    rw [h2] at hca
    go_wp2_with fail
    refine hca.mono ?_
    rintro e w2 ⟨rfl, hB2⟩
    go_wp2_with fail
    go_ret
    exact ⟨by rw [sufficesB, H1.out, H0.out, H2.out]; rfl, hC1.trans (hB2.mono hC1.size)⟩
  · have H2 := Lib.hid h2
    rw [h2] at hca
    go_wp2_with fail
    refine hca.mono ?_
    rintro e w2 ⟨rfl, hB2⟩
    obtain ⟨⟨s0, s1, s2, s3, s4⟩, hS2, hC2⟩ := Hq.out w2 (hB1.trans (hB2.mono hB1.size))
    have hcb := Hal.out w2 hS2 x.value.b.var
    clear r0 r1 r2 r3 r4
    go_wp2_with fail
    refine hcb.mono ?_
    rintro e w3 ⟨rfl, hB3⟩
    go_wp2_with fail
    go_ret
    exact ⟨by rw [sufficesB, H1.out, H0.out, H2.out]; rfl, hC2.trans (hB3.mono hC2.size)⟩

end Go.Proofs.Ytmnpcpgdhaplaaa
