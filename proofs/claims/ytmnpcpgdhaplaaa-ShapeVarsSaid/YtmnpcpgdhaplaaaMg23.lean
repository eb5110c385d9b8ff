/- What the statements' own Const and atom answer. Conditions: texts of at most maxLen bytes.
What the statements' own test answers. Conditions: the list lies in memory; texts of at most maxLen bytes.
What the statements' own tests answers. Conditions: the tests lie in memory. -/
import Derived.Test.YtmnpcpgdhaplaaaMg22
import Derived.Test.YtmnpcpgdhaplaaaMg7
import Derived.Test.YtmnpcpgdhaplaaaMg19
namespace Go.Proofs.Ytmnpcpgdhaplaaa
open Go Go.RowKit

set_option maxHeartbeats 1600000 in
theorem refconst_T (w : World) (x : SymV) (hm : x.t.size ≤ maxLen) : Calls Try.prog 94 #[.agg #[.int .i64 x.k, .string x.t, .int .i64 x.n]] w fun e w' => e = .returned (.bool (constB x)) ∧ Below w.heap.size w w' := by
  have hB := boxS w x
  have hb := heap_alloc_new w (.cells #[.int .i64 x.k, .string x.t, .int .i64 x.n] 47)
  have hm' := Lib.hid hm
  clear hm
  cases hv : validB x
  all_goals
    have Hv := Lib.hid hv
    clear hv
    go_enter Try.func94, Try.ntmps94
    go_wp2_with fail
    generalize (w.alloc (.cells #[.int .i64 x.k, .string x.t, .int .i64 x.n] 47)) = W0 at hB hb ⊢
    refine (refvalid_T _ x hm'.out).mono ?_
    rintro e w1 ⟨rfl, hB1⟩
    have hb1 := (hB1.block _ (lt_of_block hb)).trans hb
    have c0 : w1.cell? ⟨w.heap.size, 0, none⟩ = some (.int .i64 x.k) := by simp [World.cell?, hb1]
    rw [Hv.out]
    go_wp2_with fail
    go_ret
    exact ⟨by rw [constB, Hv.out]; simp, hB.trans (hB1.mono hB.size)⟩

set_option maxHeartbeats 1600000 in
theorem refatom_T (w : World) (v : ByteArray) (x : SymV) (hv : v.size ≤ maxLen) (hm : x.t.size ≤ maxLen) : Calls Try.prog 73 #[.agg #[.string v, .int .i64 x.k, .string x.t, .int .i64 x.n]] w fun e w' => e = .returned (.bool (atomB v x)) ∧ Below w.heap.size w w' := by
  have hB := boxA w v x
  have hse := sym_equal'
  have hsg := sym_guard
  have Hv := Lib.hid hv
  have Hm := Lib.hid hm
  clear hv hm
  cases he : v.toList.isEmpty
  · have He := Lib.hid he
    have he2 : ¬ v.toList = [] := by intro h; rw [h] at he; cases he
    cases hw : wordB v
    all_goals
      have Hw := Lib.hid hw
      clear hw
      go_enter Try.func73, Try.ntmps73
      go_wp2_with fail
      refine (refword_T _ v Hv.out).mono ?_
      rintro e w1 ⟨rfl, rfl⟩
      rw [Hw.out]
      go_wp2_with fail
      go_ret
      exact ⟨by rw [atomB, He.out, Hw.out]; rfl, hB⟩
  · have He := Lib.hid he
    have he2 : v.toList = [] := by simpa using he
    go_enter Try.func73, Try.ntmps73
    go_wp2_with fail
    refine (refconst_T _ x Hm.out).mono ?_
    rintro e w1 ⟨rfl, hB1⟩
    go_wp2_with fail
    go_ret
    exact ⟨by rw [atomB, He.out]; rfl, hB.trans (hB1.mono hB.size)⟩

end Go.Proofs.Ytmnpcpgdhaplaaa

namespace Go.Proofs.Ytmnpcpgdhaplaaa
open Go Go.RowKit

theorem test_box {W : World} {b : Nat} {r k n : Int} {v x : ByteArray} {s : Value} {T : TypeId} (h : W.heap[b]? = some (.cells #[.int .i64 r, .string v, .int .i64 k, .string x, .int .i64 n, s] T (0, 0))) : W.cell? ⟨b, 0, none⟩ = some (.int .i64 r) ∧ W.cell? ⟨b, 1, none⟩ = some (.string v) ∧ W.cell? ⟨b, 2, none⟩ = some (.int .i64 k) ∧ W.cell? ⟨b, 3, none⟩ = some (.string x) ∧ W.cell? ⟨b, 4, none⟩ = some (.int .i64 n) ∧ W.cell? ⟨b, 5, none⟩ = some s := by simp [World.cell?, h]

set_option pp.deepTerms true
set_option pp.maxSteps 1000000
set_option maxRecDepth 100000 in
set_option maxHeartbeats 3200000 in
theorem reftest_T (w : World) (lo hi : Nat) (r : Int) (v : ByteArray) (x : SymV) (s : SlH) (l : List SymV) (h : RowIn lo hi 3 symCells w s l) (hhi : hi ≤ w.heap.size) (hf : TestFit ⟨r, v, x, s, l⟩) :
    Calls Try.prog 105 #[.agg #[.int .i64 r, .string v, .int .i64 x.k, .string x.t, .int .i64 x.n, .slice s.a s.n s.c]] w fun e w' => e = .returned (.bool (testB ⟨r, v, x, s, l⟩)) ∧ Below w.heap.size w w' := by
  have hB := boxT w r v x s
  have hse := sym_equal'
  have hsg := sym_guard
  obtain ⟨a, m, cp⟩ := s
  obtain rfl : m = l.length := h.1
  have hb := heap_alloc_new w (.cells #[.int .i64 r, .string v, .int .i64 x.k, .string x.t, .int .i64 x.n, .slice a l.length cp] 67)
  have Hf := Lib.hid hf
  have Hh := Lib.hid h
  clear h hf
  by_cases h8 : r = 8
  · subst h8
    have hp : plainRel 8 = false := by decide
    have Hp := Lib.hid hp
    clear hp
    cases he : v.toList.isEmpty
    · have He := Lib.hid he
      have he2 : ¬ v.toList = [] := by intro h; rw [h] at he; cases he
      clear he
      go_enter Try.func105, Try.ntmps105
      go_wp2_with fail
      go_ret
      exact ⟨by simp only [testB, Hp.out, He.out]; rfl, hB⟩
    have He := Lib.hid he
    have he2 : v.toList = [] := by simpa using he
    clear he
    cases hz : isZ x
    · have hs1 : same ⟨x.k, x.t, x.n⟩ ⟨0, ⟨#[]⟩, 0⟩ = false := hz
      have Hz := Lib.hid hz
      clear hz
      go_enter Try.func105, Try.ntmps105
      go_wp2_with fail
      go_ret
      exact ⟨by simp only [testB, Hp.out, He.out, Hz.out]; rfl, hB⟩
    have hs1 : same ⟨x.k, x.t, x.n⟩ ⟨0, ⟨#[]⟩, 0⟩ = true := hz
    have Hz := Lib.hid hz
    clear hz
    by_cases h0 : l.length = 0
    · have b0 : ((l.length : Int) < 1) = True := by simp [h0]
      have H0 := Lib.hid h0
      clear h0
      go_enter Try.func105, Try.ntmps105
      go_wp2_with fail
      go_ret
      exact ⟨by simp [testB, Hp.out, He.out, Hz.out, listB, H0.out], hB⟩
    have b0 : ((l.length : Int) < 1) = False := by simp; omega
    have H0 := Lib.hid h0
    clear h0
    by_cases h9 : 8 < l.length
    · have b9 : ((8 : Int) < l.length) = True := by simp; omega
      have H9 := Lib.hid h9
      clear h9
      go_enter Try.func105, Try.ntmps105
      go_wp2_with fail
      go_ret
      exact ⟨by simp [testB, Hp.out, He.out, Hz.out, listB, H9.out], hB⟩
    have b9 : ((8 : Int) < l.length) = False := by simp; omega
    have H9 := Lib.hid h9
    have hfin : testB ⟨8, v, x, ⟨a, l.length, cp⟩, l⟩ = l.all constB := by simp [testB, Hp.out, He.out, Hz.out, listB, H0.out, h9]
    have Hfin := Lib.hid hfin
    have hle8 : l.length ≤ 8 := by omega
    clear h9 hfin
    go_enter Try.func105, Try.ntmps105
    go_wp2_with fail
    generalize (w.alloc (.cells #[.int .i64 8, .string v, .int .i64 x.k, .string x.t, .int .i64 x.n, .slice a l.length cp] 67)) = W0 at hB hb ⊢
    go_loopg [3] l.length (fun k iv wr => ∃ j : Nat, iv = .int .i64 j ∧ j ≤ l.length ∧ Hid (k = l.length - j ∧ (l.take j).all constB = true) ∧ Below W0.heap.size W0 wr)
    case atStart => exact ⟨0, rfl, by omega, Lib.hid ⟨rfl, rfl⟩, Below.refl _ _⟩
    case round =>
      obtain ⟨j, rfl, hj, Hm, hBr⟩ := hrel
      have hb2 := (hBr.block _ (lt_of_block hb)).trans hb
      obtain ⟨-, -, -, -, -, q5⟩ := test_box hb2
      have hBr2 := hB.trans (hBr.mono hB.size)
      by_cases hlt : j < l.length
      · obtain ⟨y, hy⟩ : ∃ y, l[j]? = some y := ⟨l[j], by simp [hlt]⟩
        obtain ⟨b, off, -, -, hsa, hcell⟩ := (Hh.out.keep (KeepIn.of_below hBr2 hhi)).at hy
        replace hsa : a = some ⟨b, off, none⟩ := hsa
        subst hsa
        have c0 : wr.cell? ⟨b, off + j * 3, none⟩ = _ := hcell 0 _ rfl
        have c1 := hcell 1 _ rfl
        have c2 := hcell 2 _ rfl
        have Hy := Lib.hid hy
        clear hcell hy hb hb2
        go_wp2_with fail
        refine (refconst_T _ y (Hf.out.2.2 y (List.mem_of_getElem? Hy.out))).mono ?_
        rintro e w2 ⟨rfl, hB2⟩
        have hC := hBr.trans (hB2.mono hBr.size)
        cases hc : constB y
        · have H1 := Lib.hid hc
          clear hc
          go_wp2_with fail
          go_ret
          have e1 : l.all constB = false := by
            rw [List.all_eq_false]
            exact ⟨y, List.mem_of_getElem? Hy.out, by rw [H1.out]; simp⟩
          exact ⟨by rw [Hfin.out, e1]; rfl, hB.trans (hC.mono hB.size)⟩
        · have H1 := Lib.hid hc
          clear hc
          go_wp2_with fail
          go_roundg (l.length - (j + 1))
          case measure => rw [Hm.out.1]; omega
          case rel =>
            refine ⟨j + 1, by go_num, by omega, Lib.hid ⟨rfl, ?_⟩, hC⟩
            rw [List.take_add_one, Hy.out, List.all_append, Hm.out.2]
            simp [H1.out]
      · obtain rfl : j = l.length := by omega
        go_wp2_with fail
        go_ret
        have e1 : l.all constB = true := by have := Hm.out.2; rwa [List.take_length] at this
        exact ⟨by rw [Hfin.out, e1]; rfl, hBr2⟩
  · have p8 : (r == 8) = false := by simp [h8]
    have P8 := Lib.hid p8
    clear h8
    by_cases hr : 1 ≤ r ∧ r ≤ 7
    · have hp : plainRel r = true := (plainRel_iff r).2 (by omega)
      have Hp := Lib.hid hp
      obtain ⟨r1, r2⟩ := hr
      clear hp
      by_cases h0 : l.length = 0
      · have b0 : ((l.length : Int) == 0) = true := by simp [h0]
        have H0 := Lib.hid h0
        clear h0
        go_enter Try.func105, Try.ntmps105
        go_wp2_with fail
        refine (refatom_T _ v x Hf.out.1 Hf.out.2.1).mono ?_
        rintro e w1 ⟨rfl, hB1⟩
        go_wp2_with fail
        go_ret
        exact ⟨by simp [testB, Hp.out, H0.out], hB.trans (hB1.mono hB.size)⟩
      · have b0 : ((l.length : Int) == 0) = false := by simp [h0]
        have H0 := Lib.hid h0
        clear h0
        go_enter Try.func105, Try.ntmps105
        go_wp2_with fail
        go_ret
        exact ⟨by simp [testB, Hp.out, H0.out], hB⟩
    · have hp : plainRel r = false := by rw [← Bool.not_eq_true, plainRel_iff]; omega
      have Hp := Lib.hid hp
      clear hp
      by_cases r1 : 1 ≤ r
      · have r2 : ¬ r ≤ 7 := by omega
        clear hr
        go_enter Try.func105, Try.ntmps105
        go_wp2_with fail
        go_ret
        exact ⟨by simp only [testB, Hp.out, P8.out]; rfl, hB⟩
      · clear hr
        go_enter Try.func105, Try.ntmps105
        go_wp2_with fail
        go_ret
        exact ⟨by simp only [testB, Hp.out, P8.out]; rfl, hB⟩

end Go.Proofs.Ytmnpcpgdhaplaaa

namespace Go.Proofs.Ytmnpcpgdhaplaaa
open Go Go.RowKit

set_option pp.deepTerms true
set_option pp.maxSteps 1000000
set_option maxRecDepth 100000 in
set_option maxHeartbeats 1600000 in
theorem reftests_T (w : World) (lo hi : Nat)
    (s : SlH) (l : List TestV) (h : TestsOk lo hi w s l) (hhi : hi ≤ w.heap.size) (hl : l.length ≤ 1000) (hf : ∀ t ∈ l, TestFit t) : Calls Try.prog 93 #[.slice s.a s.n s.c] w fun e w' => e = .returned (.bool (testsB l)) ∧ Below w.heap.size w w' := by
  obtain ⟨a, m, cp⟩ := s
  obtain rfl : m = l.length := h.1.1
  have Hh := Lib.hid h
  have Hf := Lib.hid hf
  clear h hf
  go_enter Try.func93, Try.ntmps93
  go_wp2_with fail
  go_loopg [3] l.length (fun k iv wr => ∃ j : Nat, iv = .int .i64 j ∧ j ≤ l.length ∧ Hid (k = l.length - j ∧ (l.take j).all testB = true) ∧ Below w.heap.size w wr)
  case atStart => exact ⟨0, rfl, by omega, Lib.hid ⟨rfl, rfl⟩, Below.refl _ _⟩
  case round =>
    obtain ⟨j, rfl, hj, Hm, hB⟩ := hrel
    by_cases hlt : j < l.length
    · obtain ⟨t, hx⟩ : ∃ t, l[j]? = some t := ⟨l[j], by simp [hlt]⟩
      have hh := Hh.out.keep (KeepIn.of_below hB hhi)
      obtain ⟨b, off, -, -, hsa, hcell⟩ := hh.1.at hx
      replace hsa : a = some ⟨b, off, none⟩ := hsa
      subst hsa
      have c0 : wr.cell? ⟨b, off + j * 6, none⟩ = _ := hcell 0 _ rfl
      have c1 := hcell 1 _ rfl
      have c2 := hcell 2 _ rfl
      have c3 := hcell 3 _ rfl
      have c4 := hcell 4 _ rfl
      have c5 := hcell 5 _ rfl
      have hcall := reftest_T wr lo hi t.rel t.var t.sym t.lst t.syms (hh.2 t (List.mem_of_getElem? hx)) (Nat.le_trans hhi hB.size) (Hf.out t (List.mem_of_getElem? hx))
      have Hx := Lib.hid hx
      clear hcell hh hx
      go_wp2_with fail
      refine hcall.mono ?_
      rintro e w2 ⟨rfl, hB2⟩
      have hC := hB.trans (hB2.mono hB.size)
      cases ht : testB t
      · have H1 := Lib.hid ht
        clear ht
        go_wp2_with fail
        go_ret
        have e1 : testsB l = false := by
          rw [testsB, List.all_eq_false]
          exact ⟨t, List.mem_of_getElem? Hx.out, by rw [H1.out]; simp⟩
        exact ⟨by rw [e1]; rfl, hC⟩
      · have H1 := Lib.hid ht
        clear ht
        go_wp2_with fail
        go_roundg (l.length - (j + 1))
        case measure => rw [Hm.out.1]; omega
        case rel =>
          refine ⟨j + 1, by go_num, by omega, Lib.hid ⟨rfl, ?_⟩, hC⟩
          rw [List.take_add_one, Hx.out, List.all_append, Hm.out.2]
          simp [H1.out]
    · obtain rfl : j = l.length := by omega
      go_wp2_with fail
      go_ret
      have e1 : testsB l = true := by have := Hm.out.2; rwa [List.take_length] at this
      exact ⟨by rw [e1]; rfl, hB⟩

end Go.Proofs.Ytmnpcpgdhaplaaa
