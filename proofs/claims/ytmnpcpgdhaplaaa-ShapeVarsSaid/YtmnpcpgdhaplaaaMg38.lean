/- What Vars, the statements' own Vars and Texts answer. Conditions: what they are given lies in memory, and is small.
ShapeVars answers true. Conditions: the production lies in memory, its texts are no longer than may be, its row of conditions is no longer than its room.
How a law's row follows from its walk: the call answers true and leaves all that was there. Conditions: the law answers one bool; its parameters can be read. -/
import Derived.Test.YtmnpcpgdhaplaaaRefCheck
import Derived.Test.YtmnpcpgdhaplaaaMg35
import Derived.Test.YtmnpcpgdhaplaaaMg37
import Derived.Test.YtmnpcpgdhaplaaaKeepCopy
import Derived.Test.YtmnpcpgdhaplaaaMg1
import Derived.ProofKit
import Derived.OpenShut
import Derived.JoinedOf
import Derived.JoinedAt
import Derived.ChangeSame
import Derived.Carry
import Derived.WideKeyArgs
import Derived.ReadAgain
import Derived.ChangeSlices
namespace Go.Proofs.Ytmnpcpgdhaplaaa
open Go Go.RowKit

set_option pp.deepTerms true
set_option pp.maxSteps 1000000
set_option maxRecDepth 100000 in
set_option maxHeartbeats 1600000 in
theorem keeptexts_T (w : World) (lo hi lo' hi' : Nat) (s s' : SlH) (a b : List ByteArray) (h : RowIn lo hi 1 strCells w s a) (h' : RowIn lo' hi' 1 strCells w s' b) (hl : a.length ≤ 100000) :
    Calls Try.prog 20 #[.slice s.a s.n s.c, .slice s'.a s'.n s'.c] w fun e w' => e = .returned (.bool (decB (a = b))) ∧ ∃ n, w' = w.drewN n := by
  obtain ⟨p, m, c⟩ := s
  obtain ⟨p', m', c'⟩ := s'
  obtain rfl : m = a.length := h.1
  obtain rfl : m' = b.length := h'.1
  have Ha := Lib.hid h
  have Hb := Lib.hid h'
  clear h h'
  by_cases hlen : a.length = b.length
  case neg =>
    have g0 : ((a.length : Int) == (b.length : Int)) = false := by simp; omega
    have g1 : ((a.length : Int) = (b.length : Int)) = False := eq_false (by omega)
    have Hne : Hid (a ≠ b) := Lib.hid fun e => hlen (by rw [e])
    clear hlen
    go_enter Try.func20, Try.ntmps20
    go_wp2_with fail
    go_ret
    exact ⟨by rw [decB_f Hne.out]; rfl, 0, rfl⟩
  have g0 : ((a.length : Int) == (b.length : Int)) = true := by simp [hlen]
  have Hlen := Lib.hid hlen
  clear hlen
  go_enter Try.func20, Try.ntmps20
  go_wp2_with fail
  go_loopg [5] a.length (fun k iv wr => ∃ j : Nat, iv = .int .i64 j ∧ j ≤ a.length ∧ Hid (k = a.length - j ∧ a.take j = b.take j) ∧ ∃ n, wr = w.drewN n)
  case atStart => exact ⟨0, rfl, by omega, Lib.hid ⟨rfl, rfl⟩, 0, rfl⟩
  case round =>
    obtain ⟨j, rfl, hj, Hm, n, hwr⟩ := hrel
    have Hwr := Lib.hid hwr
    by_cases hlt : j < a.length
    · have hltb : j < b.length := by have := Hlen.out; omega
      obtain ⟨x, hx⟩ : ∃ x, a[j]? = some x := ⟨a[j], by simp [hlt]⟩
      obtain ⟨y, hy⟩ : ∃ x, b[j]? = some x := ⟨b[j], by simp [hltb]⟩
      obtain ⟨b1, o1, -, -, hs1, hc1⟩ := (hwr ▸ Ha.out.drewN n : RowIn lo hi 1 strCells wr _ _).at hx
      obtain ⟨b2, o2, -, -, hs2, hc2⟩ := (hwr ▸ Hb.out.drewN n : RowIn lo' hi' 1 strCells wr _ _).at hy
      replace hs1 : p = some ⟨b1, o1, none⟩ := hs1
      replace hs2 : p' = some ⟨b2, o2, none⟩ := hs2
      subst hs1 hs2
      have c0 : wr.cell? ⟨b1, o1 + j, none⟩ = some (.string x) := by have := hc1 0 _ rfl; simpa using this
      have d0 : wr.cell? ⟨b2, o2 + j, none⟩ = some (.string y) := by have := hc2 0 _ rfl; simpa using this
      have Hx := Lib.hid hx
      have Hy := Lib.hid hy
      clear hc1 hc2 hx hy hwr
      by_cases hs : x = y
      case neg =>
        obtain ⟨f1, f2⟩ := eqB _ _ hs
        have f5 : (x.toList != y.toList) = true := by simp [bne, f1]
        have Hne := Lib.hid hs
        clear hs
        go_wp2_with fail
        go_quiet (fail)
        go_wp2_with fail
        go_ret
        exact ⟨by rw [decB_f (ne_at Hx.out Hy.out Hne.out)]; rfl, _, by rw [Hwr.out, World.drewN_drewN]⟩
      · have f1 : (x.toList == y.toList) = true := by simp [hs]
        have f5 : (x.toList != y.toList) = false := by simp [bne, f1]
        have Heq := Lib.hid hs
        clear hs
        go_wp2_with fail
        go_quiet (fail)
        go_wp2_with fail
        go_roundg (a.length - (j + 1))
        case measure => rw [Hm.out.1]; omega
        case rel => exact ⟨j + 1, by go_num, by omega, Lib.hid ⟨rfl, take_step Hm.out.2 Hx.out Hy.out Heq.out⟩, _, by rw [Hwr.out, World.drewN_drewN]⟩
    · obtain rfl : j = a.length := by omega
      have Heq : Hid (a = b) := Lib.hid (by
        have := Hm.out.2
        rw [List.take_length, Hlen.out, List.take_length] at this
        exact this)
      clear hwr
      go_wp2_with fail
      go_ret
      exact ⟨by rw [decB_t Heq.out]; rfl, n, Hwr.out⟩

/-- The variables that are known behind all conditions, if the production may be. -/
def varsP (p : ProdV) : List ByteArray := if (surveyP p).2.2 == 0 then (surveyP p).1 else []

theorem survey_le (p : ProdV) : (surveyP p).1.length ≤ wtL p.cs := by
  have h := passL_le [] 0 p.cs
  simp only [List.length_nil, Nat.zero_add] at h
  unfold surveyP
  split
  · simp
  · split
    · simp
    · split
      · split <;> exact h
      · exact h
theorem vars_le (p : ProdV) : (varsP p).length ≤ wtL p.cs := by
  unfold varsP
  split
  · exact survey_le p
  · simp

set_option maxRecDepth 100000 in
set_option maxHeartbeats 1600000 in
theorem vars_T (w : World) (lo hi : Nat) (p : ProdV) (h : ProdOk lo hi w p) (hhi : hi ≤ w.heap.size) (hs : sizeL p.cs ≤ 50000) (hx : p.xs.length ≤ 1000) (hw : wtL p.cs ≤ 3900) :
    Calls Try.prog 19 #[.agg #[.string p.name, .slice p.conds.a p.conds.n p.conds.c, .slice p.acts.a p.acts.n p.acts.c]] w fun e w' => ∃ g c, e = .returned (.slice g (varsP p).length c) ∧ Mk strCells 9 1 w.heap.size w' (.slice g (varsP p).length c) (varsP p) ∧ Below w.heap.size w w' := by
  have hB0 := below2 w #[.string p.name, .slice p.conds.a p.conds.n p.conds.c, .slice p.acts.a p.acts.n p.acts.c] 25
  have hsv := survey_T (w.alloc (.cells #[.string p.name, .slice p.conds.a p.conds.n p.conds.c, .slice p.acts.a p.acts.n p.acts.c] 25)) lo hi p (h.keep (KeepIn.of_below hB0 hhi)) (Nat.le_trans hhi hB0.size) hs hx hw
  have Hle := Lib.hid (survey_le p)
  clear h
  go_enter Try.func19, Try.ntmps19
  go_wp2_with fail
  refine hsv.mono ?_
  rintro e w1 ⟨s, rfl, hsw, hSc, hB1⟩
  have hC1 := hB0.trans (hB1.mono hB0.size)
  have hBa := below2 w1 #[.pointer (some ⟨s, 0, none⟩)] 85
  have HSa := Lib.hid (hSc.below hBa)
  have HCa := Lib.hid (hC1.trans (hBa.mono hC1.size))
  have hnb := cell_of_one (heap_alloc_new w1 (.cells #[.pointer (some ⟨s, 0, none⟩)] 85))
  clear hBa hSc hsv
  by_cases he : (surveyP p).2.2 = 0
  · have g1 : ((surveyP p).2.2 == 0) = true := by simp [he]
    have g2 : ((surveyP p).2.2 != 0) = false := by simp [he]
    have Hv : Hid (varsP p = (surveyP p).1) := Lib.hid (by simp [varsP, he])
    clear he
    go_wp2_with fail
    refine (names_T _ s (surveyP p).1 HSa.out (by have := Hle.out; omega)).mono ?_
    rintro e w2 ⟨g, c, rfl, hM, hB2⟩
    go_wp2_with fail
    go_ret
    refine ⟨g, c, by rw [Hv.out]; rfl, ?_, HCa.out.trans (hB2.mono HCa.out.size)⟩
    rw [Hv.out]
    exact ownsRow_base hM fun b hb => Nat.le_trans HCa.out.size (ownsRow_block hM hb).1
  · have g1 : ((surveyP p).2.2 == 0) = false := by simp [he]
    have g2 : ((surveyP p).2.2 != 0) = true := by simp [he]
    have g3 : ((surveyP p).2.2 = 0) = False := eq_false he
    have Hv : Hid (varsP p = []) := Lib.hid (by simp [varsP, he])
    clear he
    go_wp2_with fail
    go_ret
    refine ⟨none, 0, by rw [Hv.out]; rfl, ?_, HCa.out⟩
    rw [Hv.out]
    exact Mk.nil

theorem survey_pass {p : ProdV} (h : (surveyP p).2.2 = 0) : (shapeP p).2 = 0 ∧ p.cs ≠ [] ∧ (passL [] 0 p.cs).2.2 = true ∧ (surveyP p).1 = (passL [] 0 p.cs).1 := by
  have h0 := h
  unfold surveyP at h
  split at h
  · rename_i h1
    exfalso
    exact absurd h (by simpa using h1)
  · rename_i h1
    have hsh : (shapeP p).2 = 0 := by simpa using h1
    split at h
    · cases h
    · rename_i h2
      split at h
      · rename_i h3
        refine ⟨hsh, whole_cs (shape_whole hsh), h3, ?_⟩
        unfold surveyP
        rw [if_neg h1, if_neg h2, if_pos h3]
        split <;> rfl
      · cases h

set_option maxRecDepth 100000 in
set_option maxHeartbeats 1600000 in
theorem refknown_T (w : World) (lo hi : Nat) (p : ProdV) (h : ProdOk lo hi w p) (hhi : hi ≤ w.heap.size) (hl : Light p) (hcap : p.conds.n ≤ p.conds.c) (hs : (surveyP p).2.2 = 0) :
    Calls Try.prog 53 #[.agg #[.string p.name, .slice p.conds.a p.conds.n p.conds.c, .slice p.acts.a p.acts.n p.acts.c], .int .i64 p.conds.n] w fun e w' => ∃ g c, e = .returned (.slice g (surveyP p).1.length c) ∧ RowIn 0 w'.heap.size 1 strCells w' ⟨g, (surveyP p).1.length, c⟩ (surveyP p).1 ∧ Below w.heap.size w w' := by
  obtain ⟨h1, h2, h3, h4⟩ := survey_pass hs
  obtain ⟨sz1, sz2, sz3⟩ := hl.sizes
  obtain ⟨l1, -, -, -⟩ := hl
  have hB0 := below2 w #[.string p.name, .slice p.conds.a p.conds.n p.conds.c, .slice p.acts.a p.acts.n p.acts.c] 25
  have hkn := refknows_T lo hi _ p.cs (Nat.le_refl _) (w.alloc (.cells #[.string p.name, .slice p.conds.a p.conds.n p.conds.c, .slice p.acts.a p.acts.n p.acts.c] 25)) p.conds 0 ⟨none, 0, 0⟩ [] (h.1.keep (KeepIn.of_below hB0 hhi)) (Nat.le_trans hhi hB0.size) (shapeP_shok h1) ⟨rfl, .inl rfl⟩ (by simp; omega) (by omega) (by omega)
  have hlen : p.conds.n = p.cs.length := h.1.1.1
  have hpos : 0 < p.conds.n := by rw [hlen]; exact List.length_pos_iff.2 h2
  obtain ⟨c0, hc0⟩ : ∃ c0, p.cs[0]? = some c0 := ⟨p.cs[0]'(by omega), List.getElem?_eq_getElem _⟩
  obtain ⟨b, off, -, -, hsa, -⟩ := h.1.1.at hc0
  have hc1 : (p.conds.n : Int) ≤ (p.conds.c : Int) := by omega
  have hc2 : (0 : Int) ≤ (p.conds.n : Int) := by omega
  rw [h4]
  rw [hsa] at hB0 hkn ⊢
  clear h hlen hpos hc0 hsa h4
  go_enter Try.func53, Try.ntmps53
  go_wp2_with fail
  refine hkn.mono ?_
  rintro e w1 ⟨hko, hB1⟩
  rcases hko with ⟨hr, g, cap, rfl, hrow⟩ | ⟨hr, rfl⟩
  case inr => rw [h3] at hr; cases hr
  have Hrow := Lib.hid hrow
  clear hrow
  go_wp2_with fail
  go_ret
  exact ⟨g, cap, rfl, Hrow.out, hB0.trans (hB1.mono hB0.size)⟩

set_option maxRecDepth 100000 in
set_option maxHeartbeats 1600000 in
theorem refvars_T (w : World) (lo hi : Nat) (p : ProdV) (h : ProdOk lo hi w p) (hhi : hi ≤ w.heap.size) (hl : Light p) (hf : ProdFit p) (hcap : p.conds.n ≤ p.conds.c) :
    Calls Try.prog 21 #[.agg #[.string p.name, .slice p.conds.a p.conds.n p.conds.c, .slice p.acts.a p.acts.n p.acts.c]] w fun e w' => ∃ g c, e = .returned (.slice g (varsP p).length c) ∧ RowIn 0 w'.heap.size 1 strCells w' ⟨g, (varsP p).length, c⟩ (varsP p) ∧ Below w.heap.size w w' := by
  have hP0 := pbox w p
  have hck := refcheck_T (w.alloc (.cells #[.string p.name, .slice p.conds.a p.conds.n p.conds.c, .slice p.acts.a p.acts.n p.acts.c] 25)) lo hi p (h.keep (KeepIn.of_below hP0.below hhi)) (Nat.le_trans hhi hP0.below.size) hl hf
  have Hh := Lib.hid h
  clear h
  go_enter Try.func21, Try.ntmps21
  go_wp2_with fail
  generalize (w.alloc (.cells #[.string p.name, .slice p.conds.a p.conds.n p.conds.c, .slice p.acts.a p.acts.n p.acts.c] 25)) = W0 at hP0 hck ⊢
  refine hck.mono ?_
  rintro e w1 ⟨rfl, hB1⟩
  have hP1 := hP0.next hB1
  obtain ⟨c0, c1, c2⟩ := hP1.cells
  clear hck
  by_cases he : (surveyP p).2.2 = 0
  · have g1 : ((surveyP p).2.2 == 0) = true := by simp [he]
    have g2 : ((surveyP p).2.2 != 0) = false := by simp [he]
    have Hv : Hid (varsP p = (surveyP p).1) := Lib.hid (by simp [varsP, he])
    have hkn := refknown_T w1 lo hi p (Hh.out.keep (KeepIn.of_below hP1.below hhi)) (Nat.le_trans hhi hP1.below.size) hl hcap he
    clear he
    go_wp2_with fail
    refine hkn.mono ?_
    rintro e w2 ⟨g, c, rfl, hrow, hB2⟩
    have Hrow := Lib.hid hrow
    clear hrow
    go_wp2_with fail
    go_ret
    refine ⟨g, c, by rw [Hv.out]; rfl, ?_, (hP1.next hB2).below⟩
    rw [Hv.out]
    exact Hrow.out
  · have g1 : ((surveyP p).2.2 == 0) = false := by simp [he]
    have g2 : ((surveyP p).2.2 != 0) = true := by simp [he]
    have g3 : ((surveyP p).2.2 = 0) = False := eq_false he
    have Hv : Hid (varsP p = []) := Lib.hid (by simp [varsP, he])
    clear he
    go_wp2_with fail
    go_ret
    refine ⟨none, 0, by rw [Hv.out]; rfl, ?_, hP1.below⟩
    rw [Hv.out]
    exact ⟨rfl, .inl rfl⟩

end Go.Proofs.Ytmnpcpgdhaplaaa

namespace Go.Proofs.Ytmnpcpgdhaplaaa
open Go Go.RowKit

set_option pp.deepTerms true
set_option pp.maxSteps 1000000
set_option maxRecDepth 100000 in
set_option maxHeartbeats 3200000 in
theorem varslaw_T (w : World) (p : ProdV) (h : ProdOk 0 w.heap.size w p) (hf : ProdFit p) (hcap : p.conds.n ≤ p.conds.c) :
    Calls Try.prog 5 #[.agg #[.string p.name, .slice p.conds.a p.conds.n p.conds.c, .slice p.acts.a p.acts.n p.acts.c]] w fun e w' => e = .returned (.bool true) ∧ Below w.heap.size w w' := by
  have hP0 := pbox w p
  have Hh := Lib.hid h
  have Hf := Lib.hid hf
  have Hcap := Lib.hid hcap
  clear h hf hcap
  go_enter Try.func5, Try.ntmps5
  go_wp2_with fail
  generalize (w.alloc (.cells #[.string p.name, .slice p.conds.a p.conds.n p.conds.c, .slice p.acts.a p.acts.n p.acts.c] 25)) = W0 at hP0 ⊢
  refine (heavy_T W0 0 w.heap.size p (Hh.out.keep (KeepIn.of_below hP0.below (Nat.le_refl _))) hP0.below.size).mono ?_
  rintro e w1 ⟨⟨b, rfl, hb⟩, hB1⟩
  have hP1 := hP0.next hB1
  have Hb := Lib.hid hb
  clear hb
  cases b
  case true =>
    go_wp2_with fail
    refine (wakes_T w1).mono ?_
    rintro e w2 ⟨rfl, hB2⟩
    go_wp2_with fail
    go_ret
    exact ⟨rfl, (hP1.next hB2).below⟩
  have hl := Hb.out (by trivial)
  have hsz := hl.sizes
  have hnl : (varsP p).length ≤ 3900 := Nat.le_trans (vars_le p) hsz.2.2
  obtain ⟨n, hn⟩ : ∃ n, (varsP p).length = n := ⟨_, rfl⟩
  have HN := Lib.hid hn
  clear hn
  have Hsz := Lib.hid hsz
  have hnl2 : (varsP p).length ≤ 100000 := by omega
  clear hsz
  obtain ⟨c0, c1, c2⟩ := hP1.cells
  go_wp2_with fail
  refine (vars_T w1 0 w.heap.size p (Hh.out.keep (KeepIn.of_below hP1.below (Nat.le_refl _))) hP1.below.size Hsz.out.1 Hsz.out.2.1 Hsz.out.2.2).mono ?_
  rintro e w2 ⟨g, c, rfl, hM, hB2⟩
  have hP2 := hP1.next hB2
  have HM := Lib.hid hM
  clear c0 c1 c2 hM
  obtain ⟨c0, c1, c2⟩ := hP2.cells
  go_wp2_with fail
  refine (refvars_T w2 0 w.heap.size p (Hh.out.keep (KeepIn.of_below hP2.below (Nat.le_refl _))) hP2.below.size hl Hf.out Hcap.out).mono ?_
  rintro e w3 ⟨g2, cc2, rfl, hrow, hB3⟩
  have hP3 := hP2.next hB3
  have Hrow := Lib.hid hrow
  have HM3 := Lib.hid (HM.out.below hB3)
  clear c0 c1 c2 hrow
  go_wp2_with fail
  refine (keeptexts_T w3 _ _ _ _ ⟨g, (varsP p).length, c⟩ ⟨g2, (varsP p).length, cc2⟩ (varsP p) (varsP p) (Mk.row (s := ⟨g, (varsP p).length, c⟩) strTy.len HM3.out) Hrow.out (by omega)).mono ?_
  rintro e w4 ⟨rfl, n4, hw4⟩
  rw [decB_t rfl]
  have hP4 : PBox w p w4 := by rw [hw4]; exact ⟨hP3.below.trans (below_drewN _ _ _), hP3.box⟩
  have hM4 : n = 0 ∨ ∃ gb cur, g = some ⟨gb, 0, none⟩ ∧ w1.heap.size ≤ gb ∧ w4.heap[gb]? = some (.cells cur 9 (0, 0)) ∧ n ≤ cur.size := by
    rcases HM3.out.2 with ⟨-, h0⟩ | ⟨gb, cap, cur, e, h1, h2, h3, -, h5, -⟩
    · exact .inl (by rw [← HN.out]; exact h0)
    · simp only [Value.slice.injEq] at e
      exact .inr ⟨gb, cur, e.1, h1, by rw [hw4]; exact h2, by rw [h5, ← HN.out, Nat.mul_one]; exact h3⟩
  have hw1 : w.heap.size < w1.heap.size := lt_of_block hP1.box
  rw [HN.out]
  rw [HN.out] at hnl
  clear hw4
  go_wp2_with fail
  go_loopg [4] n (fun k iv wr => ∃ j : Nat, iv = .int .i64 j ∧ j ≤ n ∧ Hid (k = n - j ∧ (n = 0 ∨ ∃ gb cur, g = some ⟨gb, 0, none⟩ ∧ w1.heap.size ≤ gb ∧ wr.heap[gb]? = some (.cells cur 9 (0, 0)) ∧ n ≤ cur.size)) ∧ PBox w p wr)
  case atStart => exact ⟨0, rfl, by omega, Lib.hid ⟨rfl, hM4⟩, hP4⟩
  case round =>
    obtain ⟨j, rfl, hj, Hm, hPr⟩ := hrel
    clear hM4 hP4
    by_cases hlt : j < n
    · obtain ⟨gb, cur, rfl, hg1, hg2, hg3⟩ := Hm.out.2.resolve_left (by omega)
      obtain ⟨u, hu⟩ : ∃ u, cur[j]? = some u := ⟨_, Array.getElem?_eq_getElem (by omega)⟩
      have e3 : wr.cell? ⟨gb, j, none⟩ = some u := by simp [World.cell?, hg2, hu]
      have e4 : wr.frozen? ⟨gb, j, none⟩ = false := by simp [World.frozen?, hg2]
      have F := Lib.hid (And.intro hg1 (And.intro hg2 hg3))
      clear hg1 hg2 hg3 hu
      go_wp2_with fail
      go_roundg (n - (j + 1))
      case measure => rw [Hm.out.1]; omega
      case rel =>
        obtain ⟨hg1, hg2, hg3⟩ := F.out
        refine ⟨j + 1, by go_num, by omega, Lib.hid ⟨rfl, .inr ⟨gb, _, rfl, hg1, set_blockC hg2 _, by simpa using hg3⟩⟩, ⟨hPr.below.setCell (p := ⟨gb, j, none⟩) (by show w.heap.size ≤ gb; omega) _, (Below.heap_setCell _ _ _ _ (by show w.heap.size ≠ gb; omega)).trans hPr.box⟩⟩
    · obtain rfl : j = n := by omega
      have hPd : PBox w p wr.drew := ⟨hPr.below.drew, hPr.box⟩
      have hSd := hPd.cells
      go_wp2_with fail
      go_region_held3 (fun W => W.cell? ⟨w.heap.size, 0, none⟩ = some (.string p.name) ∧ W.cell? ⟨w.heap.size, 1, none⟩ = some (.slice p.conds.a p.conds.n p.conds.c) ∧ W.cell? ⟨w.heap.size, 2, none⟩ = some (.slice p.acts.a p.acts.n p.acts.c))
        (first | go_keep | assumption)
        (first
          | ((with_reducible refine (vars_T wr.drew 0 w.heap.size p (Hh.out.keep (KeepIn.of_below hPd.below (Nat.le_refl _))) hPd.below.size Hsz.out.1 Hsz.out.2.1 Hsz.out.2.2).mono ?_); rintro e w5 ⟨g5, c5, rfl, hM5, hB5⟩; have hP5 := hPd.next hB5; have hS5 := hP5.cells; have HM5 := Lib.hid hM5; clear hM5)
          | ((with_reducible refine (refvars_T w5 0 w.heap.size p (Hh.out.keep (KeepIn.of_below hP5.below (Nat.le_refl _))) hP5.below.size hl Hf.out Hcap.out).mono ?_); rintro e w6 ⟨g6, c6, rfl, hrow6, hB6⟩; have hP6 := hP5.next hB6; have hS6 := hP6.cells; have HR6 := Lib.hid hrow6; clear hrow6; have HM6 := Lib.hid (HM5.out.below hB6))
          | ((with_reducible refine (keeptexts_T w6 _ _ _ _ ⟨g5, (varsP p).length, c5⟩ ⟨g6, (varsP p).length, c6⟩ (varsP p) (varsP p) (Mk.row (s := ⟨g5, (varsP p).length, c5⟩) strTy.len HM6.out) HR6.out hnl2).mono ?_); rintro e w7 ⟨rfl, n7, hw7⟩; rw [decB_t rfl]; have hP7 : PBox w p w7 := (by rw [hw7]; exact ⟨hP6.below.trans (below_drewN _ _ _), hP6.box⟩); have hS7 := hP7.cells; clear hw7)
          | ((with_reducible refine (wakes_T w7).mono ?_); rintro e w8 ⟨rfl, hB8⟩; have hP8 := hP7.next hB8; have hS8 := hP8.cells)
          | fail "no arm")
      go_wp2_with fail
      go_ret
      exact ⟨rfl, hP8.below⟩

end Go.Proofs.Ytmnpcpgdhaplaaa

namespace Go.Proofs.Ytmnpcpgdhaplaaa
open Go Go.RowKit Go.ChangeShapes Go.WideShapes Go.ChangeAt

section
variable {H : Type} {enc : TypeId × Value → H} {P : Program}

theorem trodAll_stays (hl : laidOutB P = true) {W W' : World} {sp : Nat → Bool} : ∀ {ts : List TypeId} {vs : List Value} {ds : List (DataW H)} {ps : List MemPlace},
    (∀ t ∈ ts, P.readableRec t = true ∧ t < P.types.size) → DataW.TrodAll enc P W 0 (fun _ => true) true ts vs ds ps → (∀ p ∈ ps, W.sameAt W' p) → (∀ p ∈ ps, sp p.block = true) → DataW.TrodAll enc P W' 0 sp true ts vs ds ps
  | [], _, _, _, _, h, _, _ => by
    obtain ⟨rfl, rfl, rfl⟩ := trodAll_nil h
    exact trodAll_mk0
  | t :: ts, _, _, _, hr, h, hsame, hs => by
    obtain ⟨v, vs, d, ds, p, q, rfl, rfl, rfl, h0, h1⟩ := trodAll_cons h
    exact trodAll_cons_mk (WideElems.Trod_stays hl (hr t (by simp)).1 (hr t (by simp)).2 h0 (fun x hx => hsame x (by simp [hx])) (fun x hx => hs x (by simp [hx])))
      (trodAll_stays hl (fun t' ht' => hr t' (by simp [ht'])) h1 (fun x hx => hsame x (by simp [hx])) (fun x hx => hs x (by simp [hx])))

/-- What the row asks behind the call. -/
theorem law_post {f : Func} {s : ChangeSpec} {W W' : World} {args : Array Value} {ds gs : List (DataW H)} {before : List MemPlace} {tb : TypeId}
    (hl : laidOutB P = true) (hrd : ∀ t ∈ f.params.toList, P.readableRec t = true ∧ t < P.types.size) (hr : f.resultTypes = #[tb]) (htb : P.underlying tb = some .bool) (hvars : s.vars = [])
    (hW : DataW.Whole enc P f.params.toList s.vars false W args.toList ds gs before) (hs : s.fn H (ds ++ gs) = { results := [.lit (.bool true)], args := ds }) (hB : Below W.heap.size W W') :
    s.post enc P f false true false false W args (.bool true) W' := by
  have hlt : ∀ p ∈ before, p.block < W.heap.size := fun p hp => hW.lt p hp
  have hW' := hW
  obtain ⟨p, q, hA, hV, rfl, -, -⟩ := hW
  rw [hvars] at hV
  obtain ⟨rfl, rfl⟩ := trodVars_none hV
  refine ⟨ds, [], p ++ [], [], p, [], hW', ?_, ?_, ?_, ?_, fun h => by cases h⟩
  · rw [hs, hr]
    exact ⟨[], [], ⟨1, by simp [DataW.trod, Value.cells, htb]⟩, rfl, rfl⟩
  · rw [hs]
    exact trodAll_stays hl hrd hA (fun x hx => hB.same (hlt x (by simp [hx]))) (fun x hx => by simpa using hlt x (by simp [hx]))
  · rw [hs, hvars]
    rfl
  · exact World.keptBut_mono (fun x hx => ⟨hx, .inr (.inl (by simpa using hx))⟩) (hB.frame (· ∈ p ++ []))
end

theorem own : ownKnob Try.prog.godebug = none := by kernel_rfl
theorem laidOut : laidOutB Try.prog = true := by kernel_rfl

end Go.Proofs.Ytmnpcpgdhaplaaa
