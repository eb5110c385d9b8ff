/- What Check answers does not ask where things lie. Conditions: none.
What the statements' own Syms, Tests, Cond, Conds, Acts, Prod answer: whether two are the same, wherever they lie. Conditions: they lie in memory. -/
import Derived.Test.YtmnpcpgdhaplaaaKeepCopy
import Derived.Test.YtmnpcpgdhaplaaaScCheck
import Derived.BigQuiet
namespace Go.Proofs.Ytmnpcpgdhaplaaa
open Go Go.RowKit

theorem testB_bare (t : TestV) : testB (bareT t) = testB t := rfl
theorem testsB_bare (l : List TestV) : testsB (l.map bareT) = testsB l := by
  unfold testsB
  rw [List.all_map]
  rfl
theorem bareL_length (cs : List CondV) : (bareL cs).length = cs.length := by rw [bareL_map, List.length_map]
theorem condE_bare (c : CondV) (d : Int) : condE (bareC c) d = condE c d := by
  unfold condE singleE groupE
  rw [bareC_h, bareC_inner, bareL_length]
  simp only [List.length_map, testsB_bare]
theorem sizeL_bare (k : Nat) : ∀ cs, sizeL cs ≤ k → sizeL (bareL cs) = sizeL cs := by
  induction k with
  | zero =>
    intro cs h
    have := sizeL_le cs
    obtain rfl : cs = [] := List.length_eq_zero_iff.1 (by omega)
    rfl
  | succ k ih =>
    intro cs
    induction cs with
    | nil => intro _; rfl
    | cons c cs ih2 =>
      intro h
      rw [sizeL_cons] at h
      show sizeL (bareC c :: bareL cs) = _
      rw [sizeL_cons, sizeL_cons, bareC_inner, ih _ (by omega), ih2 (by omega)]
theorem flatL_bare (k : Nat) : ∀ cs, sizeL cs ≤ k → ∀ n d, flatL n d (bareL cs) = (flatL n d cs).map (fun x => (x.1, bareC x.2)) := by
  induction k with
  | zero =>
    intro cs h n d
    have := sizeL_le cs
    obtain rfl : cs = [] := List.length_eq_zero_iff.1 (by omega)
    rfl
  | succ k ih =>
    intro cs
    induction cs with
    | nil => intros; rfl
    | cons c cs ih2 =>
      intro h n d
      rw [sizeL_cons] at h
      show flatL n d (bareC c :: bareL cs) = _
      rw [flatL_cons, flatL_cons, bareC_inner, sizeL_bare _ _ (Nat.le_refl _), ih _ (by omega), ih2 (by omega), List.map_append, List.map_cons]
theorem firstBad_bare (cs : List CondV) (n d : Int) : firstBad (flatL n d (bareL cs)) = firstBad (flatL n d cs) := by
  rw [flatL_bare _ _ (Nat.le_refl _)]
  unfold firstBad
  rw [List.findSome?_map]
  congr 1
  funext x
  simp only [Function.comp, badC, condE_bare]
theorem meetTs_bare (K : List ByteArray) (l : List TestV) : meetTs K (l.map bareT) = meetTs K l := by
  induction l generalizing K with
  | nil => rfl
  | cons t l ih =>
    rw [List.map_cons, meetTs, meetTs]
    simp only [bareT, ih]
    rfl
theorem meetH_bare (K : List ByteArray) (c : CondV) : meetH K (bareC c).h = meetH K c.h := by
  rw [bareC_h]
  unfold meetH
  simp only [meetTs_bare]
theorem passL_bare (k : Nat) : ∀ cs, sizeL cs ≤ k → ∀ K z, passL K z (bareL cs) = passL K z cs := by
  induction k with
  | zero =>
    intro cs h K z
    have := sizeL_le cs
    obtain rfl : cs = [] := List.length_eq_zero_iff.1 (by omega)
    rfl
  | succ k ih =>
    intro cs
    induction cs with
    | nil => intros; rfl
    | cons c cs ih2 =>
      intro h K z
      rw [sizeL_cons] at h
      have hc : passC K z (bareC c) = passC K z c := by
        rw [passC_eq, passC_eq, meetH_bare, bareC_inner, ih _ (by omega), bareC_h]
      show passL K z (bareC c :: bareL cs) = _
      rw [passL_cons, passL_cons, hc, ih2 (by omega)]
theorem wholeE_bare (p : ProdV) : wholeE (bareP p) = wholeE p := by
  unfold wholeE bareP
  simp only [bareL_length, sizeL_bare _ _ (Nat.le_refl _)]
theorem shapeP_bare (p : ProdV) : shapeP (bareP p) = shapeP p := by
  unfold shapeP
  rw [wholeE_bare]
  show (if wholeE p != 0 then (-1, wholeE p) else match firstBad (flatL 0 0 (bareL p.cs)) with | some r => r | none => match badAct p.xs with | some i => ((sizeL (bareL p.cs) : Int) + i, 9) | none => (-1, 0)) = _
  rw [firstBad_bare, sizeL_bare _ _ (Nat.le_refl _)]
  rfl
theorem surveyP_bare (p : ProdV) : surveyP (bareP p) = surveyP p := by
  unfold surveyP
  rw [shapeP_bare]
  have h1 : ((bareP p).cs.head?.map fun c => c.h.kind) = (p.cs.head?.map fun c => c.h.kind) := by
    show ((bareL p.cs).head?.map fun c => c.h.kind) = _
    cases p.cs with
    | nil => rfl
    | cons c cs => show some (bareC c).h.kind = some c.h.kind; rw [bareC_h]
  have h2 : ∀ K z, passL K z (bareP p).cs = passL K z p.cs := fun K z => passL_bare _ p.cs (Nat.le_refl _) K z
  rw [h1, h2]
  rfl
theorem survey_same {p q : ProdV} (h : bareP q = bareP p) : surveyP q = surveyP p := by rw [← surveyP_bare q, h, surveyP_bare]
theorem shape_same {p q : ProdV} (h : bareP q = bareP p) : shapeP q = shapeP p := by rw [← shapeP_bare q, h, shapeP_bare]

theorem wt_bareC (k : Nat) : ∀ cs, sizeL cs ≤ k → wtL (bareL cs) = wtL cs := by
  induction k with
  | zero =>
    intro cs h
    have := sizeL_le cs
    obtain rfl : cs = [] := List.length_eq_zero_iff.1 (by omega)
    rfl
  | succ k ih =>
    intro cs
    induction cs with
    | nil => intro _; rfl
    | cons c cs ih2 =>
      intro h
      rw [sizeL_cons] at h
      show wtL (bareC c :: bareL cs) = _
      rw [wtL_cons, wtL_cons, CondV.wt_eq, CondV.wt_eq, bareC_inner, ih _ (by omega), ih2 (by omega), bareC_h]
      simp only [List.length_map]

/-- What is small is so wherever it lies. -/
theorem sizes_same {p q : ProdV} (h : bareP q = bareP p) (hl : Light p) : sizeL q.cs ≤ 50000 ∧ q.xs.length ≤ 1000 ∧ wtL q.cs ≤ 3900 := by
  have e1 : bareL q.cs = bareL p.cs := by have := congrArg ProdV.cs h; exact this
  have e2 : q.xs = p.xs := by have := congrArg ProdV.xs h; exact this
  have e3 : sizeL q.cs = sizeL p.cs := by rw [← sizeL_bare _ q.cs (Nat.le_refl _), e1, sizeL_bare _ p.cs (Nat.le_refl _)]
  have e4 : wtL q.cs = wtL p.cs := by rw [← wt_bareC _ q.cs (Nat.le_refl _), e1, wt_bareC _ p.cs (Nat.le_refl _)]
  rw [e2, e3, e4]
  exact hl.sizes

end Go.Proofs.Ytmnpcpgdhaplaaa

namespace Go.Proofs.Ytmnpcpgdhaplaaa
open Go Go.RowKit

theorem take_step {α : Type} {a b : List α} {j : Nat} {x y : α} (h : a.take j = b.take j) (hx : a[j]? = some x) (hy : b[j]? = some y) (e : x = y) : a.take (j + 1) = b.take (j + 1) := by
  rw [List.take_add_one, List.take_add_one, h, hx, hy, e]
theorem ne_at {α : Type} {a b : List α} {j : Nat} {x y : α} (hx : a[j]? = some x) (hy : b[j]? = some y) (e : x ≠ y) : a ≠ b := fun h => by
  rw [h, hy] at hx
  exact e (Option.some.inj hx).symm

theorem eqG (a b : Int) (h : a ≠ b) : (a == b) = false := by simp [h]
/-- Is it so? -/
noncomputable def decB (p : Prop) : Bool := @decide p (Classical.propDecidable p)
theorem decB_t {p : Prop} (h : p) : decB p = true := by unfold decB; exact @decide_eq_true p (Classical.propDecidable p) h
theorem decB_f {p : Prop} (h : ¬ p) : decB p = false := by unfold decB; exact @decide_eq_false p (Classical.propDecidable p) h
theorem decB_iff {p : Prop} : decB p = true ↔ p := by
  constructor
  · intro h
    rcases Classical.em p with hp | hp
    · exact hp
    · rw [decB_f hp] at h; cases h
  · exact decB_t
theorem drewN_zero (w : World) : w.drewN 0 = w := rfl
theorem RowIn.drewN {α : Type} {lo hi k : Nat} {cells : α → List Value} {W : World} {s : SlH} {xs : List α} (h : RowIn lo hi k cells W s xs) (n : Nat) : RowIn lo hi k cells (W.drewN n) s xs := h.keep (fun _ _ _ _ _ _ h => h)
theorem TestsOk.drewN {lo hi : Nat} {W : World} {s : SlH} {xs : List TestV} (h : TestsOk lo hi W s xs) (n : Nat) : TestsOk lo hi (W.drewN n) s xs := h.keep (fun _ _ _ _ _ _ h => h)

set_option pp.deepTerms true
set_option pp.maxSteps 1000000
set_option maxRecDepth 100000 in
set_option maxHeartbeats 1600000 in
theorem keepsyms_T (w : World) (lo hi lo' hi' : Nat) (s s' : SlH) (a b : List SymV) (h : RowIn lo hi 3 symCells w s a) (h' : RowIn lo' hi' 3 symCells w s' b) (hl : a.length ≤ 100000) :
    Calls Try.prog 27 #[.slice s.a s.n s.c, .slice s'.a s'.n s'.c] w fun e w' => e = .returned (.bool (decB (a = b))) ∧ ∃ n, w' = w.drewN n := by
  obtain ⟨p, m, c⟩ := s
  obtain ⟨p', m', c'⟩ := s'
  obtain rfl : m = a.length := h.1
  obtain rfl : m' = b.length := h'.1
  have Ha := Lib.hid h
  have Hb := Lib.hid h'
  have hse := sym_equal'
  have hsg := sym_guard
  clear h h'
  by_cases hlen : a.length = b.length
  case neg =>
    have g0 : ((a.length : Int) == (b.length : Int)) = false := by simp; omega
    have g1 : ((a.length : Int) = (b.length : Int)) = False := eq_false (by omega)
    have Hne : Hid (a ≠ b) := Lib.hid fun e => hlen (by rw [e])
    clear hlen
    go_enter Try.func27, Try.ntmps27
    go_wp2_with fail
    go_ret
    exact ⟨by rw [decB_f Hne.out]; rfl, 0, rfl⟩
  have g0 : ((a.length : Int) == (b.length : Int)) = true := by simp [hlen]
  have Hlen := Lib.hid hlen
  clear hlen
  go_enter Try.func27, Try.ntmps27
  go_wp2_with fail
  go_loopg [5] a.length (fun k iv wr => ∃ j : Nat, iv = .int .i64 j ∧ j ≤ a.length ∧ Hid (k = a.length - j ∧ a.take j = b.take j) ∧ ∃ n, wr = w.drewN n)
  case atStart => exact ⟨0, rfl, by omega, Lib.hid ⟨rfl, rfl⟩, 0, rfl⟩
  case round =>
    obtain ⟨j, rfl, hj, Hm, n, hwr⟩ := hrel
    have Hwr := Lib.hid hwr
    by_cases hlt : j < a.length
    · have hltb : j < b.length := by have := Hlen.out; omega
      obtain ⟨x, hx⟩ : ∃ x, a[j]? = some x := ⟨a[j], by simp [hlt]⟩
      obtain ⟨y, hy⟩ : ∃ x, b[j]? = some x := ⟨b[j], by simp [hltb]⟩
      obtain ⟨b1, o1, -, -, hs1, hc1⟩ := (hwr ▸ Ha.out.drewN n : RowIn lo hi 3 symCells wr _ _).at hx
      obtain ⟨b2, o2, -, -, hs2, hc2⟩ := (hwr ▸ Hb.out.drewN n : RowIn lo' hi' 3 symCells wr _ _).at hy
      replace hs1 : p = some ⟨b1, o1, none⟩ := hs1
      replace hs2 : p' = some ⟨b2, o2, none⟩ := hs2
      subst hs1 hs2
      have c0 : wr.cell? ⟨b1, o1 + j * 3, none⟩ = _ := hc1 0 _ rfl
      have c1 := hc1 1 _ rfl
      have c2 := hc1 2 _ rfl
      have d0 : wr.cell? ⟨b2, o2 + j * 3, none⟩ = _ := hc2 0 _ rfl
      have d1 := hc2 1 _ rfl
      have d2 := hc2 2 _ rfl
      have Hx := Lib.hid hx
      have Hy := Lib.hid hy
      clear hc1 hc2 hx hy hwr
      cases hs : same x y
      · have hs1 : same ⟨x.k, x.t, x.n⟩ ⟨y.k, y.t, y.n⟩ = false := hs
        have Hne : Hid (x ≠ y) := Lib.hid fun e => by rw [same_iff.2 e] at hs; cases hs
        clear hs
        go_wp2_with fail
        go_quiet (fail)
        go_wp2_with fail
        go_ret
        exact ⟨by rw [decB_f (ne_at Hx.out Hy.out Hne.out)]; rfl, _, by rw [Hwr.out, World.drewN_drewN]⟩
      · have hs1 : same ⟨x.k, x.t, x.n⟩ ⟨y.k, y.t, y.n⟩ = true := hs
        have Heq : Hid (x = y) := Lib.hid (same_iff.1 hs)
        clear hs
        go_wp2_with fail
        go_quiet (fail)
        go_wp2_with fail
        go_roundg (a.length - (j + 1))
        case measure => rw [Hm.out.1]; omega
        case rel => exact ⟨j + 1, by go_num, by omega, Lib.hid ⟨rfl, take_step Hm.out.2 Hx.out Hy.out Heq.out⟩, _, by rw [Hwr.out, World.drewN_drewN]⟩
    · obtain rfl : j = a.length := by omega
      have Heq : Hid (a = b) := Lib.hid (by
        have := Hm.out.2
        rw [List.take_length, Hlen.out, List.take_length] at this
        exact this)
      clear hwr
      go_wp2_with fail
      go_ret
      exact ⟨by rw [decB_t Heq.out]; rfl, n, Hwr.out⟩

theorem bareT_iff {x y : TestV} : bareT x = bareT y ↔ x.rel = y.rel ∧ x.var = y.var ∧ x.sym = y.sym ∧ x.syms = y.syms := by
  simp [bareT]

set_option maxRecDepth 100000 in
set_option maxHeartbeats 3200000 in
theorem keeptests_T (w : World) (lo hi lo' hi' : Nat) (s s' : SlH) (a b : List TestV) (h : TestsOk lo hi w s a) (h' : TestsOk lo' hi' w s' b) (hl : a.length ≤ 100000) (hls : ∀ t ∈ a, t.syms.length ≤ 100000) :
    Calls Try.prog 84 #[.slice s.a s.n s.c, .slice s'.a s'.n s'.c] w fun e w' => e = .returned (.bool (decB (a.map bareT = b.map bareT))) ∧ ∃ n, w' = w.drewN n := by
  obtain ⟨p, m, c⟩ := s
  obtain ⟨p', m', c'⟩ := s'
  obtain rfl : m = a.length := h.1.1
  obtain rfl : m' = b.length := h'.1.1
  have Ha := Lib.hid h
  have Hb := Lib.hid h'
  have Hls := Lib.hid hls
  have hse := sym_equal'
  have hsg := sym_guard
  clear h h' hls
  by_cases hlen : a.length = b.length
  case neg =>
    have g0 : ((a.length : Int) == (b.length : Int)) = false := by simp; omega
    have g1 : ((a.length : Int) = (b.length : Int)) = False := eq_false (by omega)
    have Hne : Hid (a.map bareT ≠ b.map bareT) := Lib.hid fun e => hlen (by simpa using congrArg List.length e)
    clear hlen
    go_enter Try.func84, Try.ntmps84
    go_wp2_with fail
    go_ret
    exact ⟨by rw [decB_f Hne.out]; rfl, 0, rfl⟩
  have g0 : ((a.length : Int) == (b.length : Int)) = true := by simp [hlen]
  have Hlen := Lib.hid hlen
  clear hlen
  go_enter Try.func84, Try.ntmps84
  go_wp2_with fail
  go_loopg [5] a.length (fun k iv wr => ∃ j : Nat, iv = .int .i64 j ∧ j ≤ a.length ∧ Hid (k = a.length - j ∧ (a.map bareT).take j = (b.map bareT).take j) ∧ ∃ n, wr = w.drewN n)
  case atStart => exact ⟨0, rfl, by omega, Lib.hid ⟨rfl, rfl⟩, 0, rfl⟩
  case round =>
    obtain ⟨j, rfl, hj, Hm, n, hwr⟩ := hrel
    have Hwr := Lib.hid hwr
    by_cases hlt : j < a.length
    · have hltb : j < b.length := by have := Hlen.out; omega
      obtain ⟨x, hx⟩ : ∃ x, a[j]? = some x := ⟨a[j], by simp [hlt]⟩
      obtain ⟨y, hy⟩ : ∃ x, b[j]? = some x := ⟨b[j], by simp [hltb]⟩
      obtain ⟨b1, o1, -, -, hs1, hc1⟩ := (hwr ▸ Ha.out.drewN n : TestsOk lo hi wr _ _).1.at hx
      obtain ⟨b2, o2, -, -, hs2, hc2⟩ := (hwr ▸ Hb.out.drewN n : TestsOk lo' hi' wr _ _).1.at hy
      replace hs1 : p = some ⟨b1, o1, none⟩ := hs1
      replace hs2 : p' = some ⟨b2, o2, none⟩ := hs2
      subst hs1 hs2
      have c0 : wr.cell? ⟨b1, o1 + j * 6, none⟩ = _ := hc1 0 _ rfl
      have c1 := hc1 1 _ rfl
      have c2 := hc1 2 _ rfl
      have c3 := hc1 3 _ rfl
      have c4 := hc1 4 _ rfl
      have c5 := hc1 5 _ rfl
      have d0 : wr.cell? ⟨b2, o2 + j * 6, none⟩ = _ := hc2 0 _ rfl
      have d1 := hc2 1 _ rfl
      have d2 := hc2 2 _ rfl
      have d3 := hc2 3 _ rfl
      have d4 := hc2 4 _ rfl
      have d5 := hc2 5 _ rfl
      have hcall : ∀ m, Calls Try.prog 27 #[.slice x.lst.a x.lst.n x.lst.c, .slice y.lst.a y.lst.n y.lst.c] (wr.drewN m) fun e w' => e = .returned (.bool (decB (x.syms = y.syms))) ∧ ∃ n, w' = (wr.drewN m).drewN n := fun m => keepsyms_T (wr.drewN m) lo hi lo' hi' x.lst y.lst x.syms y.syms (((hwr ▸ Ha.out.drewN n : TestsOk lo hi wr _ _).2 x (List.mem_of_getElem? hx)).drewN m) (((hwr ▸ Hb.out.drewN n : TestsOk lo' hi' wr _ _).2 y (List.mem_of_getElem? hy)).drewN m) (Hls.out x (List.mem_of_getElem? hx))
      have Hcall := Lib.hid hcall
      have hx' : (a.map bareT)[j]? = some (bareT x) := by rw [List.getElem?_map, hx]; rfl
      have hy' : (b.map bareT)[j]? = some (bareT y) := by rw [List.getElem?_map, hy]; rfl
      have Hx := Lib.hid hx'
      have Hy := Lib.hid hy'
      clear hc1 hc2 hx hy hx' hy' hwr hcall
      by_cases e1 : x.rel = y.rel
      case neg =>
        have Hne : Hid (a.map bareT ≠ b.map bareT) := Lib.hid (ne_at Hx.out Hy.out fun e => e1 (bareT_iff.1 e).1)
        have f1 := eqG _ _ e1
        have f2 : (x.rel = y.rel) = False := eq_false e1
        have f0 : (x.rel != y.rel) = true := by simp [e1]
        clear e1
        go_wp2_with fail
        go_big_quiet (fail)
        go_wp2_with fail
        go_ret
        exact ⟨by rw [decB_f Hne.out]; rfl, _, by rw [Hwr.out, World.drewN_drewN]⟩
      have f1 : (x.rel == y.rel) = true := by simp [e1]
      have f0 : (x.rel != y.rel) = false := by simp [e1]
      have E1 := Lib.hid e1
      clear e1
      by_cases e2 : x.var = y.var
      case neg =>
        have Hne : Hid (a.map bareT ≠ b.map bareT) := Lib.hid (ne_at Hx.out Hy.out fun e => e2 (bareT_iff.1 e).2.1)
        obtain ⟨f3, f4⟩ := eqB _ _ e2
        have f5 : (x.var.toList != y.var.toList) = true := by simp [bne, f3]
        clear e2
        go_wp2_with fail
        go_big_quiet (fail)
        go_wp2_with fail
        go_ret
        exact ⟨by rw [decB_f Hne.out]; rfl, _, by rw [Hwr.out, World.drewN_drewN]⟩
      have f3 : (x.var.toList == y.var.toList) = true := by simp [e2]
      have f5 : (x.var.toList != y.var.toList) = false := by simp [bne, f3]
      have E2 := Lib.hid e2
      clear e2
      cases e3 : same x.sym y.sym
      · have Hne : Hid (a.map bareT ≠ b.map bareT) := Lib.hid (ne_at Hx.out Hy.out fun e => by rw [same_iff.2 (bareT_iff.1 e).2.2.1] at e3; cases e3)
        have hs1 : same ⟨x.sym.k, x.sym.t, x.sym.n⟩ ⟨y.sym.k, y.sym.t, y.sym.n⟩ = false := e3
        clear e3
        go_wp2_with fail
        go_big_quiet (fail)
        go_wp2_with fail
        go_ret
        exact ⟨by rw [decB_f Hne.out]; rfl, _, by rw [Hwr.out, World.drewN_drewN]⟩
      have E3 : Hid (x.sym = y.sym) := Lib.hid (same_iff.1 e3)
      have hs1 : same ⟨x.sym.k, x.sym.t, x.sym.n⟩ ⟨y.sym.k, y.sym.t, y.sym.n⟩ = true := e3
      clear e3
      by_cases e4 : x.syms = y.syms
      case neg =>
        have Hne : Hid (a.map bareT ≠ b.map bareT) := Lib.hid (ne_at Hx.out Hy.out fun e => e4 (bareT_iff.1 e).2.2.2)
        have Hd := Lib.hid (decB_f e4)
        clear e4
        go_wp2_with fail
        go_big_quiet (first | (go_at_call 27; exact Calls.quiet_of (v := .bool false) (by rw [← Hd.out]; exact Hcall.out _)))
        go_wp2_with fail
        go_ret
        exact ⟨by rw [decB_f Hne.out]; rfl, _, by rw [Hwr.out, World.drewN_drewN]⟩
      have Heq : Hid (bareT x = bareT y) := Lib.hid (bareT_iff.2 ⟨E1.out, E2.out, E3.out, e4⟩)
      have Hd := Lib.hid (decB_t e4)
      clear e4
      go_wp2_with fail
      go_big_quiet (first | (go_at_call 27; exact Calls.quiet_of (v := .bool true) (by rw [← Hd.out]; exact Hcall.out _)))
      go_wp2_with fail
      go_roundg (a.length - (j + 1))
      case measure => rw [Hm.out.1]; omega
      case rel => exact ⟨j + 1, by go_num, by omega, Lib.hid ⟨rfl, take_step Hm.out.2 Hx.out Hy.out Heq.out⟩, _, by rw [Hwr.out, World.drewN_drewN]⟩
    · obtain rfl : j = a.length := by omega
      have Heq : Hid (a.map bareT = b.map bareT) := Lib.hid (by
        have := Hm.out.2
        have e1 : (a.map bareT).take a.length = a.map bareT := by rw [← List.length_map (f := bareT), List.take_length]
        have e2 : (b.map bareT).take a.length = b.map bareT := by rw [Hlen.out, ← List.length_map (f := bareT), List.take_length]
        rw [e1, e2] at this
        exact this)
      clear hwr
      go_wp2_with fail
      go_ret
      exact ⟨by rw [decB_t Heq.out]; rfl, n, Hwr.out⟩


end Go.Proofs.Ytmnpcpgdhaplaaa
