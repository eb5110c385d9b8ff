/- What the statements' own Syms, Tests, Cond, Conds, Acts, Prod answer: whether two are the same, wherever they lie. Conditions: they lie in memory.
The names of the variables that are known, one at its place, plainly. Conditions: none. -/
import Derived.Test.YtmnpcpgdhaplaaaKeepCopy
import Derived.BigQuiet
import Derived.Test.YtmnpcpgdhaplaaaMg14
import Derived.Test.YtmnpcpgdhaplaaaMg29
namespace Go.Proofs.Ytmnpcpgdhaplaaa
open Go Go.RowKit

theorem take_step {α : Type} {a b : List α} {j : Nat} {x y : α} (h : a.take j = b.take j) (hx : a[j]? = some x) (hy : b[j]? = some y) (e : x = y) : a.take (j + 1) = b.take (j + 1) := by
  rw [List.take_add_one, List.take_add_one, h, hx, hy, e]
theorem ne_at {α : Type} {a b : List α} {j : Nat} {x y : α} (hx : a[j]? = some x) (hy : b[j]? = some y) (e : x ≠ y) : a ≠ b := fun h => by
  rw [h, hy] at hx
  exact e (Option.some.inj hx).symm

theorem eqG (a b : Int) (h : a ≠ b) : (a == b) = false := by simp [h]
/-- Is it so? -/
noncomputable def decB (p : Prop) : Bool := @decide p (Classical.propDecidable p)
theorem decB_t {p : Prop} (h : p) : decB p = true := by unfold decB; exact @decide_eq_true p (Classical.propDecidable p) h
theorem decB_f {p : Prop} (h : ¬ p) : decB p = false := by unfold decB; exact @decide_eq_false p (Classical.propDecidable p) h
theorem decB_iff {p : Prop} : decB p = true ↔ p := by
  constructor
  · intro h
    rcases Classical.em p with hp | hp
    · exact hp
    · rw [decB_f hp] at h; cases h
  · exact decB_t
theorem drewN_zero (w : World) : w.drewN 0 = w := rfl
theorem RowIn.drewN {α : Type} {lo hi k : Nat} {cells : α → List Value} {W : World} {s : SlH} {xs : List α} (h : RowIn lo hi k cells W s xs) (n : Nat) : RowIn lo hi k cells (W.drewN n) s xs := h.keep (fun _ _ _ _ _ _ h => h)
theorem TestsOk.drewN {lo hi : Nat} {W : World} {s : SlH} {xs : List TestV} (h : TestsOk lo hi W s xs) (n : Nat) : TestsOk lo hi (W.drewN n) s xs := h.keep (fun _ _ _ _ _ _ h => h)

set_option pp.deepTerms true
set_option pp.maxSteps 1000000
set_option maxRecDepth 100000 in
set_option maxHeartbeats 1600000 in
theorem keepsyms_T (w : World) (lo hi lo' hi' : Nat) (s s' : SlH) (a b : List SymV) (h : RowIn lo hi 3 symCells w s a) (h' : RowIn lo' hi' 3 symCells w s' b) (hl : a.length ≤ 100000) :
    Calls Try.prog 27 #[.slice s.a s.n s.c, .slice s'.a s'.n s'.c] w fun e w' => e = .returned (.bool (decB (a = b))) ∧ ∃ n, w' = w.drewN n := by
  obtain ⟨p, m, c⟩ := s
  obtain ⟨p', m', c'⟩ := s'
  obtain rfl : m = a.length := h.1
  obtain rfl : m' = b.length := h'.1
  have Ha := Lib.hid h
  have Hb := Lib.hid h'
  have hse := sym_equal'
  have hsg := sym_guard
  clear h h'
  by_cases hlen : a.length = b.length
  case neg =>
    have g0 : ((a.length : Int) == (b.length : Int)) = false := by simp; omega
    have g1 : ((a.length : Int) = (b.length : Int)) = False := eq_false (by omega)
    have Hne : Hid (a ≠ b) := Lib.hid fun e => hlen (by rw [e])
    clear hlen
    go_enter Try.func27, Try.ntmps27
    go_wp2_with fail
    go_ret
    exact ⟨by rw [decB_f Hne.out]; rfl, 0, rfl⟩
  have g0 : ((a.length : Int) == (b.length : Int)) = true := by simp [hlen]
  have Hlen := Lib.hid hlen
  clear hlen
  go_enter Try.func27, Try.ntmps27
  go_wp2_with fail
  go_loopg [5] a.length (fun k iv wr => ∃ j : Nat, iv = .int .i64 j ∧ j ≤ a.length ∧ Hid (k = a.length - j ∧ a.take j = b.take j) ∧ ∃ n, wr = w.drewN n)
  case atStart => exact ⟨0, rfl, by omega, Lib.hid ⟨rfl, rfl⟩, 0, rfl⟩
  case round =>
    obtain ⟨j, rfl, hj, Hm, n, hwr⟩ := hrel
    have Hwr := Lib.hid hwr
    by_cases hlt : j < a.length
    · have hltb : j < b.length := by have := Hlen.out; omega
      obtain ⟨x, hx⟩ : ∃ x, a[j]? = some x := ⟨a[j], by simp [hlt]⟩
      obtain ⟨y, hy⟩ : ∃ x, b[j]? = some x := ⟨b[j], by simp [hltb]⟩
      obtain ⟨b1, o1, -, -, hs1, hc1⟩ := (hwr ▸ Ha.out.drewN n : RowIn lo hi 3 symCells wr _ _).at hx
      obtain ⟨b2, o2, -, -, hs2, hc2⟩ := (hwr ▸ Hb.out.drewN n : RowIn lo' hi' 3 symCells wr _ _).at hy
      replace hs1 : p = some ⟨b1, o1, none⟩ := hs1
      replace hs2 : p' = some ⟨b2, o2, none⟩ := hs2
      subst hs1 hs2
      have c0 : wr.cell? ⟨b1, o1 + j * 3, none⟩ = _ := hc1 0 _ rfl
      have c1 := hc1 1 _ rfl
      have c2 := hc1 2 _ rfl
      have d0 : wr.cell? ⟨b2, o2 + j * 3, none⟩ = _ := hc2 0 _ rfl
      have d1 := hc2 1 _ rfl
      have d2 := hc2 2 _ rfl
      have Hx := Lib.hid hx
      have Hy := Lib.hid hy
      clear hc1 hc2 hx hy hwr
      cases hs : same x y
      · have hs1 : same ⟨x.k, x.t, x.n⟩ ⟨y.k, y.t, y.n⟩ = false := hs
        have Hne : Hid (x ≠ y) := Lib.hid fun e => by rw [same_iff.2 e] at hs; cases hs
        clear hs
        go_wp2_with fail
        go_quiet (fail)
        go_wp2_with fail
        go_ret
        exact ⟨by rw [decB_f (ne_at Hx.out Hy.out Hne.out)]; rfl, _, by rw [Hwr.out, World.drewN_drewN]⟩
      · have hs1 : same ⟨x.k, x.t, x.n⟩ ⟨y.k, y.t, y.n⟩ = true := hs
        have Heq : Hid (x = y) := Lib.hid (same_iff.1 hs)
        clear hs
        go_wp2_with fail
        go_quiet (fail)
        go_wp2_with fail
        go_roundg (a.length - (j + 1))
        case measure => rw [Hm.out.1]; omega
        case rel => exact ⟨j + 1, by go_num, by omega, Lib.hid ⟨rfl, take_step Hm.out.2 Hx.out Hy.out Heq.out⟩, _, by rw [Hwr.out, World.drewN_drewN]⟩
    · obtain rfl : j = a.length := by omega
      have Heq : Hid (a = b) := Lib.hid (by
        have := Hm.out.2
        rw [List.take_length, Hlen.out, List.take_length] at this
        exact this)
      clear hwr
      go_wp2_with fail
      go_ret
      exact ⟨by rw [decB_t Heq.out]; rfl, n, Hwr.out⟩

theorem bareT_iff {x y : TestV} : bareT x = bareT y ↔ x.rel = y.rel ∧ x.var = y.var ∧ x.sym = y.sym ∧ x.syms = y.syms := by
  simp [bareT]

set_option maxRecDepth 100000 in
set_option maxHeartbeats 3200000 in
theorem keeptests_T (w : World) (lo hi lo' hi' : Nat) (s s' : SlH) (a b : List TestV) (h : TestsOk lo hi w s a) (h' : TestsOk lo' hi' w s' b) (hl : a.length ≤ 100000) (hls : ∀ t ∈ a, t.syms.length ≤ 100000) :
    Calls Try.prog 84 #[.slice s.a s.n s.c, .slice s'.a s'.n s'.c] w fun e w' => e = .returned (.bool (decB (a.map bareT = b.map bareT))) ∧ ∃ n, w' = w.drewN n := by
  obtain ⟨p, m, c⟩ := s
  obtain ⟨p', m', c'⟩ := s'
  obtain rfl : m = a.length := h.1.1
  obtain rfl : m' = b.length := h'.1.1
  have Ha := Lib.hid h
  have Hb := Lib.hid h'
  have Hls := Lib.hid hls
  have hse := sym_equal'
  have hsg := sym_guard
  clear h h' hls
  by_cases hlen : a.length = b.length
  case neg =>
    have g0 : ((a.length : Int) == (b.length : Int)) = false := by simp; omega
    have g1 : ((a.length : Int) = (b.length : Int)) = False := eq_false (by omega)
    have Hne : Hid (a.map bareT ≠ b.map bareT) := Lib.hid fun e => hlen (by simpa using congrArg List.length e)
    clear hlen
    go_enter Try.func84, Try.ntmps84
    go_wp2_with fail
    go_ret
    exact ⟨by rw [decB_f Hne.out]; rfl, 0, rfl⟩
  have g0 : ((a.length : Int) == (b.length : Int)) = true := by simp [hlen]
  have Hlen := Lib.hid hlen
  clear hlen
  go_enter Try.func84, Try.ntmps84
  go_wp2_with fail
  go_loopg [5] a.length (fun k iv wr => ∃ j : Nat, iv = .int .i64 j ∧ j ≤ a.length ∧ Hid (k = a.length - j ∧ (a.map bareT).take j = (b.map bareT).take j) ∧ ∃ n, wr = w.drewN n)
  case atStart => exact ⟨0, rfl, by omega, Lib.hid ⟨rfl, rfl⟩, 0, rfl⟩
  case round =>
    obtain ⟨j, rfl, hj, Hm, n, hwr⟩ := hrel
    have Hwr := Lib.hid hwr
    by_cases hlt : j < a.length
    · have hltb : j < b.length := by have := Hlen.out; omega
      obtain ⟨x, hx⟩ : ∃ x, a[j]? = some x := ⟨a[j], by simp [hlt]⟩
      obtain ⟨y, hy⟩ : ∃ x, b[j]? = some x := ⟨b[j], by simp [hltb]⟩
      obtain ⟨b1, o1, -, -, hs1, hc1⟩ := (hwr ▸ Ha.out.drewN n : TestsOk lo hi wr _ _).1.at hx
      obtain ⟨b2, o2, -, -, hs2, hc2⟩ := (hwr ▸ Hb.out.drewN n : TestsOk lo' hi' wr _ _).1.at hy
      replace hs1 : p = some ⟨b1, o1, none⟩ := hs1
      replace hs2 : p' = some ⟨b2, o2, none⟩ := hs2
      subst hs1 hs2
      have c0 : wr.cell? ⟨b1, o1 + j * 6, none⟩ = _ := hc1 0 _ rfl
      have c1 := hc1 1 _ rfl
      have c2 := hc1 2 _ rfl
      have c3 := hc1 3 _ rfl
      have c4 := hc1 4 _ rfl
      have c5 := hc1 5 _ rfl
      have d0 : wr.cell? ⟨b2, o2 + j * 6, none⟩ = _ := hc2 0 _ rfl
      have d1 := hc2 1 _ rfl
      have d2 := hc2 2 _ rfl
      have d3 := hc2 3 _ rfl
      have d4 := hc2 4 _ rfl
      have d5 := hc2 5 _ rfl
      have hcall : ∀ m, Calls Try.prog 27 #[.slice x.lst.a x.lst.n x.lst.c, .slice y.lst.a y.lst.n y.lst.c] (wr.drewN m) fun e w' => e = .returned (.bool (decB (x.syms = y.syms))) ∧ ∃ n, w' = (wr.drewN m).drewN n := fun m => keepsyms_T (wr.drewN m) lo hi lo' hi' x.lst y.lst x.syms y.syms (((hwr ▸ Ha.out.drewN n : TestsOk lo hi wr _ _).2 x (List.mem_of_getElem? hx)).drewN m) (((hwr ▸ Hb.out.drewN n : TestsOk lo' hi' wr _ _).2 y (List.mem_of_getElem? hy)).drewN m) (Hls.out x (List.mem_of_getElem? hx))
      have Hcall := Lib.hid hcall
      have hx' : (a.map bareT)[j]? = some (bareT x) := by rw [List.getElem?_map, hx]; rfl
      have hy' : (b.map bareT)[j]? = some (bareT y) := by rw [List.getElem?_map, hy]; rfl
      have Hx := Lib.hid hx'
      have Hy := Lib.hid hy'
      clear hc1 hc2 hx hy hx' hy' hwr hcall
      by_cases e1 : x.rel = y.rel
      case neg =>
        have Hne : Hid (a.map bareT ≠ b.map bareT) := Lib.hid (ne_at Hx.out Hy.out fun e => e1 (bareT_iff.1 e).1)
        have f1 := eqG _ _ e1
        have f2 : (x.rel = y.rel) = False := eq_false e1
        have f0 : (x.rel != y.rel) = true := by simp [e1]
        clear e1
        go_wp2_with fail
        go_big_quiet (fail)
        go_wp2_with fail
        go_ret
        exact ⟨by rw [decB_f Hne.out]; rfl, _, by rw [Hwr.out, World.drewN_drewN]⟩
      have f1 : (x.rel == y.rel) = true := by simp [e1]
      have f0 : (x.rel != y.rel) = false := by simp [e1]
      have E1 := Lib.hid e1
      clear e1
      by_cases e2 : x.var = y.var
      case neg =>
        have Hne : Hid (a.map bareT ≠ b.map bareT) := Lib.hid (ne_at Hx.out Hy.out fun e => e2 (bareT_iff.1 e).2.1)
        obtain ⟨f3, f4⟩ := eqB _ _ e2
        have f5 : (x.var.toList != y.var.toList) = true := by simp [bne, f3]
        clear e2
        go_wp2_with fail
        go_big_quiet (fail)
        go_wp2_with fail
        go_ret
        exact ⟨by rw [decB_f Hne.out]; rfl, _, by rw [Hwr.out, World.drewN_drewN]⟩
      have f3 : (x.var.toList == y.var.toList) = true := by simp [e2]
      have f5 : (x.var.toList != y.var.toList) = false := by simp [bne, f3]
      have E2 := Lib.hid e2
      clear e2
      cases e3 : same x.sym y.sym
      · have Hne : Hid (a.map bareT ≠ b.map bareT) := Lib.hid (ne_at Hx.out Hy.out fun e => by rw [same_iff.2 (bareT_iff.1 e).2.2.1] at e3; cases e3)
        have hs1 : same ⟨x.sym.k, x.sym.t, x.sym.n⟩ ⟨y.sym.k, y.sym.t, y.sym.n⟩ = false := e3
        clear e3
        go_wp2_with fail
        go_big_quiet (fail)
        go_wp2_with fail
        go_ret
        exact ⟨by rw [decB_f Hne.out]; rfl, _, by rw [Hwr.out, World.drewN_drewN]⟩
      have E3 : Hid (x.sym = y.sym) := Lib.hid (same_iff.1 e3)
      have hs1 : same ⟨x.sym.k, x.sym.t, x.sym.n⟩ ⟨y.sym.k, y.sym.t, y.sym.n⟩ = true := e3
      clear e3
      by_cases e4 : x.syms = y.syms
      case neg =>
        have Hne : Hid (a.map bareT ≠ b.map bareT) := Lib.hid (ne_at Hx.out Hy.out fun e => e4 (bareT_iff.1 e).2.2.2)
        have Hd := Lib.hid (decB_f e4)
        clear e4
        go_wp2_with fail
        go_big_quiet (first | (go_at_call 27; exact Calls.quiet_of (v := .bool false) (by rw [← Hd.out]; exact Hcall.out _)))
        go_wp2_with fail
        go_ret
        exact ⟨by rw [decB_f Hne.out]; rfl, _, by rw [Hwr.out, World.drewN_drewN]⟩
      have Heq : Hid (bareT x = bareT y) := Lib.hid (bareT_iff.2 ⟨E1.out, E2.out, E3.out, e4⟩)
      have Hd := Lib.hid (decB_t e4)
      clear e4
      go_wp2_with fail
      go_big_quiet (first | (go_at_call 27; exact Calls.quiet_of (v := .bool true) (by rw [← Hd.out]; exact Hcall.out _)))
      go_wp2_with fail
      go_roundg (a.length - (j + 1))
      case measure => rw [Hm.out.1]; omega
      case rel => exact ⟨j + 1, by go_num, by omega, Lib.hid ⟨rfl, take_step Hm.out.2 Hx.out Hy.out Heq.out⟩, _, by rw [Hwr.out, World.drewN_drewN]⟩
    · obtain rfl : j = a.length := by omega
      have Heq : Hid (a.map bareT = b.map bareT) := Lib.hid (by
        have := Hm.out.2
        have e1 : (a.map bareT).take a.length = a.map bareT := by rw [← List.length_map (f := bareT), List.take_length]
        have e2 : (b.map bareT).take a.length = b.map bareT := by rw [Hlen.out, ← List.length_map (f := bareT), List.take_length]
        rw [e1, e2] at this
        exact this)
      clear hwr
      go_wp2_with fail
      go_ret
      exact ⟨by rw [decB_t Heq.out]; rfl, n, Hwr.out⟩


end Go.Proofs.Ytmnpcpgdhaplaaa

namespace Go.Proofs.Ytmnpcpgdhaplaaa
open Go Go.RowKit

theorem setOf_le (K : List ByteArray) : (setOf K).length ≤ K.length := by
  have key : ∀ n, (setOf (K.take n)).length ≤ n := by
    intro n
    induction n with
    | zero => simp [setOf]
    | succ n ih =>
      rcases Nat.lt_or_ge n K.length with hn | hn
      · rw [List.take_add_one, List.getElem?_eq_getElem hn]
        show (setOf (K.take n ++ [K[n]])).length ≤ n + 1
        rw [setOf_snoc, put]
        split
        · omega
        · rw [length_ins]; omega
      · rw [List.take_of_length_le (by omega : K.length ≤ n + 1)]
        rw [List.take_of_length_le hn] at ih
        omega
  have := key K.length
  rwa [List.take_length] at this

theorem setOf_snoc_len {K : List ByteArray} {n : ByteArray} (h : (setOf (K ++ [n])).length = (K ++ [n]).length) : (setOf K).length = K.length ∧ has varCmp (setOf K) ⟨n, (K.length : Int)⟩ = false := by
  have hle := setOf_le K
  rw [setOf_snoc, put] at h
  simp only [List.length_append, List.length_cons, List.length_nil] at h
  cases hh : has varCmp (setOf K) ⟨n, (K.length : Int)⟩
  · rw [hh, if_neg (by simp), length_ins] at h
    exact ⟨by omega, rfl⟩
  · rw [hh, if_pos rfl] at h
    omega

/-- Each name stands with its place. -/
theorem setOf_mem : ∀ (k : Nat) (K : List ByteArray), K.length = k → (setOf K).length = K.length → ∀ v, v ∈ setOf K ↔ ∃ i : Nat, v.nth = i ∧ K[i]? = some v.name := by
  intro k
  induction k with
  | zero =>
    intro K h _ v
    obtain rfl : K = [] := List.length_eq_zero_iff.1 h
    simp [setOf]
  | succ k ih =>
    intro K h hl v
    rcases List.eq_nil_or_concat K with rfl | ⟨K', n, rfl⟩
    · simp at h
    rw [List.concat_eq_append] at h hl ⊢
    obtain ⟨h1, h2⟩ := setOf_snoc_len hl
    have hk : K'.length = k := by simp at h; omega
    rw [setOf_snoc, put, h2, if_neg (by simp)]
    have hins : v ∈ ins varCmp (setOf K') ⟨n, (K'.length : Int)⟩ ↔ v = ⟨n, (K'.length : Int)⟩ ∨ v ∈ setOf K' := by
      unfold ins
      have e := List.take_append_drop (pos varCmp (setOf K') ⟨n, (K'.length : Int)⟩) (setOf K')
      have : v ∈ setOf K' ↔ v ∈ (setOf K').take (pos varCmp (setOf K') ⟨n, (K'.length : Int)⟩) ∨ v ∈ (setOf K').drop (pos varCmp (setOf K') ⟨n, (K'.length : Int)⟩) := by
        rw [← List.mem_append, e]
      rw [this, List.mem_append, List.mem_cons]
      constructor
      · rintro (h | h | h)
        · exact .inr (.inl h)
        · exact .inl h
        · exact .inr (.inr h)
      · rintro (h | h | h)
        · exact .inr (.inl h)
        · exact .inl h
        · exact .inr (.inr h)
    rw [hins, ih K' hk h1 v]
    constructor
    · rintro (rfl | ⟨i, hi, hx⟩)
      · exact ⟨K'.length, rfl, by simp⟩
      · have := (List.getElem?_eq_some_iff.1 hx).1
        exact ⟨i, hi, by rw [List.getElem?_append_left this]; exact hx⟩
    · rintro ⟨i, hi, hx⟩
      have hlt := (List.getElem?_eq_some_iff.1 hx).1
      simp at hlt
      by_cases e : i = K'.length
      · subst e
        simp at hx
        left
        cases v
        simp_all
      · right
        exact ⟨i, hi, by rwa [List.getElem?_append_left (by omega)] at hx⟩

/-- The row, as far as the names in pre are told. -/
def rowOf (n : Nat) : List VarV → Array Value
  | [] => Array.replicate n (.string ⟨#[]⟩)
  | v :: vs => (rowOf n vs).setIfInBounds v.nth.toNat (.string v.name)
def rowP (n : Nat) (pre : List VarV) : Array Value := rowOf n pre.reverse

theorem rowP_nil (n : Nat) : rowP n [] = Array.replicate n (.string ⟨#[]⟩) := rfl
theorem rowP_snoc (n : Nat) (pre : List VarV) (v : VarV) : rowP n (pre ++ [v]) = (rowP n pre).setIfInBounds v.nth.toNat (.string v.name) := by simp [rowP, rowOf]
theorem rowOf_size (n : Nat) (l : List VarV) : (rowOf n l).size = n := by
  induction l with
  | nil => simp [rowOf]
  | cons v l ih => simp [rowOf, ih]
theorem rowOf_at {K : List ByteArray} (l : List VarV) (hl : ∀ v ∈ l, ∃ i : Nat, v.nth = i ∧ K[i]? = some v.name) {i : Nat} {x : ByteArray} (hi : K[i]? = some x) (hv : ⟨x, (i : Int)⟩ ∈ l) : (rowOf K.length l)[i]? = some (.string x) := by
  have hlt := (List.getElem?_eq_some_iff.1 hi).1
  induction l with
  | nil => cases hv
  | cons v l ih =>
    obtain ⟨j, hj, hx⟩ := hl v (by simp)
    rw [rowOf, hj, Int.toNat_natCast]
    by_cases e : j = i
    · subst e
      rw [hi] at hx
      cases hx
      rw [Array.getElem?_setIfInBounds_self_of_lt (by rw [rowOf_size]; exact hlt)]
    · rw [Array.getElem?_setIfInBounds_ne e]
      refine ih (fun v hv => hl v (by simp [hv])) ?_
      rcases List.mem_cons.1 hv with h | h
      · exfalso
        apply e
        have : (i : Int) = j := by rw [← hj, ← h]
        omega
      · exact h
theorem rowP_all {K : List ByteArray} (h : (setOf K).length = K.length) : rowP K.length (setOf K) = (K.map Value.string).toArray := by
  apply Array.ext_getElem?
  intro i
  rcases Nat.lt_or_ge i K.length with hi | hi
  · have hx : K[i]? = some K[i] := List.getElem?_eq_getElem hi
    have hm : (⟨K[i], (i : Int)⟩ : VarV) ∈ (setOf K).reverse := List.mem_reverse.2 ((setOf_mem _ K rfl h _).2 ⟨i, rfl, hx⟩)
    rw [rowP, rowOf_at _ (fun v hv => (setOf_mem _ K rfl h v).1 (List.mem_reverse.1 hv)) hx hm]
    simp [hx]
  · rw [Array.getElem?_eq_none (by rw [rowP, rowOf_size]; exact hi), Array.getElem?_eq_none (by simpa using hi)]
theorem setOf_place {K : List ByteArray} (h : (setOf K).length = K.length) {pre : List VarV} {v : VarV} (hp : pre ++ [v] <+: setOf K) : ∃ i : Nat, v.nth = i ∧ i < K.length := by
  have hm : v ∈ setOf K := by
    obtain ⟨t, ht⟩ := hp
    rw [← ht]; simp
  obtain ⟨i, hi, hx⟩ := (setOf_mem _ K rfl h v).1 hm
  exact ⟨i, hi, (List.getElem?_eq_some_iff.1 hx).1⟩

end Go.Proofs.Ytmnpcpgdhaplaaa
