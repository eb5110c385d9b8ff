/- Which symbols are right, plainly. Conditions: none.
What == and != of two symbols answer. Conditions: none.
Which parts of a production are of their form, plainly. Conditions: none.
What cmp.Compare does of numbers and texts, and api.Sym's Compare. Conditions: the numbers fit their kind.
What isCapital, isSmall, isInner, Word and Valid answer. Conditions: none.
What Valid answers. Conditions: none. -/
import Derived.Test.YtmnpcpgdhaplaaaPlain
import Derived.Test.YtmnpcpgdhaplaaaMg1
import Derived.Laws.StructEq
import Derived.WalkLawsBesides
import Derived.WalkSpells
import Derived.Deep.LoopGhost
namespace Go.Proofs.Ytmnpcpgdhaplaaa

/-- May a letter begin an identifier, a word; stand within one? -/
def capI (c : Int) : Bool := decide (65 ≤ c) && decide (c ≤ 90)
def smallI (c : Int) : Bool := decide (97 ≤ c) && decide (c ≤ 122)
def innerI (c : Int) : Bool := smallI c || (decide (48 ≤ c) && decide (c ≤ 57)) || c == 45 || c == 95

/-- A text's first byte. -/
def hd (t : ByteArray) : Int := if h : 0 < t.size then (t[0].toNat : Int) else 0

/-- Are all bytes from the k-th one on such as may stand within a word? -/
def innerAll (t : ByteArray) : Bool := t.data.toList.all fun c => innerI (c.toNat : Int)

/-- Is it a word? -/
def wordB (t : ByteArray) : Bool := decide (0 < t.size) && decide (t.size ≤ 32) && smallI (hd t) && innerAll t

/-- Is it an identifier, a number, a word? -/
def validB (s : SymV) : Bool :=
  if s.k = 1 then decide (s.t.size = 1) && capI (hd s.t) && decide (1 ≤ s.n) && decide (s.n ≤ 1048576)
  else if s.k = 2 then decide (s.t.size = 0) && decide (-2147483647 ≤ s.n) && decide (s.n ≤ 2147483647)
  else if s.k = 3 then decide (s.n = 0) && wordB s.t
  else false

end Go.Proofs.Ytmnpcpgdhaplaaa

namespace Go.Proofs.Ytmnpcpgdhaplaaa
open Go Go.RowKit

theorem toList_inj {a b : ByteArray} (h : a.toList = b.toList) : a = b := by
  rw [ByteArray.toList_eq, ByteArray.toList_eq] at h
  cases a; cases b; simp_all

/-- Are all three fields the same? -/
def same (x y : SymV) : Bool := x.k == y.k && (x.t.toList == y.t.toList && x.n == y.n)

theorem same_iff {x y : SymV} : same x y = true ↔ x = y := by
  simp only [same, Bool.and_eq_true, beq_iff_eq]
  constructor
  · rintro ⟨h1, h2, h3⟩
    have := toList_inj h2
    cases x; cases y; simp_all
  · rintro rfl; simp

theorem sym_under : Try.prog.underlying 47 = some (.struct (Try.prog.fieldsOf 47)) := by kernel_rfl
theorem sym_held : Try.prog.stoodInHeld 47 = false := by kernel_rfl
theorem sym_guard : Try.prog.eqGuardType Try.prog.depth 47 = false := by kernel_rfl

theorem sym_equal (x y : SymV) (w : World) : (Op.equalIn 10000 47 (.agg #[.int .i64 x.k, .string x.t, .int .i64 x.n]) (.agg #[.int .i64 y.k, .string y.t, .int .i64 y.n])).run Try.prog w = .ok (same x y) w := by
  rw [run_equalIn_struct _ 9999 _ _ _ sym_under sym_held]
  simp only [Program.fieldsOf, Try.underlying47]
  simp [go_sem, Op.eqFields]
  by_cases h1 : x.k = y.k <;> by_cases h2 : x.t.toList = y.t.toList <;> by_cases h3 : x.n = y.n <;> simp [same, h1, h2, h3]

theorem sym_equal' (k k' n n' : Int) (t t' : ByteArray) (w : World) : (Op.equalIn 10000 47 (.agg #[.int .i64 k, .string t, .int .i64 n]) (.agg #[.int .i64 k', .string t', .int .i64 n'])).run Try.prog w = .ok (same ⟨k, t, n⟩ ⟨k', t', n'⟩) w := sym_equal ⟨k, t, n⟩ ⟨k', t', n'⟩ w
theorem sym_eql (k k' n n' : Int) (t t' : ByteArray) (w : World) : (binOp .eql 47 (.agg #[.int .i64 k, .string t, .int .i64 n]) (.agg #[.int .i64 k', .string t', .int .i64 n'])).run Try.prog w = .ok (.bool (same ⟨k, t, n⟩ ⟨k', t', n'⟩)) w := by
  rw [run_eql_struct, sym_equal ⟨k, t, n⟩ ⟨k', t', n'⟩ w]; rfl
theorem sym_neq (k k' n n' : Int) (t t' : ByteArray) (w : World) : (binOp .neq 47 (.agg #[.int .i64 k, .string t, .int .i64 n]) (.agg #[.int .i64 k', .string t', .int .i64 n'])).run Try.prog w = .ok (.bool (!same ⟨k, t, n⟩ ⟨k', t', n'⟩)) w := by
  rw [run_neq_struct, sym_equal ⟨k, t, n⟩ ⟨k', t', n'⟩ w]; rfl
end Go.Proofs.Ytmnpcpgdhaplaaa

namespace Go.Proofs.Ytmnpcpgdhaplaaa
open Go Go.RowKit

structure AtomV where
  var : ByteArray
  sym : SymV
structure TermV where
  op : Int
  a : AtomV
  b : AtomV
structure ActV where
  id : ByteArray
  attr : AtomV
  value : TermV
  pref : Int
  other : AtomV

def isZ (s : SymV) : Bool := same s ⟨0, ⟨#[]⟩, 0⟩
def constB (s : SymV) : Bool := (s.k != 1) && validB s
def atomB (v : ByteArray) (s : SymV) : Bool := if v.toList.isEmpty then constB s else wordB v && isZ s
def atomZ (a : AtomV) : Bool := a.var.toList.isEmpty && isZ a.sym
def listB (l : List SymV) : Bool := !(l.length == 0) && (!(decide (8 < l.length)) && l.all constB)
def plainRel (r : Int) : Bool := r == 1 || (r == 2 || (r == 3 || (r == 4 || (r == 5 || (r == 6 || r == 7)))))
def testB (t : TestV) : Bool := if plainRel t.rel then (t.syms.length == 0) && atomB t.var t.sym else if t.rel == 8 then t.var.toList.isEmpty && (isZ t.sym && listB t.syms) else false
def testsB (l : List TestV) : Bool := l.all testB

/-- What is wrong with a Pos or a Neg; with an All within so many others; with a condition. (0: nothing) -/
def singleE (c : CondV) : Int :=
  if decide (0 < c.inner.length) || (!wordB c.h.id || c.h.attrs.length == 0) then 9
  else if decide (4 < c.h.attrs.length) || decide (4 < c.h.values.length) then 7
  else if !testsB c.h.attrs || !testsB c.h.values then 9 else 0
def groupE (c : CondV) (d : Int) : Int :=
  if c.h.goal || (!c.h.id.toList.isEmpty || (decide (0 < c.h.attrs.length) || (decide (0 < c.h.values.length) || (c.h.acc || c.inner.length == 0)))) then 9
  else if decide (3 ≤ d) then 8 else 0
def condE (c : CondV) (d : Int) : Int := if c.h.kind == 1 || c.h.kind == 2 then singleE c else if c.h.kind == 3 then groupE c d else 9

def operandB (a : AtomV) : Bool := atomB a.var a.sym && (a.sym.k != 3)
def termB (t : TermV) : Bool := if t.op == 0 then atomB t.a.var t.a.sym && atomZ t.b else if t.op == 1 || (t.op == 2 || t.op == 3) then operandB t.a && operandB t.b else false
def prefB (k : Int) (o : AtomV) : Bool := if plainRel k then atomZ o else if k == 8 || (k == 9 || k == 10) then atomB o.var o.sym else false
def actB (a : ActV) : Bool := wordB a.id && (atomB a.attr.var a.attr.sym && (termB a.value && prefB a.pref a.other))

end Go.Proofs.Ytmnpcpgdhaplaaa

namespace Go.Proofs.Ytmnpcpgdhaplaaa
open Go Go.RowKit

theorem nan_int (w : World) (a : Int) : Calls Try.prog 147 #[.int .i64 a] w fun e w' => e = .returned (.bool false) ∧ w = w' := by
  go_enter Try.func147, Try.ntmps147
  go_wp2_with fail
  go_ret
  exact ⟨by simp, rfl⟩

theorem nan_str (w : World) (a : ByteArray) : Calls Try.prog 148 #[.string a] w fun e w' => e = .returned (.bool false) ∧ w = w' := by
  go_enter Try.func148, Try.ntmps148
  go_wp2_with fail
  go_ret
  exact ⟨by simp, rfl⟩

theorem cmp_int (w : World) (a b : Int) : Calls Try.prog 145 #[.int .i64 a, .int .i64 b] w fun e w' => e = .returned (.int .i64 (icmp a b)) ∧ w = w' := by
  go_enter Try.func145, Try.ntmps145
  go_wp2_with fail
  refine (nan_int _ _).mono ?_
  rintro e w' ⟨rfl, rfl⟩
  go_wp2_with fail
  refine (nan_int _ _).mono ?_
  rintro e w' ⟨rfl, rfl⟩
  go_wp2_with fail
  all_goals go_ret
  · have h : a < b := by assumption
    exact ⟨by simp [icmp, h], rfl⟩
  · have h : b < a := by assumption
    exact ⟨by simp [icmp, h, Int.lt_asymm h], rfl⟩
  · have h : b ≤ a := by assumption
    have h' : a ≤ b := by assumption
    exact ⟨by simp [icmp, Int.not_lt.2 h, Int.not_lt.2 h'], rfl⟩

theorem bytesLess_eq : ∀ (x y : List UInt8), Op.bytesLess x y = decide (x < y)
  | x, [] => by cases x <;> simp [Op.bytesLess]
  | [], b :: y => by simp [Op.bytesLess]
  | a :: x, b :: y => by
    rw [Op.bytesLess, bytesLess_eq x y, Bool.eq_iff_iff]
    simp [List.cons_lt_cons_iff]

theorem scmp_lt {a b : ByteArray} (h : Op.bytesLess a.toList b.toList = true) : scmp a b = -1 := by
  rw [bytesLess_eq] at h; simp only [decide_eq_true_eq] at h; simp [scmp, h]
theorem scmp_gt {a b : ByteArray} (h : Op.bytesLess a.toList b.toList = false) (h' : (!a.toList == b.toList) = true) : scmp a b = 1 := by
  rw [bytesLess_eq] at h; simp only [decide_eq_false_iff_not] at h
  have h2 : b.toList < a.toList := by
    rcases List.lt_trichotomy' a.toList b.toList with h3 | h3 | h3
    · exact absurd h3 h
    · simp [h3] at h'
    · exact h3
  simp [scmp, h, h2]
theorem scmp_eq {a b : ByteArray} (h' : a.toList = b.toList) : scmp a b = 0 := by
  simp [scmp, h', List.lt_irrefl]

theorem cmp_str (w : World) (a b : ByteArray) : Calls Try.prog 146 #[.string a, .string b] w fun e w' => e = .returned (.int .i64 (scmp a b)) ∧ w = w' := by
  go_enter Try.func146, Try.ntmps146
  go_wp2_with fail
  refine (nan_str _ _).mono ?_
  rintro e w' ⟨rfl, rfl⟩
  go_wp2_with fail
  refine (nan_str _ _).mono ?_
  rintro e w' ⟨rfl, rfl⟩
  go_wp2_with fail
  all_goals go_ret
  · exact ⟨by rw [scmp_lt (by assumption)]; rfl, rfl⟩
  · exact ⟨by rw [scmp_gt (by assumption) (by assumption)]; rfl, rfl⟩
  · exact ⟨by rw [scmp_eq (by simpa using (by assumption : (!a.toList == b.toList) = false))]; rfl, rfl⟩

theorem symCmp_k {x y : SymV} (h : icmp x.k y.k ≠ 0) : symCmp x y = icmp x.k y.k := by simp [symCmp, lex, h]
theorem symCmp_t {x y : SymV} (h : icmp x.k y.k = 0) (h' : scmp x.t y.t ≠ 0) : symCmp x y = scmp x.t y.t := by simp [symCmp, lex, h, h']
theorem symCmp_n {x y : SymV} (h : icmp x.k y.k = 0) (h' : scmp x.t y.t = 0) : symCmp x y = icmp x.n y.n := by simp [symCmp, lex, h, h']

theorem boxes2 (w : World) (x y : SymV) :
    Below w.heap.size w ((w.alloc (.cells #[.int .i64 x.k, .string x.t, .int .i64 x.n] 47)).alloc (.cells #[.int .i64 y.k, .string y.t, .int .i64 y.n] 47)) :=
  ((Below.refl _ w).alloc (Nat.le_refl _) _).alloc (by simp) _

set_option maxHeartbeats 400000 in
theorem sym_compare (w : World) (x y : SymV) : Calls Try.prog 144 #[.agg #[.int .i64 x.k, .string x.t, .int .i64 x.n], .agg #[.int .i64 y.k, .string y.t, .int .i64 y.n]] w
    fun e w' => e = .returned (.int .i64 (symCmp x y)) ∧ Below w.heap.size w w' := by
  by_cases hk : icmp x.k y.k = 0
  · have Hk := Lib.hid hk
    have Hk1 : (icmp x.k y.k != 0) = false := by simp [hk]
    clear hk
    by_cases ht : scmp x.t y.t = 0
    · have Ht := Lib.hid ht
      have Ht1 : (scmp x.t y.t != 0) = false := by simp [ht]
      clear ht
      go_enter Try.func144, Try.ntmps144
      go_wp2_with fail
      refine (cmp_int _ _ _).mono ?_
      rintro e w' ⟨rfl, rfl⟩
      go_wp2_with fail
      refine (cmp_str _ _ _).mono ?_
      rintro e w' ⟨rfl, rfl⟩
      go_wp2_with fail
      refine (cmp_int _ _ _).mono ?_
      rintro e w' ⟨rfl, rfl⟩
      go_wp2_with fail
      go_ret
      exact ⟨by rw [symCmp_n Hk.out Ht.out]; rfl, boxes2 w x y⟩
    · have Ht := Lib.hid ht
      have Ht1 : (scmp x.t y.t != 0) = true := by simp [ht]
      clear ht
      go_enter Try.func144, Try.ntmps144
      go_wp2_with fail
      refine (cmp_int _ _ _).mono ?_
      rintro e w' ⟨rfl, rfl⟩
      go_wp2_with fail
      refine (cmp_str _ _ _).mono ?_
      rintro e w' ⟨rfl, rfl⟩
      go_wp2_with fail
      go_ret
      exact ⟨by rw [symCmp_t Hk.out Ht.out]; rfl, boxes2 w x y⟩
  · have Hk := Lib.hid hk
    have Hk1 : (icmp x.k y.k != 0) = true := by simp [hk]
    clear hk
    go_enter Try.func144, Try.ntmps144
    go_wp2_with fail
    refine (cmp_int _ _ _).mono ?_
    rintro e w' ⟨rfl, rfl⟩
    go_wp2_with fail
    go_ret
    exact ⟨by rw [symCmp_k Hk.out]; rfl, boxes2 w x y⟩

end Go.Proofs.Ytmnpcpgdhaplaaa

namespace Go.Proofs.Ytmnpcpgdhaplaaa
open Go Go.RowKit

theorem ret_b {a b : Bool} (h : a = b) : Ending.returned (.bool a) = Ending.returned (.bool b) := by rw [h]

theorem cap_T (w : World) (c : Int) : Calls Try.prog 115 #[.int .u8 c] w fun e w' => e = .returned (.bool (capI c)) ∧ w = w' := by
  go_enter Try.func115, Try.ntmps115
  go_wp2_with fail
  all_goals go_ret
  · have h : 65 ≤ c := by assumption
    exact ⟨ret_b (by simp [capI, h]), rfl⟩
  · have h : c < 65 := by assumption
    exact ⟨ret_b (by simp [capI, Int.not_le.2 h]), rfl⟩

theorem small_T (w : World) (c : Int) : Calls Try.prog 88 #[.int .u8 c] w fun e w' => e = .returned (.bool (smallI c)) ∧ w = w' := by
  go_enter Try.func88, Try.ntmps88
  go_wp2_with fail
  all_goals go_ret
  · have h : 97 ≤ c := by assumption
    exact ⟨ret_b (by simp [smallI, h]), rfl⟩
  · have h : c < 97 := by assumption
    exact ⟨ret_b (by simp [smallI, Int.not_le.2 h]), rfl⟩

theorem inner_T (w : World) (c : Int) : Calls Try.prog 89 #[.int .u8 c] w fun e w' => e = .returned (.bool (innerI c)) ∧ w = w' := by
  go_enter Try.func89, Try.ntmps89
  go_wp2_with fail
  refine (small_T _ _).mono ?_
  rintro e w' ⟨rfl, rfl⟩
  cases h1 : smallI c
  · go_wp2_with fail
    all_goals go_ret
    · have h2 : 48 ≤ c := by assumption
      have h3 : ¬ c = 45 := by assumption
      exact ⟨ret_b (by simp [innerI, h1, h2]), rfl⟩
    · have h2 : 48 ≤ c := by assumption
      have h3 : c ≤ 57 := by assumption
      exact ⟨ret_b (by simp [innerI, h2, h3]), rfl⟩
    · exact ⟨ret_b (by simp [innerI]), rfl⟩
    · have h2 : c < 48 := by assumption
      exact ⟨ret_b (by simp [innerI, h1, Int.not_le.2 h2]), rfl⟩
  · go_wp2_with fail
    go_ret
    exact ⟨ret_b (by simp [innerI, h1]), rfl⟩

theorem hd_pos {t : ByteArray} (h : 0 < t.size) : hd t = (t[0].toNat : Int) := by unfold hd; rw [dif_pos h]

theorem take_succ (s : ByteArray) (k : Nat) (h : k < s.size) : s.data.toList.take (k + 1) = s.data.toList.take k ++ [s[k]] := by
  rw [List.take_succ_eq_append_getElem (by simpa using h)]; rfl

set_option maxHeartbeats 400000 in
theorem word_any (w : World) (t : ByteArray) : Calls Try.prog 62 #[.string t] w fun e w' => e = .returned (.bool (wordB t)) ∧ w = w' := by
  by_cases h0 : t.size = 0
  · have e0 : t.toList = [] := by rw [ByteArray.toList_eq]; exact List.length_eq_zero_iff.1 (by simpa using h0)
    have e1 : t.toList.isEmpty = true := by rw [e0]; rfl
    go_enter Try.func62, Try.ntmps62
    go_wp2_with fail
    go_ret
    exact ⟨ret_b (by simp [wordB, h0]), rfl⟩
  · have hpos : 0 < t.size := by omega
    have e1 : t.toList.isEmpty = false := by
      rw [ByteArray.toList_eq]
      cases hl : t.data.toList with
      | nil => exfalso; apply h0; have := congrArg List.length hl; simpa using this
      | cons _ _ => rfl
    have e2 : ¬ t.toList = [] := by intro h; rw [h] at e1; cases e1
    by_cases h32 : t.size ≤ 32
    · have hm : t.size ≤ 9223372036854775807 := by omega
      have f1 : ((32 : Int) < (t.size : Int)) = False := eq_false (by omega)
      have hs := Lib.hid (hd_pos hpos)
      cases hsm : smallI (hd t)
      · rw [hs.out] at hsm
        go_enter Try.func62, Try.ntmps62
        go_wp2_with fail
        refine (small_T _ _).mono ?_
        rintro e w' ⟨rfl, rfl⟩
        go_wp2_with fail
        go_ret
        exact ⟨ret_b (by simp [wordB, hs.out, hsm]), rfl⟩
      · rw [hs.out] at hsm
        have Hsm := Lib.hid hsm
        go_enter Try.func62, Try.ntmps62
        go_wp2_with fail
        refine (small_T _ _).mono ?_
        rintro e w' ⟨rfl, rfl⟩
        go_wp2_with fail
        go_loopg [19] (t.size - 0) (fun k i wr => ∃ j : Nat, i = .int .i64 j ∧ j ≤ t.size ∧ Hid (k = t.size - j) ∧ Hid ((t.data.toList.take j).all (fun c => innerI (c.toNat : Int)) = true) ∧ w = wr)
        case atStart => exact ⟨0, rfl, by omega, Lib.hid rfl, Lib.hid rfl, rfl⟩
        case round =>
          obtain ⟨j, rfl, hj, Hk, Hall, rfl⟩ := hrel
          by_cases hlt : j < t.size
          · have Hts := Lib.hid (take_succ t j hlt)
            cases hin : innerI ((t[j].toNat : Nat) : Int)
            · go_wp2_with fail
              refine (inner_T _ _).mono ?_
              rintro e w' ⟨rfl, rfl⟩
              go_wp2_with fail
              go_ret
              refine ⟨ret_b ?_, rfl⟩
              have : innerAll t = false := by
                unfold innerAll
                rw [List.all_eq_false]
                exact ⟨t.data.toList[j]'(by simpa using hlt), List.getElem_mem _, by show ¬ innerI ((t[j].toNat : Nat) : Int) = true; rw [hin]; simp⟩
              simp [wordB, this]
            · go_wp2_with fail
              refine (inner_T _ _).mono ?_
              rintro e w' ⟨rfl, rfl⟩
              go_wp2_with fail
              go_roundg (t.size - (j + 1))
              case measure => rw [Hk.out]; omega
              case rel => exact ⟨j + 1, by go_num, by omega, Lib.hid rfl, Lib.hid (by rw [Hts.out, List.all_append, Hall.out]; simp [hin]), rfl⟩
          · obtain rfl : j = t.size := by omega
            go_wp2_with fail
            go_ret
            refine ⟨ret_b ?_, rfl⟩
            have h1 := Hall.out
            rw [List.take_of_length_le (by simp)] at h1
            simp [wordB, innerAll, h1, hpos, h32, hs.out, Hsm.out]
    · have f1 : ((32 : Int) < (t.size : Int)) = True := eq_true (by omega)
      go_enter Try.func62, Try.ntmps62
      go_wp2_with fail
      go_ret
      exact ⟨ret_b (by simp [wordB, h32]), rfl⟩

theorem word_T (w : World) (t : ByteArray) (_ : t.size ≤ maxLen) : Calls Try.prog 62 #[.string t] w fun e w' => e = .returned (.bool (wordB t)) ∧ w = w' := word_any w t

end Go.Proofs.Ytmnpcpgdhaplaaa

namespace Go.Proofs.Ytmnpcpgdhaplaaa
open Go Go.RowKit

theorem box1_S (w : World) (x : SymV) : Below w.heap.size w (w.alloc (.cells #[.int .i64 x.k, .string x.t, .int .i64 x.n] 47)) := (Below.refl _ w).alloc (Nat.le_refl _) _

theorem size_one {t : ByteArray} (h : (t.size : Int) = 1) : 0 < t.size := by omega

set_option maxHeartbeats 800000 in
theorem valid_any (w : World) (x : SymV) : Calls Try.prog 104 #[.agg #[.int .i64 x.k, .string x.t, .int .i64 x.n]] w fun e w' => e = .returned (.bool (validB x)) ∧ Below w.heap.size w w' := by
  have hB := Lib.hid (box1_S w x)
  by_cases k1 : x.k = 1
  · have b1 : (x.k == 1) = true := by simp [k1]
    have Hk := Lib.hid k1
    clear k1
    by_cases hz : x.t.size = 1
    · have hpos : 0 < x.t.size := by omega
      have z1 : ((x.t.size : Int) == 1) = true := by simp [hz]
      have Hz := Lib.hid hz
      have Hs := Lib.hid (hd_pos hpos)
      clear hz
      cases hc : capI ((x.t[0].toNat : Nat) : Int)
      · go_enter Try.func104, Try.ntmps104
        go_wp2_with fail
        refine (cap_T _ _).mono ?_
        rintro e w' ⟨rfl, rfl⟩
        go_wp2_with fail
        go_ret
        exact ⟨ret_b (by simp [validB, Hk.out, Hs.out, hc]), hB.out⟩
      · go_enter Try.func104, Try.ntmps104
        go_wp2_with fail
        refine (cap_T _ _).mono ?_
        rintro e w' ⟨rfl, rfl⟩
        go_wp2_with fail
        all_goals go_ret
        · have h : 1 ≤ x.n := by assumption
          exact ⟨ret_b (by simp [validB, Hk.out, Hz.out, Hs.out, hc, h]), hB.out⟩
        · have h : x.n < 1 := by assumption
          exact ⟨ret_b (by simp [validB, Hk.out, Int.not_le.2 h]), hB.out⟩
    · have z1 : ((x.t.size : Int) == 1) = false := by simp; omega
      have Hz := Lib.hid hz
      clear hz
      go_enter Try.func104, Try.ntmps104
      go_wp2_with fail
      go_ret
      exact ⟨ret_b (by simp [validB, Hk.out, Hz.out]), hB.out⟩
  · have b1 : (x.k == 1) = false := by simp [k1]
    have Hk := Lib.hid k1
    clear k1
    by_cases k2 : x.k = 2
    · have b2 : (x.k == 2) = true := by simp [k2]
      have Hk2 := Lib.hid k2
      clear k2
      by_cases h0 : x.t.size = 0
      · have e0 : x.t.toList = [] := by rw [ByteArray.toList_eq]; exact List.length_eq_zero_iff.1 (by simpa using h0)
        have e1 : x.t.toList.isEmpty = true := by rw [e0]; rfl
        have H0 := Lib.hid h0
        clear h0
        go_enter Try.func104, Try.ntmps104
        go_wp2_with fail
        all_goals go_ret
        · have h : -2147483647 ≤ x.n := by assumption
          exact ⟨ret_b (by simp [validB, Hk.out, Hk2.out, H0.out, h]), hB.out⟩
        · have h : x.n < -2147483647 := by assumption
          exact ⟨ret_b (by simp [validB, Hk.out, Hk2.out, Int.not_le.2 h]), hB.out⟩
      · have e1 : x.t.toList.isEmpty = false := by
          rw [ByteArray.toList_eq]
          cases hl : x.t.data.toList with
          | nil => exfalso; apply h0; have := congrArg List.length hl; simpa using this
          | cons _ _ => rfl
        have e2 : ¬ x.t.toList = [] := by intro h; rw [h] at e1; cases e1
        have H0 := Lib.hid h0
        clear h0
        go_enter Try.func104, Try.ntmps104
        go_wp2_with fail
        go_ret
        exact ⟨ret_b (by simp [validB, Hk.out, Hk2.out, H0.out]), hB.out⟩
    · have b2 : (x.k == 2) = false := by simp [k2]
      have Hk2 := Lib.hid k2
      clear k2
      by_cases k3 : x.k = 3
      · have b3 : (x.k == 3) = true := by simp [k3]
        have Hk3 := Lib.hid k3
        clear k3
        by_cases hn : x.n = 0
        · have n1 : (x.n == 0) = true := by simp [hn]
          have Hn := Lib.hid hn
          clear hn
          go_enter Try.func104, Try.ntmps104
          go_wp2_with fail
          refine (word_any _ _).mono ?_
          rintro e w' ⟨rfl, rfl⟩
          go_wp2_with fail
          go_ret
          exact ⟨ret_b (by simp [validB, Hk.out, Hk2.out, Hk3.out, Hn.out]), hB.out⟩
        · have n1 : (x.n == 0) = false := by simp [hn]
          have Hn := Lib.hid hn
          clear hn
          go_enter Try.func104, Try.ntmps104
          go_wp2_with fail
          go_ret
          exact ⟨ret_b (by simp [validB, Hk.out, Hk2.out, Hk3.out, Hn.out]), hB.out⟩
      · have b3 : (x.k == 3) = false := by simp [k3]
        have Hk3 := Lib.hid k3
        clear k3
        go_enter Try.func104, Try.ntmps104
        go_wp2_with fail
        go_ret
        exact ⟨ret_b (by simp [validB, Hk.out, Hk2.out, Hk3.out]), hB.out⟩

theorem valid_T (w : World) (x : SymV) (_ : x.t.size ≤ maxLen) : Calls Try.prog 104 #[.agg #[.int .i64 x.k, .string x.t, .int .i64 x.n]] w fun e w' => e = .returned (.bool (validB x)) ∧ Below w.heap.size w w' := valid_any w x

end Go.Proofs.Ytmnpcpgdhaplaaa
