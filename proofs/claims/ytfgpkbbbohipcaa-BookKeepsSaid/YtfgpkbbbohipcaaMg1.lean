/- Trees of members, and what it means that one lies in memory. Conditions: none.
What cmp.Compare does of numbers and texts, and api.Sym's Compare. Conditions: the numbers fit their kind. -/
import Derived.Test.YtfgpkbbbohipcaaProg
import Derived.Test.YtfgpkbbbohipcaaPlain
import Derived.WalkKit
import Derived.Below
import Derived.OneCell
import Derived.Lib.Hide
import Derived.Deep.RegionHeld3
import Derived.Deep.QuietTactic
import Derived.BigQuiet
import Derived.Deep.RegionWith
import Derived.Outline
import Derived.WalkLawsBesides
import Derived.WalkSpells
namespace Go.Proofs.Ytfgpkbbbohipcaa
open Go Go.RowKit

inductive Tr (α : Type) where
  | nil
  | node (l : Tr α) (x : α) (r : Tr α)

def Tr.list {α : Type} : Tr α → List α
  | .nil => []
  | .node l x r => l.list ++ x :: r.list

def Tr.size {α : Type} (t : Tr α) : Nat := t.list.length

theorem size_node {α : Type} (l r : Tr α) (x : α) : (Tr.node l x r).size = l.size + r.size + 1 := by simp [Tr.size, Tr.list]; omega

/-- t lies in w at p: `nc x pl pr n` are a node's cells, T its type. -/
def IsT {α : Type} (nc : α → Option Addr → Option Addr → Nat → Array Value) (T : TypeId) (w : World) : Tr α → Option Addr → Prop
  | .nil, p => p = none
  | .node l x r, p => ∃ b pl pr, p = some ⟨b, 0, none⟩ ∧ w.heap[b]? = some (.cells (nc x pl pr (l.size + r.size + 1)) T (0, 0)) ∧ IsT nc T w l pl ∧ IsT nc T w r pr

theorem IsT.below {α : Type} {nc : α → Option Addr → Option Addr → Nat → Array Value} {T : TypeId} {B : Nat} {w w' : World} (hB : Below B w w') (hs : w.heap.size ≤ B) : ∀ (t : Tr α) (p : Option Addr), IsT nc T w t p → IsT nc T w' t p
  | .nil, _, h => h
  | .node l x r, _, h => by
    obtain ⟨b, pl, pr, rfl, hb, hl, hr⟩ := h
    exact ⟨b, pl, pr, rfl, by rw [hB.block b (Nat.lt_of_lt_of_le (lt_of_block hb) hs)]; exact hb, IsT.below hB hs l pl hl, IsT.below hB hs r pr hr⟩

theorem IsT.ext {α : Type} {nc : α → Option Addr → Option Addr → Nat → Array Value} {T : TypeId} {w w' : World} {t : Tr α} {p : Option Addr} (h : IsT nc T w t p) (hB : Below w.heap.size w w') : IsT nc T w' t p :=
  IsT.below hB (Nat.le_refl _) t p h

/-- A tree stays where it is as long as its nodes' blocks do. -/
theorem IsT.keep {α : Type} {nc : α → Option Addr → Option Addr → Nat → Array Value} {T : TypeId} {w w' : World}
    (hk : ∀ (b : Nat) (c : Array Value), w.heap[b]? = some (.cells c T (0, 0)) → w'.heap[b]? = some (.cells c T (0, 0))) : ∀ (t : Tr α) (p : Option Addr), IsT nc T w t p → IsT nc T w' t p
  | .nil, _, h => h
  | .node l x r, _, h => by
    obtain ⟨b, pl, pr, rfl, hb, hl, hr⟩ := h
    exact ⟨b, pl, pr, rfl, hk b _ hb, IsT.keep hk l pl hl, IsT.keep hk r pr hr⟩

/-- A store into a block of another type leaves a tree as it is. -/
theorem IsT.setCell {α : Type} {nc : α → Option Addr → Option Addr → Nat → Array Value} {T T' : TypeId} {w : World} {t : Tr α} {p : Option Addr} (h : IsT nc T w t p) {a : Addr} {c : Array Value} {f : Nat × Nat}
    (ha : w.heap[a.block]? = some (.cells c T' f)) (hT : T' ≠ T) (v : Value) : IsT nc T (w.setCell a v) t p := by
  refine IsT.keep (fun b c' hb => (Below.heap_setCell _ _ _ _ ?_).trans hb) t p h
  rintro rfl
  rw [ha] at hb
  simp at hb
  exact hT hb.2.1

theorem below_drewN (B : Nat) (w : World) (n : Nat) : Below B w (w.drewN n) := ⟨rfl, rfl, rfl, Nat.le_refl _, fun _ _ => rfl⟩

/-- All that was there is as it was, but for block s. -/
structure But (s : Nat) (w w' : World) : Prop where
  os : w'.os = w.os
  tape : w'.tape = w.tape
  output : w'.output = w.output
  size : w.heap.size ≤ w'.heap.size
  block : ∀ k, k < w.heap.size → k ≠ s → w'.heap[k]? = w.heap[k]?

theorem But.refl (s : Nat) (w : World) : But s w w := ⟨rfl, rfl, rfl, Nat.le_refl _, fun _ _ _ => rfl⟩
theorem But.of_below {s : Nat} {w w' : World} (h : Below w.heap.size w w') : But s w w' := ⟨h.os, h.tape, h.output, h.size, fun k hk _ => h.block k hk⟩
theorem But.trans {s : Nat} {a b c : World} (h : But s a b) (k : But s b c) : But s a c :=
  ⟨k.os.trans h.os, k.tape.trans h.tape, k.output.trans h.output, Nat.le_trans h.size k.size, fun i hi hs => (k.block i (Nat.lt_of_lt_of_le hi h.size) hs).trans (h.block i hi hs)⟩
theorem But.setCell {s : Nat} {a w : World} (h : But s a w) (o : Nat) (v : Value) : But s a (w.setCell ⟨s, o, none⟩ v) :=
  h.trans ⟨rfl, rfl, rfl, by simp [World.setCell], fun k _ hs => Below.heap_setCell _ _ _ _ hs⟩
/-- What is done to a block that is new leaves all that was there. -/
theorem But.below {s B : Nat} {a w w' : World} (h : Below B a w) (hb : But s w w') (hs : B ≤ s) (hB : B ≤ w.heap.size) : Below B a w' :=
  ⟨hb.os.trans h.os, hb.tape.trans h.tape, hb.output.trans h.output, Nat.le_trans h.size hb.size, fun k hk => (hb.block k (by omega) (by omega)).trans (h.block k hk)⟩
/-- A tree stays where it is while a block of another type is changed. -/
theorem IsT.but {α : Type} {nc : α → Option Addr → Option Addr → Nat → Array Value} {T T' : TypeId} {s : Nat} {w w' : World} {t : Tr α} {p : Option Addr} (h : IsT nc T w t p) (hb : But s w w') {c : Array Value} {f : Nat × Nat}
    (ha : w.heap[s]? = some (.cells c T' f)) (hT : T' ≠ T) : IsT nc T w' t p := by
  refine IsT.keep (fun b c' hb' => (hb.block b (lt_of_block hb') ?_).trans hb') t p h
  rintro rfl
  rw [ha] at hb'
  simp at hb'
  exact hT hb'.2.1

theorem wcast (n : Nat) (z : Int) (h : z = n) : Value.int IntKind.i64 z = .int .i64 (n : Int) := by rw [h]

end Go.Proofs.Ytfgpkbbbohipcaa

namespace Go.Proofs.Ytfgpkbbbohipcaa
open Go Go.RowKit

theorem nan_int (w : World) (a : Int) : Calls Try.prog 143 #[.int .i64 a] w fun e w' => e = .returned (.bool false) ∧ w = w' := by
  go_enter Try.func143, Try.ntmps143
  go_wp2_with fail
  go_ret
  exact ⟨by simp, rfl⟩

theorem nan_str (w : World) (a : ByteArray) : Calls Try.prog 144 #[.string a] w fun e w' => e = .returned (.bool false) ∧ w = w' := by
  go_enter Try.func144, Try.ntmps144
  go_wp2_with fail
  go_ret
  exact ⟨by simp, rfl⟩

theorem cmp_int (w : World) (a b : Int) : Calls Try.prog 141 #[.int .i64 a, .int .i64 b] w fun e w' => e = .returned (.int .i64 (icmp a b)) ∧ w = w' := by
  go_enter Try.func141, Try.ntmps141
  go_wp2_with fail
  refine (nan_int _ _).mono ?_
  rintro e w' ⟨rfl, rfl⟩
  go_wp2_with fail
  refine (nan_int _ _).mono ?_
  rintro e w' ⟨rfl, rfl⟩
  go_wp2_with fail
  all_goals go_ret
  · have h : a < b := by assumption
    exact ⟨by simp [icmp, h], rfl⟩
  · have h : b < a := by assumption
    exact ⟨by simp [icmp, h, Int.lt_asymm h], rfl⟩
  · have h : b ≤ a := by assumption
    have h' : a ≤ b := by assumption
    exact ⟨by simp [icmp, Int.not_lt.2 h, Int.not_lt.2 h'], rfl⟩

theorem bytesLess_eq : ∀ (x y : List UInt8), Op.bytesLess x y = decide (x < y)
  | x, [] => by cases x <;> simp [Op.bytesLess]
  | [], b :: y => by simp [Op.bytesLess]
  | a :: x, b :: y => by
    rw [Op.bytesLess, bytesLess_eq x y, Bool.eq_iff_iff]
    simp [List.cons_lt_cons_iff]

theorem scmp_lt {a b : ByteArray} (h : Op.bytesLess a.toList b.toList = true) : scmp a b = -1 := by
  rw [bytesLess_eq] at h; simp only [decide_eq_true_eq] at h; simp [scmp, h]
theorem scmp_gt {a b : ByteArray} (h : Op.bytesLess a.toList b.toList = false) (h' : (!a.toList == b.toList) = true) : scmp a b = 1 := by
  rw [bytesLess_eq] at h; simp only [decide_eq_false_iff_not] at h
  have h2 : b.toList < a.toList := by
    rcases List.lt_trichotomy' a.toList b.toList with h3 | h3 | h3
    · exact absurd h3 h
    · simp [h3] at h'
    · exact h3
  simp [scmp, h, h2]
theorem scmp_eq {a b : ByteArray} (h' : a.toList = b.toList) : scmp a b = 0 := by
  simp [scmp, h', List.lt_irrefl]

theorem cmp_str (w : World) (a b : ByteArray) : Calls Try.prog 142 #[.string a, .string b] w fun e w' => e = .returned (.int .i64 (scmp a b)) ∧ w = w' := by
  go_enter Try.func142, Try.ntmps142
  go_wp2_with fail
  refine (nan_str _ _).mono ?_
  rintro e w' ⟨rfl, rfl⟩
  go_wp2_with fail
  refine (nan_str _ _).mono ?_
  rintro e w' ⟨rfl, rfl⟩
  go_wp2_with fail
  all_goals go_ret
  · exact ⟨by rw [scmp_lt (by assumption)]; rfl, rfl⟩
  · exact ⟨by rw [scmp_gt (by assumption) (by assumption)]; rfl, rfl⟩
  · exact ⟨by rw [scmp_eq (by simpa using (by assumption : (!a.toList == b.toList) = false))]; rfl, rfl⟩

theorem symCmp_k {x y : SymV} (h : icmp x.k y.k ≠ 0) : symCmp x y = icmp x.k y.k := by simp [symCmp, lex, h]
theorem symCmp_t {x y : SymV} (h : icmp x.k y.k = 0) (h' : scmp x.t y.t ≠ 0) : symCmp x y = scmp x.t y.t := by simp [symCmp, lex, h, h']
theorem symCmp_n {x y : SymV} (h : icmp x.k y.k = 0) (h' : scmp x.t y.t = 0) : symCmp x y = icmp x.n y.n := by simp [symCmp, lex, h, h']

theorem boxes2 (w : World) (x y : SymV) :
    Below w.heap.size w ((w.alloc (.cells #[.int .i64 x.k, .string x.t, .int .i64 x.n] 26)).alloc (.cells #[.int .i64 y.k, .string y.t, .int .i64 y.n] 26)) :=
  ((Below.refl _ w).alloc (Nat.le_refl _) _).alloc (by simp) _

set_option maxHeartbeats 400000 in
theorem sym_compare (w : World) (x y : SymV) : Calls Try.prog 140 #[.agg #[.int .i64 x.k, .string x.t, .int .i64 x.n], .agg #[.int .i64 y.k, .string y.t, .int .i64 y.n]] w
    fun e w' => e = .returned (.int .i64 (symCmp x y)) ∧ Below w.heap.size w w' := by
  by_cases hk : icmp x.k y.k = 0
  · have Hk := Lib.hid hk
    have Hk1 : (icmp x.k y.k != 0) = false := by simp [hk]
    clear hk
    by_cases ht : scmp x.t y.t = 0
    · have Ht := Lib.hid ht
      have Ht1 : (scmp x.t y.t != 0) = false := by simp [ht]
      clear ht
      go_enter Try.func140, Try.ntmps140
      go_wp2_with fail
      refine (cmp_int _ _ _).mono ?_
      rintro e w' ⟨rfl, rfl⟩
      go_wp2_with fail
      refine (cmp_str _ _ _).mono ?_
      rintro e w' ⟨rfl, rfl⟩
      go_wp2_with fail
      refine (cmp_int _ _ _).mono ?_
      rintro e w' ⟨rfl, rfl⟩
      go_wp2_with fail
      go_ret
      exact ⟨by rw [symCmp_n Hk.out Ht.out]; rfl, boxes2 w x y⟩
    · have Ht := Lib.hid ht
      have Ht1 : (scmp x.t y.t != 0) = true := by simp [ht]
      clear ht
      go_enter Try.func140, Try.ntmps140
      go_wp2_with fail
      refine (cmp_int _ _ _).mono ?_
      rintro e w' ⟨rfl, rfl⟩
      go_wp2_with fail
      refine (cmp_str _ _ _).mono ?_
      rintro e w' ⟨rfl, rfl⟩
      go_wp2_with fail
      go_ret
      exact ⟨by rw [symCmp_t Hk.out Ht.out]; rfl, boxes2 w x y⟩
  · have Hk := Lib.hid hk
    have Hk1 : (icmp x.k y.k != 0) = true := by simp [hk]
    clear hk
    go_enter Try.func140, Try.ntmps140
    go_wp2_with fail
    refine (cmp_int _ _ _).mono ?_
    rintro e w' ⟨rfl, rfl⟩
    go_wp2_with fail
    go_ret
    exact ⟨by rw [symCmp_k Hk.out]; rfl, boxes2 w x y⟩

end Go.Proofs.Ytfgpkbbbohipcaa
