/- Trees of members, and what it means that one lies in memory. Conditions: none. -/
import Derived.Test.YtmnpcpgdhaplaaaProg
import Derived.Test.YtmnpcpgdhaplaaaPlain
import Derived.WalkKit
import Derived.Below
import Derived.OneCell
import Derived.Lib.Hide
import Derived.Deep.RegionHeld3
import Derived.Deep.QuietTactic
import Derived.BigQuiet
import Derived.Deep.RegionWith
import Derived.Outline
namespace Go.Proofs.Ytmnpcpgdhaplaaa
open Go Go.RowKit

inductive Tr (α : Type) where
  | nil
  | node (l : Tr α) (x : α) (r : Tr α)

def Tr.list {α : Type} : Tr α → List α
  | .nil => []
  | .node l x r => l.list ++ x :: r.list

def Tr.size {α : Type} (t : Tr α) : Nat := t.list.length

theorem size_node {α : Type} (l r : Tr α) (x : α) : (Tr.node l x r).size = l.size + r.size + 1 := by simp [Tr.size, Tr.list]; omega

/-- t lies in w at p: `nc x pl pr n` are a node's cells, T its type. -/
def IsT {α : Type} (nc : α → Option Addr → Option Addr → Nat → Array Value) (T : TypeId) (w : World) : Tr α → Option Addr → Prop
  | .nil, p => p = none
  | .node l x r, p => ∃ b pl pr, p = some ⟨b, 0, none⟩ ∧ w.heap[b]? = some (.cells (nc x pl pr (l.size + r.size + 1)) T (0, 0)) ∧ IsT nc T w l pl ∧ IsT nc T w r pr

theorem IsT.below {α : Type} {nc : α → Option Addr → Option Addr → Nat → Array Value} {T : TypeId} {B : Nat} {w w' : World} (hB : Below B w w') (hs : w.heap.size ≤ B) : ∀ (t : Tr α) (p : Option Addr), IsT nc T w t p → IsT nc T w' t p
  | .nil, _, h => h
  | .node l x r, _, h => by
    obtain ⟨b, pl, pr, rfl, hb, hl, hr⟩ := h
    exact ⟨b, pl, pr, rfl, by rw [hB.block b (Nat.lt_of_lt_of_le (lt_of_block hb) hs)]; exact hb, IsT.below hB hs l pl hl, IsT.below hB hs r pr hr⟩

theorem IsT.ext {α : Type} {nc : α → Option Addr → Option Addr → Nat → Array Value} {T : TypeId} {w w' : World} {t : Tr α} {p : Option Addr} (h : IsT nc T w t p) (hB : Below w.heap.size w w') : IsT nc T w' t p :=
  IsT.below hB (Nat.le_refl _) t p h

/-- A tree stays where it is as long as its nodes' blocks do. -/
theorem IsT.keep {α : Type} {nc : α → Option Addr → Option Addr → Nat → Array Value} {T : TypeId} {w w' : World}
    (hk : ∀ (b : Nat) (c : Array Value), w.heap[b]? = some (.cells c T (0, 0)) → w'.heap[b]? = some (.cells c T (0, 0))) : ∀ (t : Tr α) (p : Option Addr), IsT nc T w t p → IsT nc T w' t p
  | .nil, _, h => h
  | .node l x r, _, h => by
    obtain ⟨b, pl, pr, rfl, hb, hl, hr⟩ := h
    exact ⟨b, pl, pr, rfl, hk b _ hb, IsT.keep hk l pl hl, IsT.keep hk r pr hr⟩

/-- A store into a block of another type leaves a tree as it is. -/
theorem IsT.setCell {α : Type} {nc : α → Option Addr → Option Addr → Nat → Array Value} {T T' : TypeId} {w : World} {t : Tr α} {p : Option Addr} (h : IsT nc T w t p) {a : Addr} {c : Array Value} {f : Nat × Nat}
    (ha : w.heap[a.block]? = some (.cells c T' f)) (hT : T' ≠ T) (v : Value) : IsT nc T (w.setCell a v) t p := by
  refine IsT.keep (fun b c' hb => (Below.heap_setCell _ _ _ _ ?_).trans hb) t p h
  rintro rfl
  rw [ha] at hb
  simp at hb
  exact hT hb.2.1

theorem below_drewN (B : Nat) (w : World) (n : Nat) : Below B w (w.drewN n) := ⟨rfl, rfl, rfl, Nat.le_refl _, fun _ _ => rfl⟩

/-- All that was there is as it was, but for block s. -/
structure But (s : Nat) (w w' : World) : Prop where
  os : w'.os = w.os
  tape : w'.tape = w.tape
  output : w'.output = w.output
  size : w.heap.size ≤ w'.heap.size
  block : ∀ k, k < w.heap.size → k ≠ s → w'.heap[k]? = w.heap[k]?

theorem But.refl (s : Nat) (w : World) : But s w w := ⟨rfl, rfl, rfl, Nat.le_refl _, fun _ _ _ => rfl⟩
theorem But.of_below {s : Nat} {w w' : World} (h : Below w.heap.size w w') : But s w w' := ⟨h.os, h.tape, h.output, h.size, fun k hk _ => h.block k hk⟩
theorem But.trans {s : Nat} {a b c : World} (h : But s a b) (k : But s b c) : But s a c :=
  ⟨k.os.trans h.os, k.tape.trans h.tape, k.output.trans h.output, Nat.le_trans h.size k.size, fun i hi hs => (k.block i (Nat.lt_of_lt_of_le hi h.size) hs).trans (h.block i hi hs)⟩
theorem But.setCell {s : Nat} {a w : World} (h : But s a w) (o : Nat) (v : Value) : But s a (w.setCell ⟨s, o, none⟩ v) :=
  h.trans ⟨rfl, rfl, rfl, by simp [World.setCell], fun k _ hs => Below.heap_setCell _ _ _ _ hs⟩
/-- What is done to a block that is new leaves all that was there. -/
theorem But.below {s B : Nat} {a w w' : World} (h : Below B a w) (hb : But s w w') (hs : B ≤ s) (hB : B ≤ w.heap.size) : Below B a w' :=
  ⟨hb.os.trans h.os, hb.tape.trans h.tape, hb.output.trans h.output, Nat.le_trans h.size hb.size, fun k hk => (hb.block k (by omega) (by omega)).trans (h.block k hk)⟩
/-- A tree stays where it is while a block of another type is changed. -/
theorem IsT.but {α : Type} {nc : α → Option Addr → Option Addr → Nat → Array Value} {T T' : TypeId} {s : Nat} {w w' : World} {t : Tr α} {p : Option Addr} (h : IsT nc T w t p) (hb : But s w w') {c : Array Value} {f : Nat × Nat}
    (ha : w.heap[s]? = some (.cells c T' f)) (hT : T' ≠ T) : IsT nc T w' t p := by
  refine IsT.keep (fun b c' hb' => (hb.block b (lt_of_block hb') ?_).trans hb') t p h
  rintro rfl
  rw [ha] at hb'
  simp at hb'
  exact hT hb'.2.1

theorem wcast (n : Nat) (z : Int) (h : z = n) : Value.int IntKind.i64 z = .int .i64 (n : Int) := by rw [h]

end Go.Proofs.Ytmnpcpgdhaplaaa
