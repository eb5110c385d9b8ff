/- Trees of members, and what it means that one lies in memory. Conditions: none.
Conditions, tests, actions: what they are, plainly, and where they lie. Conditions: none. -/
import Derived.Test.YtmnpcpgdhaplaaaProg
import Derived.Test.YtmnpcpgdhaplaaaPlain
import Derived.WalkKit
import Derived.Below
import Derived.OneCell
import Derived.Lib.Hide
import Derived.Deep.RegionHeld3
import Derived.Deep.QuietTactic
import Derived.BigQuiet
import Derived.Deep.RegionWith
import Derived.Outline
namespace Go.Proofs.Ytmnpcpgdhaplaaa
open Go Go.RowKit

inductive Tr (α : Type) where
  | nil
  | node (l : Tr α) (x : α) (r : Tr α)

def Tr.list {α : Type} : Tr α → List α
  | .nil => []
  | .node l x r => l.list ++ x :: r.list

def Tr.size {α : Type} (t : Tr α) : Nat := t.list.length

theorem size_node {α : Type} (l r : Tr α) (x : α) : (Tr.node l x r).size = l.size + r.size + 1 := by simp [Tr.size, Tr.list]; omega

/-- t lies in w at p: `nc x pl pr n` are a node's cells, T its type. -/
def IsT {α : Type} (nc : α → Option Addr → Option Addr → Nat → Array Value) (T : TypeId) (w : World) : Tr α → Option Addr → Prop
  | .nil, p => p = none
  | .node l x r, p => ∃ b pl pr, p = some ⟨b, 0, none⟩ ∧ w.heap[b]? = some (.cells (nc x pl pr (l.size + r.size + 1)) T (0, 0)) ∧ IsT nc T w l pl ∧ IsT nc T w r pr

theorem IsT.below {α : Type} {nc : α → Option Addr → Option Addr → Nat → Array Value} {T : TypeId} {B : Nat} {w w' : World} (hB : Below B w w') (hs : w.heap.size ≤ B) : ∀ (t : Tr α) (p : Option Addr), IsT nc T w t p → IsT nc T w' t p
  | .nil, _, h => h
  | .node l x r, _, h => by
    obtain ⟨b, pl, pr, rfl, hb, hl, hr⟩ := h
    exact ⟨b, pl, pr, rfl, by rw [hB.block b (Nat.lt_of_lt_of_le (lt_of_block hb) hs)]; exact hb, IsT.below hB hs l pl hl, IsT.below hB hs r pr hr⟩

theorem IsT.ext {α : Type} {nc : α → Option Addr → Option Addr → Nat → Array Value} {T : TypeId} {w w' : World} {t : Tr α} {p : Option Addr} (h : IsT nc T w t p) (hB : Below w.heap.size w w') : IsT nc T w' t p :=
  IsT.below hB (Nat.le_refl _) t p h

/-- A tree stays where it is as long as its nodes' blocks do. -/
theorem IsT.keep {α : Type} {nc : α → Option Addr → Option Addr → Nat → Array Value} {T : TypeId} {w w' : World}
    (hk : ∀ (b : Nat) (c : Array Value), w.heap[b]? = some (.cells c T (0, 0)) → w'.heap[b]? = some (.cells c T (0, 0))) : ∀ (t : Tr α) (p : Option Addr), IsT nc T w t p → IsT nc T w' t p
  | .nil, _, h => h
  | .node l x r, _, h => by
    obtain ⟨b, pl, pr, rfl, hb, hl, hr⟩ := h
    exact ⟨b, pl, pr, rfl, hk b _ hb, IsT.keep hk l pl hl, IsT.keep hk r pr hr⟩

/-- A store into a block of another type leaves a tree as it is. -/
theorem IsT.setCell {α : Type} {nc : α → Option Addr → Option Addr → Nat → Array Value} {T T' : TypeId} {w : World} {t : Tr α} {p : Option Addr} (h : IsT nc T w t p) {a : Addr} {c : Array Value} {f : Nat × Nat}
    (ha : w.heap[a.block]? = some (.cells c T' f)) (hT : T' ≠ T) (v : Value) : IsT nc T (w.setCell a v) t p := by
  refine IsT.keep (fun b c' hb => (Below.heap_setCell _ _ _ _ ?_).trans hb) t p h
  rintro rfl
  rw [ha] at hb
  simp at hb
  exact hT hb.2.1

theorem below_drewN (B : Nat) (w : World) (n : Nat) : Below B w (w.drewN n) := ⟨rfl, rfl, rfl, Nat.le_refl _, fun _ _ => rfl⟩

/-- All that was there is as it was, but for block s. -/
structure But (s : Nat) (w w' : World) : Prop where
  os : w'.os = w.os
  tape : w'.tape = w.tape
  output : w'.output = w.output
  size : w.heap.size ≤ w'.heap.size
  block : ∀ k, k < w.heap.size → k ≠ s → w'.heap[k]? = w.heap[k]?

theorem But.refl (s : Nat) (w : World) : But s w w := ⟨rfl, rfl, rfl, Nat.le_refl _, fun _ _ _ => rfl⟩
theorem But.of_below {s : Nat} {w w' : World} (h : Below w.heap.size w w') : But s w w' := ⟨h.os, h.tape, h.output, h.size, fun k hk _ => h.block k hk⟩
theorem But.trans {s : Nat} {a b c : World} (h : But s a b) (k : But s b c) : But s a c :=
  ⟨k.os.trans h.os, k.tape.trans h.tape, k.output.trans h.output, Nat.le_trans h.size k.size, fun i hi hs => (k.block i (Nat.lt_of_lt_of_le hi h.size) hs).trans (h.block i hi hs)⟩
theorem But.setCell {s : Nat} {a w : World} (h : But s a w) (o : Nat) (v : Value) : But s a (w.setCell ⟨s, o, none⟩ v) :=
  h.trans ⟨rfl, rfl, rfl, by simp [World.setCell], fun k _ hs => Below.heap_setCell _ _ _ _ hs⟩
/-- What is done to a block that is new leaves all that was there. -/
theorem But.below {s B : Nat} {a w w' : World} (h : Below B a w) (hb : But s w w') (hs : B ≤ s) (hB : B ≤ w.heap.size) : Below B a w' :=
  ⟨hb.os.trans h.os, hb.tape.trans h.tape, hb.output.trans h.output, Nat.le_trans h.size hb.size, fun k hk => (hb.block k (by omega) (by omega)).trans (h.block k hk)⟩
/-- A tree stays where it is while a block of another type is changed. -/
theorem IsT.but {α : Type} {nc : α → Option Addr → Option Addr → Nat → Array Value} {T T' : TypeId} {s : Nat} {w w' : World} {t : Tr α} {p : Option Addr} (h : IsT nc T w t p) (hb : But s w w') {c : Array Value} {f : Nat × Nat}
    (ha : w.heap[s]? = some (.cells c T' f)) (hT : T' ≠ T) : IsT nc T w' t p := by
  refine IsT.keep (fun b c' hb' => (hb.block b (lt_of_block hb') ?_).trans hb') t p h
  rintro rfl
  rw [ha] at hb'
  simp at hb'
  exact hT hb'.2.1

theorem wcast (n : Nat) (z : Int) (h : z = n) : Value.int IntKind.i64 z = .int .i64 (n : Int) := by rw [h]

end Go.Proofs.Ytmnpcpgdhaplaaa

namespace Go.Proofs.Ytmnpcpgdhaplaaa
open Go Go.RowKit

/-- A slice's head. -/
structure SlH where
  a : Option Addr
  n : Nat
  c : Nat

structure TestV where
  rel : Int
  var : ByteArray
  sym : SymV
  lst : SlH
  syms : List SymV

structure CondH where
  kind : Int
  goal : Bool
  id : ByteArray
  attr : SlH
  attrs : List TestV
  value : SlH
  values : List TestV
  acc : Bool
  conds : SlH

inductive CondV where
  | mk : CondH → List CondV → CondV

def CondV.h : CondV → CondH | .mk h _ => h
def CondV.inner : CondV → List CondV | .mk _ l => l

mutual
def CondV.size : CondV → Nat
  | .mk _ l => 1 + sizeL l
def sizeL : List CondV → Nat
  | [] => 0
  | c :: cs => c.size + sizeL cs
end

theorem CondV.size_eq (c : CondV) : c.size = 1 + sizeL c.inner := by cases c; rfl
theorem sizeL_cons (c : CondV) (cs : List CondV) : sizeL (c :: cs) = 1 + sizeL c.inner + sizeL cs := by rw [sizeL, CondV.size_eq]
theorem sizeL_append (a b : List CondV) : sizeL (a ++ b) = sizeL a + sizeL b := by
  induction a with
  | nil => simp [sizeL]
  | cons c cs ih => rw [List.cons_append, sizeL_cons, sizeL_cons, ih]; omega
theorem sizeL_le (cs : List CondV) : cs.length ≤ sizeL cs := by
  induction cs with
  | nil => simp [sizeL]
  | cons c cs ih => rw [sizeL_cons]; simp; omega
theorem sizeL_mem {c : CondV} {cs : List CondV} (h : c ∈ cs) : 1 + sizeL c.inner ≤ sizeL cs := by
  induction cs with
  | nil => simp at h
  | cons d cs ih =>
    rw [sizeL_cons]
    rcases List.mem_cons.1 h with rfl | h
    · omega
    · have := ih h; omega

/-- Where a condition stands: its count, and within how many others it is. -/
structure SpotV where
  count : Int
  depth : Int

mutual
/-- All conditions of a list, each ahead of its inner ones, with where they stand. -/
def flatC (n d : Int) : CondV → List (SpotV × CondV)
  | .mk h l => (⟨n, d⟩, .mk h l) :: flatL (n + 1) (d + 1) l
def flatL (n d : Int) : List CondV → List (SpotV × CondV)
  | [] => []
  | c :: cs => flatC n d c ++ flatL (n + c.size) d cs
end

theorem flatC_eq (n d : Int) (c : CondV) : flatC n d c = (⟨n, d⟩, c) :: flatL (n + 1) (d + 1) c.inner := by cases c; rfl
theorem flatL_nil (n d : Int) : flatL n d [] = [] := rfl
theorem flatL_cons (n d : Int) (c : CondV) (cs : List CondV) : flatL n d (c :: cs) = (⟨n, d⟩, c) :: flatL (n + 1) (d + 1) c.inner ++ flatL (n + 1 + sizeL c.inner) d cs := by
  rw [flatL, flatC_eq, CondV.size_eq]
  congr 2
  omega
theorem flatL_append (n d : Int) (a b : List CondV) : flatL n d (a ++ b) = flatL n d a ++ flatL (n + sizeL a) d b := by
  induction a generalizing n with
  | nil => simp [flatL, sizeL]
  | cons c cs ih =>
    rw [List.cons_append, flatL_cons, flatL_cons, ih, sizeL_cons, List.append_assoc]
    congr 3
    omega
theorem flatL_length (k : Nat) : ∀ (cs : List CondV), sizeL cs ≤ k → ∀ n d, (flatL n d cs).length = sizeL cs := by
  induction k with
  | zero =>
    intro cs h n d
    have := sizeL_le cs
    obtain rfl : cs = [] := List.length_eq_zero_iff.1 (by omega)
    rfl
  | succ k ih =>
    intro cs
    induction cs with
    | nil => intros; rfl
    | cons c cs ih2 =>
      intro h n d
      rw [sizeL_cons] at h
      rw [flatL_cons, sizeL_cons, List.length_append, List.length_cons, ih _ (by omega), ih2 (by omega)]
      omega

/-- xs lie one behind the other, in a block between lo and hi; each is so many cells. -/
def RowIn {α : Type} (lo hi k : Nat) (cells : α → List Value) (w : World) (s : SlH) (xs : List α) : Prop :=
  s.n = xs.length ∧ (xs = [] ∨ ∃ b off, lo ≤ b ∧ b < hi ∧ s.a = some ⟨b, off, none⟩ ∧ ∀ i x, xs[i]? = some x → ∀ j u, (cells x)[j]? = some u → w.cell? ⟨b, off + i * k + j, none⟩ = some u)

/-- What lies between lo and hi is as it was. -/
def KeepIn (lo hi : Nat) (W W' : World) : Prop := ∀ (b : Nat) (c : Array Value) (T : TypeId) (f : Nat × Nat), lo ≤ b → b < hi → W.heap[b]? = some (.cells c T f) → W'.heap[b]? = some (.cells c T f)

theorem cell_blockC {w : World} {b o : Nat} {v : Value} (h : w.cell? ⟨b, o, none⟩ = some v) : ∃ c T f, w.heap[b]? = some (.cells c T f) ∧ c[o]? = some v := by
  unfold World.cell? at h
  cases hb : w.heap[b]? with
  | none => simp [hb] at h
  | some ob =>
    cases ob with
    | cells c T f => exact ⟨c, T, f, rfl, by simpa [hb] using h⟩
    | _ => simp [hb] at h

theorem KeepIn.cell {lo hi : Nat} {W W' : World} (h : KeepIn lo hi W W') {b o : Nat} {v : Value} (h1 : lo ≤ b) (h2 : b < hi) (hv : W.cell? ⟨b, o, none⟩ = some v) : W'.cell? ⟨b, o, none⟩ = some v := by
  obtain ⟨c, T, f, k1, k2⟩ := cell_blockC hv
  simp [World.cell?, h b c T f h1 h2 k1, k2]
theorem KeepIn.trans {lo hi : Nat} {A B C : World} (h : KeepIn lo hi A B) (k : KeepIn lo hi B C) : KeepIn lo hi A C := fun b c T f h1 h2 hb => k b c T f h1 h2 (h b c T f h1 h2 hb)
theorem KeepIn.refl (lo hi : Nat) (W : World) : KeepIn lo hi W W := fun _ _ _ _ _ _ h => h
theorem KeepIn.of_below {lo hi B : Nat} {W W' : World} (h : Below B W W') (hB : hi ≤ B) : KeepIn lo hi W W' := fun b _ _ _ _ h2 hb => (h.block b (by omega)).trans hb

theorem RowIn.keep {α : Type} {lo hi k : Nat} {cells : α → List Value} {W W' : World} {s : SlH} {xs : List α} (h : RowIn lo hi k cells W s xs) (hk : KeepIn lo hi W W') : RowIn lo hi k cells W' s xs := by
  refine ⟨h.1, ?_⟩
  rcases h.2 with h | ⟨b, off, h1, h2, ha, h⟩
  · exact .inl h
  · exact .inr ⟨b, off, h1, h2, ha, fun i x hx j u hu => hk.cell h1 h2 (h i x hx j u hu)⟩

abbrev symCells (x : SymV) : List Value := [.int .i64 x.k, .string x.t, .int .i64 x.n]
abbrev testCells (t : TestV) : List Value := [.int .i64 t.rel, .string t.var, .int .i64 t.sym.k, .string t.sym.t, .int .i64 t.sym.n, .slice t.lst.a t.lst.n t.lst.c]
abbrev condCells (c : CondV) : List Value := [.int .i64 c.h.kind, .bool c.h.goal, .string c.h.id, .slice c.h.attr.a c.h.attr.n c.h.attr.c, .slice c.h.value.a c.h.value.n c.h.value.c, .bool c.h.acc, .slice c.h.conds.a c.h.conds.n c.h.conds.c]

def TestsOk (lo hi : Nat) (W : World) (s : SlH) (ts : List TestV) : Prop := RowIn lo hi 6 testCells W s ts ∧ ∀ t ∈ ts, RowIn lo hi 3 symCells W t.lst t.syms

mutual
def CondOk (lo hi : Nat) (W : World) : CondV → Prop
  | .mk h l => TestsOk lo hi W h.attr h.attrs ∧ TestsOk lo hi W h.value h.values ∧ RowIn lo hi 7 condCells W h.conds l ∧ CondOkL lo hi W l
def CondOkL (lo hi : Nat) (W : World) : List CondV → Prop
  | [] => True
  | c :: cs => CondOk lo hi W c ∧ CondOkL lo hi W cs
end

def CondsOk (lo hi : Nat) (W : World) (s : SlH) (cs : List CondV) : Prop := RowIn lo hi 7 condCells W s cs ∧ CondOkL lo hi W cs

theorem condOk_iff {lo hi : Nat} {W : World} {c : CondV} : CondOk lo hi W c ↔ TestsOk lo hi W c.h.attr c.h.attrs ∧ TestsOk lo hi W c.h.value c.h.values ∧ CondsOk lo hi W c.h.conds c.inner := by
  cases c; rfl
theorem condOkL_iff {lo hi : Nat} {W : World} {cs : List CondV} : CondOkL lo hi W cs ↔ ∀ c ∈ cs, CondOk lo hi W c := by
  induction cs with
  | nil => simp [CondOkL]
  | cons c cs ih => simp [CondOkL, ih]

theorem TestsOk.keep {lo hi : Nat} {W W' : World} {s : SlH} {ts : List TestV} (h : TestsOk lo hi W s ts) (hk : KeepIn lo hi W W') : TestsOk lo hi W' s ts := ⟨h.1.keep hk, fun t ht => (h.2 t ht).keep hk⟩

theorem condOkL_keep {lo hi : Nat} {W W' : World} (hk : KeepIn lo hi W W') (k : Nat) : ∀ cs, sizeL cs ≤ k → CondOkL lo hi W cs → CondOkL lo hi W' cs := by
  induction k with
  | zero =>
    intro cs h _
    have := sizeL_le cs
    obtain rfl : cs = [] := List.length_eq_zero_iff.1 (by omega)
    trivial
  | succ k ih =>
    intro cs h hc
    rw [condOkL_iff] at hc ⊢
    intro c hcm
    have hs := sizeL_mem hcm
    obtain ⟨h1, h2, h3, h4⟩ := condOk_iff.1 (hc c hcm)
    exact condOk_iff.2 ⟨h1.keep hk, h2.keep hk, h3.keep hk, ih _ (by omega) h4⟩

theorem CondsOk.keep {lo hi : Nat} {W W' : World} {s : SlH} {cs : List CondV} (h : CondsOk lo hi W s cs) (hk : KeepIn lo hi W W') : CondsOk lo hi W' s cs := ⟨h.1.keep hk, condOkL_keep hk _ cs (Nat.le_refl _) h.2⟩
theorem CondOk.keep {lo hi : Nat} {W W' : World} {c : CondV} (h : CondOk lo hi W c) (hk : KeepIn lo hi W W') : CondOk lo hi W' c := by
  obtain ⟨h1, h2, h3⟩ := condOk_iff.1 h
  exact condOk_iff.2 ⟨h1.keep hk, h2.keep hk, h3.keep hk⟩

/-- The i-th of them: its cells. -/
theorem RowIn.at {α : Type} {lo hi k : Nat} {cells : α → List Value} {W : World} {s : SlH} {xs : List α} (h : RowIn lo hi k cells W s xs) {i : Nat} {x : α} (hx : xs[i]? = some x) :
    ∃ b off, lo ≤ b ∧ b < hi ∧ s.a = some ⟨b, off, none⟩ ∧ ∀ j u, (cells x)[j]? = some u → W.cell? ⟨b, off + i * k + j, none⟩ = some u := by
  rcases h.2 with rfl | ⟨b, off, h1, h2, h3, h4⟩
  · simp at hx
  · exact ⟨b, off, h1, h2, h3, h4 i x hx⟩

end Go.Proofs.Ytmnpcpgdhaplaaa
