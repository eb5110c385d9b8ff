/- Conditions, tests, actions: what they are, plainly, and where they lie. Conditions: none. -/
import Derived.Test.YtmnpcpgdhaplaaaBase
namespace Go.Proofs.Ytmnpcpgdhaplaaa
open Go Go.RowKit

/-- A slice's head. -/
structure SlH where
  a : Option Addr
  n : Nat
  c : Nat

structure TestV where
  rel : Int
  var : ByteArray
  sym : SymV
  lst : SlH
  syms : List SymV

structure CondH where
  kind : Int
  goal : Bool
  id : ByteArray
  attr : SlH
  attrs : List TestV
  value : SlH
  values : List TestV
  acc : Bool
  conds : SlH

inductive CondV where
  | mk : CondH → List CondV → CondV

def CondV.h : CondV → CondH | .mk h _ => h
def CondV.inner : CondV → List CondV | .mk _ l => l

mutual
def CondV.size : CondV → Nat
  | .mk _ l => 1 + sizeL l
def sizeL : List CondV → Nat
  | [] => 0
  | c :: cs => c.size + sizeL cs
end

theorem CondV.size_eq (c : CondV) : c.size = 1 + sizeL c.inner := by cases c; rfl
theorem sizeL_cons (c : CondV) (cs : List CondV) : sizeL (c :: cs) = 1 + sizeL c.inner + sizeL cs := by rw [sizeL, CondV.size_eq]
theorem sizeL_append (a b : List CondV) : sizeL (a ++ b) = sizeL a + sizeL b := by
  induction a with
  | nil => simp [sizeL]
  | cons c cs ih => rw [List.cons_append, sizeL_cons, sizeL_cons, ih]; omega
theorem sizeL_le (cs : List CondV) : cs.length ≤ sizeL cs := by
  induction cs with
  | nil => simp [sizeL]
  | cons c cs ih => rw [sizeL_cons]; simp; omega
theorem sizeL_mem {c : CondV} {cs : List CondV} (h : c ∈ cs) : 1 + sizeL c.inner ≤ sizeL cs := by
  induction cs with
  | nil => simp at h
  | cons d cs ih =>
    rw [sizeL_cons]
    rcases List.mem_cons.1 h with rfl | h
    · omega
    · have := ih h; omega

/-- Where a condition stands: its count, and within how many others it is. -/
structure SpotV where
  count : Int
  depth : Int

mutual
/-- All conditions of a list, each ahead of its inner ones, with where they stand. -/
def flatC (n d : Int) : CondV → List (SpotV × CondV)
  | .mk h l => (⟨n, d⟩, .mk h l) :: flatL (n + 1) (d + 1) l
def flatL (n d : Int) : List CondV → List (SpotV × CondV)
  | [] => []
  | c :: cs => flatC n d c ++ flatL (n + c.size) d cs
end

theorem flatC_eq (n d : Int) (c : CondV) : flatC n d c = (⟨n, d⟩, c) :: flatL (n + 1) (d + 1) c.inner := by cases c; rfl
theorem flatL_nil (n d : Int) : flatL n d [] = [] := rfl
theorem flatL_cons (n d : Int) (c : CondV) (cs : List CondV) : flatL n d (c :: cs) = (⟨n, d⟩, c) :: flatL (n + 1) (d + 1) c.inner ++ flatL (n + 1 + sizeL c.inner) d cs := by
  rw [flatL, flatC_eq, CondV.size_eq]
  congr 2
  omega
theorem flatL_append (n d : Int) (a b : List CondV) : flatL n d (a ++ b) = flatL n d a ++ flatL (n + sizeL a) d b := by
  induction a generalizing n with
  | nil => simp [flatL, sizeL]
  | cons c cs ih =>
    rw [List.cons_append, flatL_cons, flatL_cons, ih, sizeL_cons, List.append_assoc]
    congr 3
    omega
theorem flatL_length (k : Nat) : ∀ (cs : List CondV), sizeL cs ≤ k → ∀ n d, (flatL n d cs).length = sizeL cs := by
  induction k with
  | zero =>
    intro cs h n d
    have := sizeL_le cs
    obtain rfl : cs = [] := List.length_eq_zero_iff.1 (by omega)
    rfl
  | succ k ih =>
    intro cs
    induction cs with
    | nil => intros; rfl
    | cons c cs ih2 =>
      intro h n d
      rw [sizeL_cons] at h
      rw [flatL_cons, sizeL_cons, List.length_append, List.length_cons, ih _ (by omega), ih2 (by omega)]
      omega

/-- xs lie one behind the other, in a block between lo and hi; each is so many cells. -/
def RowIn {α : Type} (lo hi k : Nat) (cells : α → List Value) (w : World) (s : SlH) (xs : List α) : Prop :=
  s.n = xs.length ∧ (xs = [] ∨ ∃ b off, lo ≤ b ∧ b < hi ∧ s.a = some ⟨b, off, none⟩ ∧ ∀ i x, xs[i]? = some x → ∀ j u, (cells x)[j]? = some u → w.cell? ⟨b, off + i * k + j, none⟩ = some u)

/-- What lies between lo and hi is as it was. -/
def KeepIn (lo hi : Nat) (W W' : World) : Prop := ∀ (b : Nat) (c : Array Value) (T : TypeId) (f : Nat × Nat), lo ≤ b → b < hi → W.heap[b]? = some (.cells c T f) → W'.heap[b]? = some (.cells c T f)

theorem cell_blockC {w : World} {b o : Nat} {v : Value} (h : w.cell? ⟨b, o, none⟩ = some v) : ∃ c T f, w.heap[b]? = some (.cells c T f) ∧ c[o]? = some v := by
  unfold World.cell? at h
  cases hb : w.heap[b]? with
  | none => simp [hb] at h
  | some ob =>
    cases ob with
    | cells c T f => exact ⟨c, T, f, rfl, by simpa [hb] using h⟩
    | _ => simp [hb] at h

theorem KeepIn.cell {lo hi : Nat} {W W' : World} (h : KeepIn lo hi W W') {b o : Nat} {v : Value} (h1 : lo ≤ b) (h2 : b < hi) (hv : W.cell? ⟨b, o, none⟩ = some v) : W'.cell? ⟨b, o, none⟩ = some v := by
  obtain ⟨c, T, f, k1, k2⟩ := cell_blockC hv
  simp [World.cell?, h b c T f h1 h2 k1, k2]
theorem KeepIn.trans {lo hi : Nat} {A B C : World} (h : KeepIn lo hi A B) (k : KeepIn lo hi B C) : KeepIn lo hi A C := fun b c T f h1 h2 hb => k b c T f h1 h2 (h b c T f h1 h2 hb)
theorem KeepIn.refl (lo hi : Nat) (W : World) : KeepIn lo hi W W := fun _ _ _ _ _ _ h => h
theorem KeepIn.of_below {lo hi B : Nat} {W W' : World} (h : Below B W W') (hB : hi ≤ B) : KeepIn lo hi W W' := fun b _ _ _ _ h2 hb => (h.block b (by omega)).trans hb

theorem RowIn.keep {α : Type} {lo hi k : Nat} {cells : α → List Value} {W W' : World} {s : SlH} {xs : List α} (h : RowIn lo hi k cells W s xs) (hk : KeepIn lo hi W W') : RowIn lo hi k cells W' s xs := by
  refine ⟨h.1, ?_⟩
  rcases h.2 with h | ⟨b, off, h1, h2, ha, h⟩
  · exact .inl h
  · exact .inr ⟨b, off, h1, h2, ha, fun i x hx j u hu => hk.cell h1 h2 (h i x hx j u hu)⟩

abbrev symCells (x : SymV) : List Value := [.int .i64 x.k, .string x.t, .int .i64 x.n]
abbrev testCells (t : TestV) : List Value := [.int .i64 t.rel, .string t.var, .int .i64 t.sym.k, .string t.sym.t, .int .i64 t.sym.n, .slice t.lst.a t.lst.n t.lst.c]
abbrev condCells (c : CondV) : List Value := [.int .i64 c.h.kind, .bool c.h.goal, .string c.h.id, .slice c.h.attr.a c.h.attr.n c.h.attr.c, .slice c.h.value.a c.h.value.n c.h.value.c, .bool c.h.acc, .slice c.h.conds.a c.h.conds.n c.h.conds.c]

def TestsOk (lo hi : Nat) (W : World) (s : SlH) (ts : List TestV) : Prop := RowIn lo hi 6 testCells W s ts ∧ ∀ t ∈ ts, RowIn lo hi 3 symCells W t.lst t.syms

mutual
def CondOk (lo hi : Nat) (W : World) : CondV → Prop
  | .mk h l => TestsOk lo hi W h.attr h.attrs ∧ TestsOk lo hi W h.value h.values ∧ RowIn lo hi 7 condCells W h.conds l ∧ CondOkL lo hi W l
def CondOkL (lo hi : Nat) (W : World) : List CondV → Prop
  | [] => True
  | c :: cs => CondOk lo hi W c ∧ CondOkL lo hi W cs
end

def CondsOk (lo hi : Nat) (W : World) (s : SlH) (cs : List CondV) : Prop := RowIn lo hi 7 condCells W s cs ∧ CondOkL lo hi W cs

theorem condOk_iff {lo hi : Nat} {W : World} {c : CondV} : CondOk lo hi W c ↔ TestsOk lo hi W c.h.attr c.h.attrs ∧ TestsOk lo hi W c.h.value c.h.values ∧ CondsOk lo hi W c.h.conds c.inner := by
  cases c; rfl
theorem condOkL_iff {lo hi : Nat} {W : World} {cs : List CondV} : CondOkL lo hi W cs ↔ ∀ c ∈ cs, CondOk lo hi W c := by
  induction cs with
  | nil => simp [CondOkL]
  | cons c cs ih => simp [CondOkL, ih]

theorem TestsOk.keep {lo hi : Nat} {W W' : World} {s : SlH} {ts : List TestV} (h : TestsOk lo hi W s ts) (hk : KeepIn lo hi W W') : TestsOk lo hi W' s ts := ⟨h.1.keep hk, fun t ht => (h.2 t ht).keep hk⟩

theorem condOkL_keep {lo hi : Nat} {W W' : World} (hk : KeepIn lo hi W W') (k : Nat) : ∀ cs, sizeL cs ≤ k → CondOkL lo hi W cs → CondOkL lo hi W' cs := by
  induction k with
  | zero =>
    intro cs h _
    have := sizeL_le cs
    obtain rfl : cs = [] := List.length_eq_zero_iff.1 (by omega)
    trivial
  | succ k ih =>
    intro cs h hc
    rw [condOkL_iff] at hc ⊢
    intro c hcm
    have hs := sizeL_mem hcm
    obtain ⟨h1, h2, h3, h4⟩ := condOk_iff.1 (hc c hcm)
    exact condOk_iff.2 ⟨h1.keep hk, h2.keep hk, h3.keep hk, ih _ (by omega) h4⟩

theorem CondsOk.keep {lo hi : Nat} {W W' : World} {s : SlH} {cs : List CondV} (h : CondsOk lo hi W s cs) (hk : KeepIn lo hi W W') : CondsOk lo hi W' s cs := ⟨h.1.keep hk, condOkL_keep hk _ cs (Nat.le_refl _) h.2⟩
theorem CondOk.keep {lo hi : Nat} {W W' : World} {c : CondV} (h : CondOk lo hi W c) (hk : KeepIn lo hi W W') : CondOk lo hi W' c := by
  obtain ⟨h1, h2, h3⟩ := condOk_iff.1 h
  exact condOk_iff.2 ⟨h1.keep hk, h2.keep hk, h3.keep hk⟩

/-- The i-th of them: its cells. -/
theorem RowIn.at {α : Type} {lo hi k : Nat} {cells : α → List Value} {W : World} {s : SlH} {xs : List α} (h : RowIn lo hi k cells W s xs) {i : Nat} {x : α} (hx : xs[i]? = some x) :
    ∃ b off, lo ≤ b ∧ b < hi ∧ s.a = some ⟨b, off, none⟩ ∧ ∀ j u, (cells x)[j]? = some u → W.cell? ⟨b, off + i * k + j, none⟩ = some u := by
  rcases h.2 with rfl | ⟨b, off, h1, h2, h3, h4⟩
  · simp at hx
  · exact ⟨b, off, h1, h2, h3, h4 i x hx⟩

end Go.Proofs.Ytmnpcpgdhaplaaa
