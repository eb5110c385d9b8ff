/- Rows of symbols in memory of the call's own. Conditions: none. -/
import Derived.Test.YtcpgjekkcpfpaaaMg19
import Derived.Test.YtcpgjekkcpfpaaaMg20
import Derived.RangeFuncBox
import Derived.Maps.AppendAt
import Derived.Deep.AppendLies
namespace Go.Proofs.Ytcpgjekkcpfpaaa.S
open Go Go.RowKit

theorem infoT : (Try.prog.info? 27).map (fun i => (i.zero, i.size, i.bytes)) = some (some (.agg #[.int .i64 0, .string ⟨#[]⟩, .int .i64 0]), 3, 32) := by kernel_rfl

/-- v is a slice of the values xs, in memory of the call's own. -/
def Made (B : Nat) (W : World) (v : Value) (xs : List SymV) : Prop := W.ownsRow B 27 3 v xs.length (xs.flatMap fun x => [.int .i64 x.k, .string x.t, .int .i64 x.n])

theorem grownBy_below {W W' : World} (h : Below W.heap.size W W') : W.grownBy W' none := ⟨h.os, h.tape, h.output, h.size, fun k hk _ => h.block k hk⟩

theorem row_below {B : Nat} {W W' : World} {v : Value} {k : Nat} {xs : List Value} (h : Below W.heap.size W W') (hr : W.ownsRow B 27 3 v k xs) : W'.ownsRow B 27 3 v k xs :=
  hr.kept (grownBy_below h) (by cases v.ownBlock <;> simp)

theorem boxed_below {W W' : World} {b : Nat} {t : TypeId} {v : Value} (h : Below W.heap.size W W') (hb : Boxed W b t v) : Boxed W' b t v := hb.kept (grownBy_below h) (by simp)

theorem row_cap {B : Nat} {W : World} {v : Value} {xs : List SymV} (h : Made B W v xs) :
    ∃ a cap, v = .slice a xs.length cap ∧ cap ≤ maxLen ∧ xs.length ≤ cap := by
  rcases h.2 with ⟨rfl, h0⟩ | ⟨g, cap, cur, rfl, hb, hg, hn, hm, hs, ht⟩
  · exact ⟨none, 0, by rw [h0], by unfold maxLen; omega, by omega⟩
  · exact ⟨_, cap, rfl, hm, hn⟩

theorem flat3 : ∀ (xs : List SymV) (i : Nat) (x : SymV), xs[i]? = some x →
    (xs.flatMap fun x => ([.int .i64 x.k, .string x.t, .int .i64 x.n] : List Value))[i * 3]? = some (.int .i64 x.k) ∧ (xs.flatMap fun x => ([.int .i64 x.k, .string x.t, .int .i64 x.n] : List Value))[i * 3 + 1]? = some (.string x.t) ∧ (xs.flatMap fun x => ([.int .i64 x.k, .string x.t, .int .i64 x.n] : List Value))[i * 3 + 2]? = some (.int .i64 x.n)
  | [], _, _, h => by simp at h
  | y :: ys, 0, x, h => by
    obtain rfl : y = x := by simpa using h
    simp
  | y :: ys, i + 1, x, h => by
    have := flat3 ys i x (by simpa using h)
    rw [show (i + 1) * 3 = i * 3 + 1 + 1 + 1 by omega, show i * 3 + 1 + 1 + 1 + 1 = (i * 3 + 1) + 1 + 1 + 1 by omega, show i * 3 + 1 + 1 + 1 + 2 = (i * 3 + 2) + 1 + 1 + 1 by omega]
    simpa [List.flatMap_cons] using this

theorem flat3_length (xs : List SymV) : (xs.flatMap fun x => ([.int .i64 x.k, .string x.t, .int .i64 x.n] : List Value)).length = xs.length * 3 := by
  induction xs with
  | nil => rfl
  | cons x xs ih => simp [List.flatMap_cons, ih]; omega

/-- A slice of the values xs, in a block from B on. -/
def SliceGe (B : Nat) (w : World) (v : Value) (xs : List SymV) : Prop :=
  ∃ a cap, v = .slice a xs.length cap ∧ (xs = [] ∨ ∃ b off, B ≤ b ∧ a = some ⟨b, off, none⟩ ∧ Elems w b off xs)

theorem SliceGe.slice {B : Nat} {w : World} {v : Value} {xs : List SymV} (h : SliceGe B w v xs) : SliceOf w v xs := by
  obtain ⟨a, cap, rfl, h | ⟨b, off, -, h⟩⟩ := h
  · exact ⟨a, cap, rfl, .inl h⟩
  · exact ⟨a, cap, rfl, .inr ⟨b, off, h⟩⟩

theorem SliceGe.mono {B B' : Nat} {w : World} {v : Value} {xs : List SymV} (h : SliceGe B w v xs) (hB : B' ≤ B) : SliceGe B' w v xs := by
  obtain ⟨a, cap, rfl, h | ⟨b, off, hb, h⟩⟩ := h
  · exact ⟨a, cap, rfl, .inl h⟩
  · exact ⟨a, cap, rfl, .inr ⟨b, off, by omega, h⟩⟩

theorem Elems.but {w w' : World} {b off s : Nat} {xs : List SymV} (h : Elems w b off xs) (hb : But s w w') (hs : b ≠ s) : Elems w' b off xs := by
  intro i x hx
  have h0 := h i x hx
  have e : w'.heap[b]? = w.heap[b]? := hb.block b (World.block_lt_of_cell? w _ h0.1) hs
  have k : ∀ o, w'.cell? ⟨b, o, none⟩ = w.cell? ⟨b, o, none⟩ := fun o => World.cell?_of_block e
  simp only [k]
  exact h0

theorem SliceGe.but {B s : Nat} {w w' : World} {v : Value} {xs : List SymV} (h : SliceGe B w v xs) (hb : But s w w') (hs : s < B) : SliceGe B w' v xs := by
  obtain ⟨a, cap, rfl, h | ⟨b, off, hB, rfl, h⟩⟩ := h
  · exact ⟨a, cap, rfl, .inl h⟩
  · exact ⟨_, cap, rfl, .inr ⟨b, off, hB, rfl, h.but hb (by omega)⟩⟩

theorem SliceGe.below {B : Nat} {w w' : World} {v : Value} {xs : List SymV} (h : SliceGe B w v xs) (hB : Below w.heap.size w w') : SliceGe B w' v xs := by
  obtain ⟨a, cap, rfl, h | ⟨b, off, hb, rfl, h⟩⟩ := h
  · exact ⟨a, cap, rfl, .inl h⟩
  · cases xs with
    | nil => exact ⟨_, cap, rfl, .inl rfl⟩
    | cons x xs => exact ⟨_, cap, rfl, .inr ⟨b, off, hb, rfl, h.below hB (World.block_lt_of_cell? w _ (h 0 x rfl).1)⟩⟩

theorem Made.ge {B : Nat} {W : World} {v : Value} {xs : List SymV} (h : Made B W v xs) : SliceGe B W v xs := by
  rcases h.2 with ⟨rfl, h0⟩ | ⟨g, cap, cur, rfl, hb, hg, hn, hm, hs, ht⟩
  · have : xs = [] := List.length_eq_zero_iff.1 h0
    subst this
    exact ⟨none, 0, rfl, .inl rfl⟩
  · refine ⟨some ⟨g, 0, none⟩, cap, rfl, .inr ⟨g, 0, hb, rfl, fun i x hx => ?_⟩⟩
    have hi : i < xs.length := (List.getElem?_eq_some_iff.1 hx).1
    obtain ⟨h1, h2, h3⟩ := flat3 xs i x hx
    rw [Nat.zero_add]
    exact ⟨(World.ownsRow.cellAt h (i * 3) (by omega)).trans h1, (World.ownsRow.cellAt h (i * 3 + 1) (by omega)).trans h2, (World.ownsRow.cellAt h (i * 3 + 2) (by omega)).trans h3⟩

theorem sorted_ext {α : Type} {cmp : α → α → Int} (hc : Lin cmp) (he : Exact cmp) : ∀ {L M : List α}, Sorted cmp L → Sorted cmp M → (∀ a, a ∈ L ↔ a ∈ M) → L = M
  | [], [], _, _, _ => rfl
  | [], m :: M, _, _, h => by have := (h m).2 (by simp); simp at this
  | l :: L, [], _, _, h => by have := (h l).1 (by simp); simp at this
  | l :: L, m :: M, hL, hM, h => by
    obtain ⟨l1, l2⟩ := List.pairwise_cons.1 hL
    obtain ⟨m1, m2⟩ := List.pairwise_cons.1 hM
    have hlm : l = m := by
      rcases List.mem_cons.1 ((h l).1 (by simp)) with e | e
      · exact e
      · rcases List.mem_cons.1 ((h m).2 (by simp)) with e' | e'
        · exact e'.symm
        · have h1 := m1 l e
          have h2 := l1 m e'
          have h3 := hc.lt_le h1 (Int.le_of_lt h2)
          rw [(he m m).2 rfl] at h3
          omega
    subst hlm
    congr 1
    refine sorted_ext hc he l2 m2 fun a => ?_
    have ha := h a
    simp only [List.mem_cons] at ha
    constructor
    · intro k
      rcases ha.1 (.inr k) with e | e
      · have := l1 a k; rw [e, (he l l).2 rfl] at this; omega
      · exact e
    · intro k
      rcases ha.2 (.inr k) with e | e
      · have := m1 a k; rw [e, (he l l).2 rfl] at this; omega
      · exact e

theorem Elems.take {w : World} {b off : Nat} {xs : List SymV} (h : Elems w b off xs) (m : Nat) : Elems w b off (xs.take m) := by
  intro i x hx
  have hi : i < m := by
    have := (List.getElem?_eq_some_iff.1 hx).1
    simp at this; omega
  exact h i x (by rwa [List.getElem?_take_of_lt hi] at hx)

theorem Elems.drop {w : World} {b off : Nat} {xs : List SymV} (h : Elems w b off xs) (m : Nat) : Elems w b (off + m * 3) (xs.drop m) := by
  intro i x hx
  rw [List.getElem?_drop] at hx
  have := h (m + i) x hx
  have e : off + (m + i) * 3 = off + m * 3 + i * 3 := by omega
  rw [e] at this
  exact this

end Go.Proofs.Ytcpgjekkcpfpaaa.S
