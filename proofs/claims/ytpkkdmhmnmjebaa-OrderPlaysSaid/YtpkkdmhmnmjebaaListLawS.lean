/- What the statements' list of a set of symbols answers, and what stays of it when a set is changed. Conditions: at most 800000 members. -/
import Derived.Test.YtpkkdmhmnmjebaaListSS
import Derived.Test.YtpkkdmhmnmjebaaNewSS
namespace Go.Proofs.Ytpkkdmhmnmjebaa.S
open Go Go.RowKit Go.Shelf

theorem flat3 : ∀ (xs : List SymV) (i : Nat) (x : SymV), xs[i]? = some x →
    (xs.flatMap fun x => ([.int .i64 x.k, .string x.t, .int .i64 x.n] : List Value))[i * 3]? = some (.int .i64 x.k) ∧ (xs.flatMap fun x => ([.int .i64 x.k, .string x.t, .int .i64 x.n] : List Value))[i * 3 + 1]? = some (.string x.t) ∧ (xs.flatMap fun x => ([.int .i64 x.k, .string x.t, .int .i64 x.n] : List Value))[i * 3 + 2]? = some (.int .i64 x.n)
  | [], _, _, h => by simp at h
  | y :: ys, 0, x, h => by
    obtain rfl : y = x := by simpa using h
    simp
  | y :: ys, i + 1, x, h => by
    have := flat3 ys i x (by simpa using h)
    rw [show (i + 1) * 3 = i * 3 + 1 + 1 + 1 by omega, show i * 3 + 1 + 1 + 1 + 1 = (i * 3 + 1) + 1 + 1 + 1 by omega, show i * 3 + 1 + 1 + 1 + 2 = (i * 3 + 2) + 1 + 1 + 1 by omega]
    simpa [List.flatMap_cons] using this

theorem flat3_length (xs : List SymV) : (xs.flatMap fun x => ([.int .i64 x.k, .string x.t, .int .i64 x.n] : List Value)).length = xs.length * 3 := by
  induction xs with
  | nil => rfl
  | cons x xs ih => simp [List.flatMap_cons, ih]; omega

/-- A slice of the values xs, in a block from B on. -/
def SliceGe (B : Nat) (w : World) (v : Value) (xs : List SymV) : Prop :=
  ∃ a cap, v = .slice a xs.length cap ∧ (xs = [] ∨ ∃ b off, B ≤ b ∧ a = some ⟨b, off, none⟩ ∧ Elems w b off xs)

theorem SliceGe.slice {B : Nat} {w : World} {v : Value} {xs : List SymV} (h : SliceGe B w v xs) : SliceOf w v xs := by
  obtain ⟨a, cap, rfl, h | ⟨b, off, -, h⟩⟩ := h
  · exact ⟨a, cap, rfl, .inl h⟩
  · exact ⟨a, cap, rfl, .inr ⟨b, off, h⟩⟩

theorem SliceGe.mono {B B' : Nat} {w : World} {v : Value} {xs : List SymV} (h : SliceGe B w v xs) (hB : B' ≤ B) : SliceGe B' w v xs := by
  obtain ⟨a, cap, rfl, h | ⟨b, off, hb, h⟩⟩ := h
  · exact ⟨a, cap, rfl, .inl h⟩
  · exact ⟨a, cap, rfl, .inr ⟨b, off, by omega, h⟩⟩

theorem Elems.but {w w' : World} {b off s : Nat} {xs : List SymV} (h : Elems w b off xs) (hb : But s w w') (hs : b ≠ s) : Elems w' b off xs := by
  intro i x hx
  have h0 := h i x hx
  have e : w'.heap[b]? = w.heap[b]? := hb.block b (World.block_lt_of_cell? w _ h0.1) hs
  have k : ∀ o, w'.cell? ⟨b, o, none⟩ = w.cell? ⟨b, o, none⟩ := fun o => World.cell?_of_block e
  simp only [k]
  exact h0

theorem SliceGe.but {B s : Nat} {w w' : World} {v : Value} {xs : List SymV} (h : SliceGe B w v xs) (hb : But s w w') (hs : s < B) : SliceGe B w' v xs := by
  obtain ⟨a, cap, rfl, h | ⟨b, off, hB, rfl, h⟩⟩ := h
  · exact ⟨a, cap, rfl, .inl h⟩
  · exact ⟨_, cap, rfl, .inr ⟨b, off, hB, rfl, h.but hb (by omega)⟩⟩

theorem SliceGe.below {B : Nat} {w w' : World} {v : Value} {xs : List SymV} (h : SliceGe B w v xs) (hB : Below w.heap.size w w') : SliceGe B w' v xs := by
  obtain ⟨a, cap, rfl, h | ⟨b, off, hb, rfl, h⟩⟩ := h
  · exact ⟨a, cap, rfl, .inl h⟩
  · cases xs with
    | nil => exact ⟨_, cap, rfl, .inl rfl⟩
    | cons x xs => exact ⟨_, cap, rfl, .inr ⟨b, off, hb, rfl, h.below hB (World.block_lt_of_cell? w _ (h 0 x rfl).1)⟩⟩

theorem Made.ge {B : Nat} {W : World} {v : Value} {xs : List SymV} (h : Made B W v xs) : SliceGe B W v xs := by
  rcases h.2 with ⟨rfl, h0⟩ | ⟨g, cap, cur, rfl, hb, hg, hn, hm, hs, ht⟩
  · have : xs = [] := List.length_eq_zero_iff.1 h0
    subst this
    exact ⟨none, 0, rfl, .inl rfl⟩
  · refine ⟨some ⟨g, 0, none⟩, cap, rfl, .inr ⟨g, 0, hb, rfl, fun i x hx => ?_⟩⟩
    have hi : i < xs.length := (List.getElem?_eq_some_iff.1 hx).1
    obtain ⟨h1, h2, h3⟩ := flat3 xs i x hx
    rw [Nat.zero_add]
    exact ⟨(World.ownsRow.cellAt h (i * 3) (by omega)).trans h1, (World.ownsRow.cellAt h (i * 3 + 1) (by omega)).trans h2, (World.ownsRow.cellAt h (i * 3 + 2) (by omega)).trans h3⟩

theorem SetAt.other {w w' : World} {s r : Nat} {L M : List SymV} (h : SetAt w s L) (h' : SetAt w r M) (hb : But r w w') (hr : r ≠ s) : SetAt w' s L := by
  obtain ⟨_, _, h1, _⟩ := h'
  exact h.but hb hr h1 (by decide)

set_option maxHeartbeats 1000000 in
theorem lawlist_T (w : World) (s : Nat) (L : List SymV) (hS : SetAt w s L) (hs : L.length ≤ 800000) :
    Calls Try.prog 23 #[.pointer (some ⟨s, 0, none⟩)] w fun e w' => ∃ v, e = .returned v ∧ SliceGe w.heap.size w' v L ∧ Below w.heap.size w w' := by
  have hb4 : Below w.heap.size w (w.alloc (.cells #[.pointer (some ⟨s, 0, none⟩)] 23)) := (Below.refl _ w).alloc (Nat.le_refl _) _
  have hbx := heap_alloc_new w (.cells #[.pointer (some ⟨s, 0, none⟩)] 23)
  have hS4 := hS.below hb4
  have hli := list_T 64 #[.pointer (some ⟨w.heap.size, 0, none⟩)] _ _ _ (enters_of Try.func64 (by kernel_rfl) rfl)
    (all_stops 2 _ w.heap.size s _ _ hbx hS4 hs (Nat.le_refl _)) hs (Nat.le_refl _)
  clear hbx hS4
  go_enter Try.func23, Try.ntmps23
  go_wp2_with fail
  refine (all_T w (some ⟨s, 0, none⟩)).mono ?_
  rintro e w4 ⟨rfl, rfl⟩
  go_wp2_with fail
  refine hli.mono ?_
  rintro e w5 ⟨v, rfl, hM, hb5⟩
  go_wp2_with fail
  go_ret
  exact ⟨v, rfl, (Made.ge hM).mono (by simp), hb4.trans (hb5.mono hb4.size)⟩

end Go.Proofs.Ytpkkdmhmnmjebaa.S
