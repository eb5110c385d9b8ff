/- What the statements' Put, Sort, Find of elements answer, and Elems. Conditions: the lists lie in memory; at most 100000 elements. -/
import Derived.Test.YtcpgjekkcpfpaaaRefElmO
namespace Go.Proofs.Ytcpgjekkcpfpaaa.O
open Go Go.RowKit

theorem memo_at {w wr : World} {b off j : Nat} {xs : List ElmV} {y : ElmV} (h : Elems w b off xs) (hy : xs[j]? = some y) (hB : Below w.heap.size w wr) : wr.cell? ⟨b, off + j * 12, none⟩ = some (.int .i64 y.id.k) ∧ wr.cell? ⟨b, off + j * 12 + 1, none⟩ = some (.string y.id.t) ∧ wr.cell? ⟨b, off + j * 12 + 2, none⟩ = some (.int .i64 y.id.n) ∧ wr.cell? ⟨b, off + j * 12 + 3, none⟩ = some (.int .i64 y.attr.k) ∧ wr.cell? ⟨b, off + j * 12 + 4, none⟩ = some (.string y.attr.t) ∧ wr.cell? ⟨b, off + j * 12 + 5, none⟩ = some (.int .i64 y.attr.n) ∧ wr.cell? ⟨b, off + j * 12 + 6, none⟩ = some (.int .i64 y.val.k) ∧ wr.cell? ⟨b, off + j * 12 + 7, none⟩ = some (.string y.val.t) ∧ wr.cell? ⟨b, off + j * 12 + 8, none⟩ = some (.int .i64 y.val.n) ∧ wr.cell? ⟨b, off + j * 12 + 9, none⟩ = some (.bool y.acc) ∧ wr.cell? ⟨b, off + j * 12 + 10, none⟩ = some (.bool y.goal) ∧ wr.cell? ⟨b, off + j * 12 + 11, none⟩ = some (.int .i64 y.tag) :=
  (h.below hB (World.block_lt_of_cell? w _ (h j y hy).1)) j y hy

theorem memo_below {w w' : World} {B b o : Nat} {x : ElmV} (hB : Below B w w') (hb : b < B) (h : w.cell? ⟨b, o, none⟩ = some (.int .i64 x.id.k) ∧ w.cell? ⟨b, o + 1, none⟩ = some (.string x.id.t) ∧ w.cell? ⟨b, o + 2, none⟩ = some (.int .i64 x.id.n) ∧ w.cell? ⟨b, o + 3, none⟩ = some (.int .i64 x.attr.k) ∧ w.cell? ⟨b, o + 4, none⟩ = some (.string x.attr.t) ∧ w.cell? ⟨b, o + 5, none⟩ = some (.int .i64 x.attr.n) ∧ w.cell? ⟨b, o + 6, none⟩ = some (.int .i64 x.val.k) ∧ w.cell? ⟨b, o + 7, none⟩ = some (.string x.val.t) ∧ w.cell? ⟨b, o + 8, none⟩ = some (.int .i64 x.val.n) ∧ w.cell? ⟨b, o + 9, none⟩ = some (.bool x.acc) ∧ w.cell? ⟨b, o + 10, none⟩ = some (.bool x.goal) ∧ w.cell? ⟨b, o + 11, none⟩ = some (.int .i64 x.tag)) : w'.cell? ⟨b, o, none⟩ = some (.int .i64 x.id.k) ∧ w'.cell? ⟨b, o + 1, none⟩ = some (.string x.id.t) ∧ w'.cell? ⟨b, o + 2, none⟩ = some (.int .i64 x.id.n) ∧ w'.cell? ⟨b, o + 3, none⟩ = some (.int .i64 x.attr.k) ∧ w'.cell? ⟨b, o + 4, none⟩ = some (.string x.attr.t) ∧ w'.cell? ⟨b, o + 5, none⟩ = some (.int .i64 x.attr.n) ∧ w'.cell? ⟨b, o + 6, none⟩ = some (.int .i64 x.val.k) ∧ w'.cell? ⟨b, o + 7, none⟩ = some (.string x.val.t) ∧ w'.cell? ⟨b, o + 8, none⟩ = some (.int .i64 x.val.n) ∧ w'.cell? ⟨b, o + 9, none⟩ = some (.bool x.acc) ∧ w'.cell? ⟨b, o + 10, none⟩ = some (.bool x.goal) ∧ w'.cell? ⟨b, o + 11, none⟩ = some (.int .i64 x.tag) := by
  simp only [← hB.cell (p := ⟨b, _, none⟩) hb] at h
  exact h

theorem memX_new (w : World) (x : ElmV) : (w.alloc (.cells #[.int .i64 x.id.k, .string x.id.t, .int .i64 x.id.n, .int .i64 x.attr.k, .string x.attr.t, .int .i64 x.attr.n, .int .i64 x.val.k, .string x.val.t, .int .i64 x.val.n, .bool x.acc, .bool x.goal, .int .i64 x.tag] 29)).cell? ⟨w.heap.size, 0, none⟩ = some (.int .i64 x.id.k) ∧ (w.alloc (.cells #[.int .i64 x.id.k, .string x.id.t, .int .i64 x.id.n, .int .i64 x.attr.k, .string x.attr.t, .int .i64 x.attr.n, .int .i64 x.val.k, .string x.val.t, .int .i64 x.val.n, .bool x.acc, .bool x.goal, .int .i64 x.tag] 29)).cell? ⟨w.heap.size, 1, none⟩ = some (.string x.id.t) ∧ (w.alloc (.cells #[.int .i64 x.id.k, .string x.id.t, .int .i64 x.id.n, .int .i64 x.attr.k, .string x.attr.t, .int .i64 x.attr.n, .int .i64 x.val.k, .string x.val.t, .int .i64 x.val.n, .bool x.acc, .bool x.goal, .int .i64 x.tag] 29)).cell? ⟨w.heap.size, 2, none⟩ = some (.int .i64 x.id.n) ∧ (w.alloc (.cells #[.int .i64 x.id.k, .string x.id.t, .int .i64 x.id.n, .int .i64 x.attr.k, .string x.attr.t, .int .i64 x.attr.n, .int .i64 x.val.k, .string x.val.t, .int .i64 x.val.n, .bool x.acc, .bool x.goal, .int .i64 x.tag] 29)).cell? ⟨w.heap.size, 3, none⟩ = some (.int .i64 x.attr.k) ∧ (w.alloc (.cells #[.int .i64 x.id.k, .string x.id.t, .int .i64 x.id.n, .int .i64 x.attr.k, .string x.attr.t, .int .i64 x.attr.n, .int .i64 x.val.k, .string x.val.t, .int .i64 x.val.n, .bool x.acc, .bool x.goal, .int .i64 x.tag] 29)).cell? ⟨w.heap.size, 4, none⟩ = some (.string x.attr.t) ∧ (w.alloc (.cells #[.int .i64 x.id.k, .string x.id.t, .int .i64 x.id.n, .int .i64 x.attr.k, .string x.attr.t, .int .i64 x.attr.n, .int .i64 x.val.k, .string x.val.t, .int .i64 x.val.n, .bool x.acc, .bool x.goal, .int .i64 x.tag] 29)).cell? ⟨w.heap.size, 5, none⟩ = some (.int .i64 x.attr.n) ∧ (w.alloc (.cells #[.int .i64 x.id.k, .string x.id.t, .int .i64 x.id.n, .int .i64 x.attr.k, .string x.attr.t, .int .i64 x.attr.n, .int .i64 x.val.k, .string x.val.t, .int .i64 x.val.n, .bool x.acc, .bool x.goal, .int .i64 x.tag] 29)).cell? ⟨w.heap.size, 6, none⟩ = some (.int .i64 x.val.k) ∧ (w.alloc (.cells #[.int .i64 x.id.k, .string x.id.t, .int .i64 x.id.n, .int .i64 x.attr.k, .string x.attr.t, .int .i64 x.attr.n, .int .i64 x.val.k, .string x.val.t, .int .i64 x.val.n, .bool x.acc, .bool x.goal, .int .i64 x.tag] 29)).cell? ⟨w.heap.size, 7, none⟩ = some (.string x.val.t) ∧ (w.alloc (.cells #[.int .i64 x.id.k, .string x.id.t, .int .i64 x.id.n, .int .i64 x.attr.k, .string x.attr.t, .int .i64 x.attr.n, .int .i64 x.val.k, .string x.val.t, .int .i64 x.val.n, .bool x.acc, .bool x.goal, .int .i64 x.tag] 29)).cell? ⟨w.heap.size, 8, none⟩ = some (.int .i64 x.val.n) ∧ (w.alloc (.cells #[.int .i64 x.id.k, .string x.id.t, .int .i64 x.id.n, .int .i64 x.attr.k, .string x.attr.t, .int .i64 x.attr.n, .int .i64 x.val.k, .string x.val.t, .int .i64 x.val.n, .bool x.acc, .bool x.goal, .int .i64 x.tag] 29)).cell? ⟨w.heap.size, 9, none⟩ = some (.bool x.acc) ∧ (w.alloc (.cells #[.int .i64 x.id.k, .string x.id.t, .int .i64 x.id.n, .int .i64 x.attr.k, .string x.attr.t, .int .i64 x.attr.n, .int .i64 x.val.k, .string x.val.t, .int .i64 x.val.n, .bool x.acc, .bool x.goal, .int .i64 x.tag] 29)).cell? ⟨w.heap.size, 10, none⟩ = some (.bool x.goal) ∧ (w.alloc (.cells #[.int .i64 x.id.k, .string x.id.t, .int .i64 x.id.n, .int .i64 x.attr.k, .string x.attr.t, .int .i64 x.attr.n, .int .i64 x.val.k, .string x.val.t, .int .i64 x.val.n, .bool x.acc, .bool x.goal, .int .i64 x.tag] 29)).cell? ⟨w.heap.size, 11, none⟩ = some (.int .i64 x.tag) := by
  simp only [World.cell?, heap_alloc_new]
  and_intros <;> rfl

theorem memX_below {w w' : World} {B b : Nat} {x : ElmV} (hB : Below B w w') (hb : b < B) (h : w.cell? ⟨b, 0, none⟩ = some (.int .i64 x.id.k) ∧ w.cell? ⟨b, 1, none⟩ = some (.string x.id.t) ∧ w.cell? ⟨b, 2, none⟩ = some (.int .i64 x.id.n) ∧ w.cell? ⟨b, 3, none⟩ = some (.int .i64 x.attr.k) ∧ w.cell? ⟨b, 4, none⟩ = some (.string x.attr.t) ∧ w.cell? ⟨b, 5, none⟩ = some (.int .i64 x.attr.n) ∧ w.cell? ⟨b, 6, none⟩ = some (.int .i64 x.val.k) ∧ w.cell? ⟨b, 7, none⟩ = some (.string x.val.t) ∧ w.cell? ⟨b, 8, none⟩ = some (.int .i64 x.val.n) ∧ w.cell? ⟨b, 9, none⟩ = some (.bool x.acc) ∧ w.cell? ⟨b, 10, none⟩ = some (.bool x.goal) ∧ w.cell? ⟨b, 11, none⟩ = some (.int .i64 x.tag)) : w'.cell? ⟨b, 0, none⟩ = some (.int .i64 x.id.k) ∧ w'.cell? ⟨b, 1, none⟩ = some (.string x.id.t) ∧ w'.cell? ⟨b, 2, none⟩ = some (.int .i64 x.id.n) ∧ w'.cell? ⟨b, 3, none⟩ = some (.int .i64 x.attr.k) ∧ w'.cell? ⟨b, 4, none⟩ = some (.string x.attr.t) ∧ w'.cell? ⟨b, 5, none⟩ = some (.int .i64 x.attr.n) ∧ w'.cell? ⟨b, 6, none⟩ = some (.int .i64 x.val.k) ∧ w'.cell? ⟨b, 7, none⟩ = some (.string x.val.t) ∧ w'.cell? ⟨b, 8, none⟩ = some (.int .i64 x.val.n) ∧ w'.cell? ⟨b, 9, none⟩ = some (.bool x.acc) ∧ w'.cell? ⟨b, 10, none⟩ = some (.bool x.goal) ∧ w'.cell? ⟨b, 11, none⟩ = some (.int .i64 x.tag) := by
  simp only [← hB.cell (p := ⟨b, _, none⟩) hb] at h
  exact h

theorem put_insE {xs : List ElmV} {x : ElmV} {j : Nat} (hp : pos elmCmp xs x = j) (hh : has elmCmp xs x = false) : put elmCmp xs x = xs.take j ++ [x] ++ xs.drop j := by
  rw [put, hh, if_neg (by simp), ins, hp]; simp

/-- Where x stands: behind the place all are greater, ahead of it the next one is less. -/
theorem pos_back {xs : List ElmV} {x : ElmV} {j : Nat} (hs : Sorted elmCmp xs) (hj : j ≤ xs.length) (h1 : ∀ y ∈ xs.drop j, elmCmp x y < 0) (h2 : ∀ y, 0 < j → xs[j - 1]? = some y → 0 < elmCmp x y) : pos elmCmp xs x = j ∧ has elmCmp xs x = false := by
  have hl : ∀ y ∈ xs.take j, 0 < elmCmp x y := by
    intro y hy
    obtain ⟨i, hi⟩ := List.mem_iff_getElem?.1 hy
    have hij : i < j := by have := (List.getElem?_eq_some_iff.1 hi).1; simp at this; omega
    rw [List.getElem?_take_of_lt hij] at hi
    obtain ⟨z, hz⟩ : ∃ z, xs[j - 1]? = some z := ⟨xs[j - 1]'(by omega), List.getElem?_eq_getElem _⟩
    have hxz := h2 z (by omega) hz
    by_cases he : i = j - 1
    · subst he; rw [hi] at hz; cases hz; exact hxz
    · have hyz : elmCmp y z < 0 := by
        obtain ⟨a1, a2⟩ := List.getElem?_eq_some_iff.1 hi
        obtain ⟨b1, b2⟩ := List.getElem?_eq_some_iff.1 hz
        have := List.pairwise_iff_getElem.1 hs i (j - 1) a1 b1 (by omega)
        rwa [a2, b2] at this
      have hzx : elmCmp z x < 0 := (elmCmp_lin.swap z x).2 hxz
      exact (elmCmp_lin.swap y x).1 (elmCmp_lin.lt_le hyz (Int.le_of_lt hzx))
  constructor
  · refine S.pos_of_split elmCmp_lin hs hl hj fun y hy => ?_
    have : y ∈ xs.drop j := List.mem_of_getElem? (i := 0) (by rw [List.getElem?_drop]; exact hy)
    exact Int.le_of_lt (h1 y this)
  · rw [← Bool.not_eq_true]
    intro h
    obtain ⟨y, hy, h0⟩ := List.any_eq_true.1 h
    have h0' : elmCmp x y = 0 := by simpa using h0
    rw [← List.take_append_drop j xs] at hy
    rcases List.mem_append.1 hy with hy | hy
    · have := hl y hy; omega
    · have := h1 y hy; omega

theorem has_one {xs : List ElmV} {x y : ElmV} {j : Nat} (hy : xs[j]? = some y) (h : elmCmp y x = 0) : put elmCmp xs x = xs := by
  have h' : elmCmp x y = 0 := by have := elmCmp_lin.swap x y; have := elmCmp_lin.swap y x; omega
  rw [put, show has elmCmp xs x = true from List.any_eq_true.2 ⟨y, List.mem_of_getElem? hy, by simpa using h'⟩, if_pos rfl]

set_option maxRecDepth 100000 in
set_option maxHeartbeats 3200000 in
theorem refputE_T (w : World) (v : Value) (xs : List ElmV) (x : ElmV) (hv : SliceOf w v xs) (hf : Fits v) (hso : Sorted elmCmp xs) (hs : xs.length ≤ 100000) :
    Calls Try.prog 19 #[v, .agg #[.int .i64 x.id.k, .string x.id.t, .int .i64 x.id.n, .int .i64 x.attr.k, .string x.attr.t, .int .i64 x.attr.n, .int .i64 x.val.k, .string x.val.t, .int .i64 x.val.n, .bool x.acc, .bool x.goal, .int .i64 x.tag]] w fun e w' => ∃ v', e = .returned v' ∧ Fits v' ∧ ((v' = v ∧ put elmCmp xs x = xs) ∨ SliceGe w.heap.size w' v' (put elmCmp xs x)) ∧ Below w.heap.size w w' := by
  have hB0 : Below w.heap.size w (w.alloc (.cells #[.int .i64 x.id.k, .string x.id.t, .int .i64 x.id.n, .int .i64 x.attr.k, .string x.attr.t, .int .i64 x.attr.n, .int .i64 x.val.k, .string x.val.t, .int .i64 x.val.n, .bool x.acc, .bool x.goal, .int .i64 x.tag] 29)) := (Below.refl _ w).alloc (Nat.le_refl _) _
  have hx0 := memX_new w x
  have hsz : w.heap.size < (w.alloc (.cells #[.int .i64 x.id.k, .string x.id.t, .int .i64 x.id.n, .int .i64 x.attr.k, .string x.attr.t, .int .i64 x.attr.n, .int .i64 x.val.k, .string x.val.t, .int .i64 x.val.n, .bool x.acc, .bool x.goal, .int .i64 x.tag] 29)).heap.size := by simp
  obtain ⟨a, cap, rfl, hc⟩ := hv
  have hcap : xs.length ≤ cap := (hf _ _ _ rfl).1
  have Hf := Lib.hid hf
  have Hso := Lib.hid hso
  have hfull : ∀ W, Below w.heap.size w W → From W a cap xs := by
    intro W h
    rcases hc with rfl | ⟨b, off, rfl, hel⟩
    · cases a with
      | none => exact Or.inl ⟨rfl, (hf _ _ _ rfl).2 rfl, rfl⟩
      | some ad => exact Or.inr ⟨ad, rfl, by simp⟩
    · cases xs with
      | nil => exact Or.inr ⟨_, rfl, by simp⟩
      | cons z zs => exact Or.inr ⟨_, rfl, (hel.below h (World.block_lt_of_cell? w _ (hel 0 z rfl).1)).news⟩
  have Hfull := Lib.hid hfull
  clear hf hso hfull
  go_enter Try.func19, Try.ntmps19
  go_wp2_with fail
  generalize (w.alloc (.cells #[.int .i64 x.id.k, .string x.id.t, .int .i64 x.id.n, .int .i64 x.attr.k, .string x.attr.t, .int .i64 x.attr.n, .int .i64 x.val.k, .string x.val.t, .int .i64 x.val.n, .bool x.acc, .bool x.goal, .int .i64 x.tag] 29)) = W0 at hB0 hx0 hsz ⊢
  go_loopg [5] xs.length (fun m i wr => ∃ j : Nat, i = .int .i64 j ∧ j ≤ xs.length ∧ Hid (m = j ∧ ∀ y ∈ xs.drop j, elmCmp x y < 0) ∧ Below W0.heap.size W0 wr)
  case atStart => exact ⟨xs.length, rfl, by omega, Lib.hid ⟨rfl, by simp⟩, Below.refl _ _⟩
  case round =>
    obtain ⟨j, rfl, hj, Hm, hB⟩ := hrel
    by_cases hpj : 0 < j
    · obtain ⟨i, rfl⟩ : ∃ i, j = i + 1 := ⟨j - 1, by omega⟩
      have f1 : ((i + 1 : Nat) : Int) - 1 = (i : Int) := by omega
      have f2 : ((0 : Int) < ((i + 1 : Nat) : Int)) := by omega
      have f3 : wrap64 ((i : Int) + 1 - 1) = i := by unfold wrap64; omega
      have f4 : (0 : Int) < (i : Int) + 1 := by omega
      have f5 : wrap64 (i : Int) = i := by unfold wrap64; omega
      have f6 : i < xs.length := by omega
      have f7 : IntKind.i64.wrap ((i : Int) + 1 - 1) = i := by rw [IntWalk.i64_in _ (by omega)]; omega
      have f8 : IntKind.i64.wrap (i : Int) = i := IntWalk.i64_in _ (by omega)
      have f9 : (i : Int) < (xs.length : Int) := by omega
      have f10 : (0 : Int) ≤ (i : Int) := by omega
      rcases hc with rfl | ⟨b, off, rfl, hel⟩
      · simp at hj
      · obtain ⟨y, hy⟩ : ∃ y, xs[i]? = some y := ⟨xs[i]'(by omega), List.getElem?_eq_getElem _⟩
        have hbl := World.block_lt_of_cell? w _ (hel i y hy).1
        have hyc := memo_at hel hy (hB0.trans (hB.mono hB0.size))
        have hxc := memX_below hB hsz hx0
        have hbe := beforeE_T wr.drew x y
        have hKall : ∀ W, Below W0.heap.size W0 W → (W.cell? ⟨b, off + i * 12, none⟩ = some (.int .i64 y.id.k) ∧ W.cell? ⟨b, off + i * 12 + 1, none⟩ = some (.string y.id.t) ∧ W.cell? ⟨b, off + i * 12 + 2, none⟩ = some (.int .i64 y.id.n) ∧ W.cell? ⟨b, off + i * 12 + 3, none⟩ = some (.int .i64 y.attr.k) ∧ W.cell? ⟨b, off + i * 12 + 4, none⟩ = some (.string y.attr.t) ∧ W.cell? ⟨b, off + i * 12 + 5, none⟩ = some (.int .i64 y.attr.n) ∧ W.cell? ⟨b, off + i * 12 + 6, none⟩ = some (.int .i64 y.val.k) ∧ W.cell? ⟨b, off + i * 12 + 7, none⟩ = some (.string y.val.t) ∧ W.cell? ⟨b, off + i * 12 + 8, none⟩ = some (.int .i64 y.val.n) ∧ W.cell? ⟨b, off + i * 12 + 9, none⟩ = some (.bool y.acc) ∧ W.cell? ⟨b, off + i * 12 + 10, none⟩ = some (.bool y.goal) ∧ W.cell? ⟨b, off + i * 12 + 11, none⟩ = some (.int .i64 y.tag)) ∧ (W.cell? ⟨w.heap.size, 0, none⟩ = some (.int .i64 x.id.k) ∧ W.cell? ⟨w.heap.size, 1, none⟩ = some (.string x.id.t) ∧ W.cell? ⟨w.heap.size, 2, none⟩ = some (.int .i64 x.id.n) ∧ W.cell? ⟨w.heap.size, 3, none⟩ = some (.int .i64 x.attr.k) ∧ W.cell? ⟨w.heap.size, 4, none⟩ = some (.string x.attr.t) ∧ W.cell? ⟨w.heap.size, 5, none⟩ = some (.int .i64 x.attr.n) ∧ W.cell? ⟨w.heap.size, 6, none⟩ = some (.int .i64 x.val.k) ∧ W.cell? ⟨w.heap.size, 7, none⟩ = some (.string x.val.t) ∧ W.cell? ⟨w.heap.size, 8, none⟩ = some (.int .i64 x.val.n) ∧ W.cell? ⟨w.heap.size, 9, none⟩ = some (.bool x.acc) ∧ W.cell? ⟨w.heap.size, 10, none⟩ = some (.bool x.goal) ∧ W.cell? ⟨w.heap.size, 11, none⟩ = some (.int .i64 x.tag)) := fun W h => ⟨memo_at hel hy (hB0.trans (h.mono hB0.size)), memX_below h hsz hx0⟩
        have hEl : ∀ W, Below W0.heap.size W0 W → Elems W b off xs := fun W h => hel.below (hB0.trans (h.mono hB0.size)) hbl
        have Hy := Lib.hid hy
        have HK := Lib.hid hKall
        have hBd := Lib.hid (show Below W0.heap.size W0 wr.drew from hB.drew)
        clear hy hel hKall
        go_wp2_with fail
        go_region_held3 (fun W => (W.cell? ⟨b, off + i * 12, none⟩ = some (.int .i64 y.id.k) ∧ W.cell? ⟨b, off + i * 12 + 1, none⟩ = some (.string y.id.t) ∧ W.cell? ⟨b, off + i * 12 + 2, none⟩ = some (.int .i64 y.id.n) ∧ W.cell? ⟨b, off + i * 12 + 3, none⟩ = some (.int .i64 y.attr.k) ∧ W.cell? ⟨b, off + i * 12 + 4, none⟩ = some (.string y.attr.t) ∧ W.cell? ⟨b, off + i * 12 + 5, none⟩ = some (.int .i64 y.attr.n) ∧ W.cell? ⟨b, off + i * 12 + 6, none⟩ = some (.int .i64 y.val.k) ∧ W.cell? ⟨b, off + i * 12 + 7, none⟩ = some (.string y.val.t) ∧ W.cell? ⟨b, off + i * 12 + 8, none⟩ = some (.int .i64 y.val.n) ∧ W.cell? ⟨b, off + i * 12 + 9, none⟩ = some (.bool y.acc) ∧ W.cell? ⟨b, off + i * 12 + 10, none⟩ = some (.bool y.goal) ∧ W.cell? ⟨b, off + i * 12 + 11, none⟩ = some (.int .i64 y.tag)) ∧ (W.cell? ⟨w.heap.size, 0, none⟩ = some (.int .i64 x.id.k) ∧ W.cell? ⟨w.heap.size, 1, none⟩ = some (.string x.id.t) ∧ W.cell? ⟨w.heap.size, 2, none⟩ = some (.int .i64 x.id.n) ∧ W.cell? ⟨w.heap.size, 3, none⟩ = some (.int .i64 x.attr.k) ∧ W.cell? ⟨w.heap.size, 4, none⟩ = some (.string x.attr.t) ∧ W.cell? ⟨w.heap.size, 5, none⟩ = some (.int .i64 x.attr.n) ∧ W.cell? ⟨w.heap.size, 6, none⟩ = some (.int .i64 x.val.k) ∧ W.cell? ⟨w.heap.size, 7, none⟩ = some (.string x.val.t) ∧ W.cell? ⟨w.heap.size, 8, none⟩ = some (.int .i64 x.val.n) ∧ W.cell? ⟨w.heap.size, 9, none⟩ = some (.bool x.acc) ∧ W.cell? ⟨w.heap.size, 10, none⟩ = some (.bool x.goal) ∧ W.cell? ⟨w.heap.size, 11, none⟩ = some (.int .i64 x.tag)))
          (first | go_keep | assumption)
          (first
            | ((with_reducible refine hbe.mono ?_); rintro e w1 ⟨rfl, hB1⟩; have hC := hBd.out.trans (hB1.mono hBd.out.size); have hh := HK.out w1 hC)
            | fail "no arm")
        by_cases hlt : elmCmp x y < 0
        · have Hlt := Lib.hid hlt
          go_wp2_with fail
          go_roundg i
          case measure => rw [Hm.out.1]; omega
          case rel =>
            refine ⟨i, by go_num, by omega, Lib.hid ⟨rfl, fun z hz => ?_⟩, hC⟩
            rw [List.drop_eq_getElem_cons (by omega)] at hz
            rcases List.mem_cons.1 hz with hz | hz
            · have := (List.getElem?_eq_some_iff.1 Hy.out).2
              rw [this] at hz; rw [hz]; exact Hlt.out
            · exact Hm.out.2 z hz
        · have Hlt : Hid (¬ elmCmp x y < 0) := Lib.hid hlt
          have hon := one_T w1.drew y x
          have hCd := Lib.hid (show Below W0.heap.size W0 w1.drew from hC.drew)
          clear hyc hxc
          obtain ⟨hyc, hxc⟩ := hh
          go_wp2_with fail
          go_region_held3 (fun W => (W.cell? ⟨b, off + i * 12, none⟩ = some (.int .i64 y.id.k) ∧ W.cell? ⟨b, off + i * 12 + 1, none⟩ = some (.string y.id.t) ∧ W.cell? ⟨b, off + i * 12 + 2, none⟩ = some (.int .i64 y.id.n) ∧ W.cell? ⟨b, off + i * 12 + 3, none⟩ = some (.int .i64 y.attr.k) ∧ W.cell? ⟨b, off + i * 12 + 4, none⟩ = some (.string y.attr.t) ∧ W.cell? ⟨b, off + i * 12 + 5, none⟩ = some (.int .i64 y.attr.n) ∧ W.cell? ⟨b, off + i * 12 + 6, none⟩ = some (.int .i64 y.val.k) ∧ W.cell? ⟨b, off + i * 12 + 7, none⟩ = some (.string y.val.t) ∧ W.cell? ⟨b, off + i * 12 + 8, none⟩ = some (.int .i64 y.val.n) ∧ W.cell? ⟨b, off + i * 12 + 9, none⟩ = some (.bool y.acc) ∧ W.cell? ⟨b, off + i * 12 + 10, none⟩ = some (.bool y.goal) ∧ W.cell? ⟨b, off + i * 12 + 11, none⟩ = some (.int .i64 y.tag)) ∧ (W.cell? ⟨w.heap.size, 0, none⟩ = some (.int .i64 x.id.k) ∧ W.cell? ⟨w.heap.size, 1, none⟩ = some (.string x.id.t) ∧ W.cell? ⟨w.heap.size, 2, none⟩ = some (.int .i64 x.id.n) ∧ W.cell? ⟨w.heap.size, 3, none⟩ = some (.int .i64 x.attr.k) ∧ W.cell? ⟨w.heap.size, 4, none⟩ = some (.string x.attr.t) ∧ W.cell? ⟨w.heap.size, 5, none⟩ = some (.int .i64 x.attr.n) ∧ W.cell? ⟨w.heap.size, 6, none⟩ = some (.int .i64 x.val.k) ∧ W.cell? ⟨w.heap.size, 7, none⟩ = some (.string x.val.t) ∧ W.cell? ⟨w.heap.size, 8, none⟩ = some (.int .i64 x.val.n) ∧ W.cell? ⟨w.heap.size, 9, none⟩ = some (.bool x.acc) ∧ W.cell? ⟨w.heap.size, 10, none⟩ = some (.bool x.goal) ∧ W.cell? ⟨w.heap.size, 11, none⟩ = some (.int .i64 x.tag)))
            (first | go_keep | assumption)
            (first
              | ((with_reducible refine hon.mono ?_); rintro e w2 ⟨rfl, hB2⟩; have hCW := hCd.out.trans (hB2.mono hCd.out.size); have hh2 := HK.out w2 hCW)
              | fail "no arm")
          by_cases hz : elmCmp y x = 0
          · have Hz := Lib.hid hz
            go_wp2_with fail
            go_ret
            exact ⟨_, rfl, Hf.out, .inl ⟨rfl, has_one Hy.out Hz.out⟩, hB0.trans (hCW.mono hB0.size)⟩
          · have hgt : 0 < elmCmp x y := by
              have h1 := elmCmp_lin.swap x y
              have h2 := elmCmp_lin.swap y x
              have := Hlt.out
              omega
            obtain ⟨hpos, hno⟩ := pos_back Hso.out hj Hm.out.2 (fun z _ hz' => by
              simp only [Nat.add_sub_cancel] at hz'
              rw [Hy.out] at hz'; cases hz'; exact hgt)
            have hput : put elmCmp xs x = xs.take (i + 1) ++ [x] ++ xs.drop (i + 1) := put_insE hpos hno
            have Hput := Lib.hid hput
            have hzb : (elmCmp y x == 0) = false := by simpa using hz
            clear hput hpos hno hgt hyc hxc
            obtain ⟨hyc, hxc⟩ := hh2
            by_cases hjl : cap = i + 1
            · subst hjl
              have hje : xs.length = i + 1 := by omega
              have hje2 : xs.length - (i + 1) = 0 := by omega
              have hput2 : put elmCmp xs x = xs.take (i + 1) ++ [x] := by rw [Hput.out, List.drop_eq_nil_of_le (by omega)]; simp
              have Hput := Lib.hid hput2
              have Hje := Lib.hid hje
              clear hput2 hje
              have hWs := hCW.size
              go_wp2_with (first
                | (at_builtin; refine append_elms rfl _ _ rfl W0.heap.size (.slice none 0 0) [] rfl (World.ownsRow_nil _ _ _ _) _ _ _ (xs.take (i + 1)) (by rw [List.length_take]; omega) rfl (Or.inr ⟨_, rfl, ((hEl _ hCW).take (i + 1)).news⟩) (by simp <;> omega) hWs ?_; intro v1 w5 hM1 hg1; have hC5 := hCW.trans (nil_below hg1 hWs); have hx5 := memX_below hC5 hsz hx0)
                | (at_builtin; refine append_elms rfl _ _ rfl W0.heap.size v1 (xs.take (i + 1)) rfl (World.ownsRow.alloc hM1 _) _ _ _ [x] rfl rfl (Or.inr ⟨_, rfl, World.news_of_block (cs := #[.int .i64 x.id.k, .string x.id.t, .int .i64 x.id.n, .int .i64 x.attr.k, .string x.attr.t, .int .i64 x.attr.n, .int .i64 x.val.k, .string x.val.t, .int .i64 x.val.n, .bool x.acc, .bool x.goal, .int .i64 x.tag]) (t := 29) (fr := (0, 0)) (heap_alloc_new w5 _)⟩) (by simp <;> omega) (Nat.le_trans hC5.size (by simp)) ?_; intro v2 w6 hM2 hg2; have hC6 := hC5.trans (((Below.refl _ w5).alloc hC5.size _).trans (made_below (World.ownsRow.alloc hM1 _) hg2 (Nat.le_trans hC5.size (by simp)))))
                | (at_builtin; refine append_elms rfl _ _ rfl W0.heap.size v2 ((xs.take (i + 1)) ++ [x]) rfl hM2 _ _ _ [] (by first | rfl | (simp; omega)) rfl (Or.inr ⟨_, rfl, by simp⟩) (by simp <;> omega) hC6.size ?_; intro v3 w7 hM3 hg3; have hC7 := hC6.trans (made_below hM2 hg3 hC6.size)))
              go_ret
              have hBf := hB0.trans (hC7.mono hB0.size)
              exact ⟨v3, rfl, hM3.fits, .inr (by rw [Hput.out]; simpa using (Made.ge hM3).mono (by omega)), hBf⟩
            · have hne : ¬ cap = i + 1 := hjl
              have hne2 : ¬ i + 1 = cap := fun h => hjl h.symm
              have hjc : i + 1 ≤ cap := by omega
              have hWs := hCW.size
              go_wp2_with (first
                | (at_builtin; refine append_elms rfl _ _ rfl W0.heap.size (.slice none 0 0) [] rfl (World.ownsRow_nil _ _ _ _) _ _ _ (xs.take (i + 1)) (by rw [List.length_take]; omega) rfl (Or.inr ⟨_, rfl, ((hEl _ hCW).take (i + 1)).news⟩) (by simp <;> omega) hWs ?_; intro v1 w5 hM1 hg1; have hC5 := hCW.trans (nil_below hg1 hWs); have hx5 := memX_below hC5 hsz hx0)
                | (at_builtin; refine append_elms rfl _ _ rfl W0.heap.size v1 (xs.take (i + 1)) rfl (World.ownsRow.alloc hM1 _) _ _ _ [x] rfl rfl (Or.inr ⟨_, rfl, World.news_of_block (cs := #[.int .i64 x.id.k, .string x.id.t, .int .i64 x.id.n, .int .i64 x.attr.k, .string x.attr.t, .int .i64 x.attr.n, .int .i64 x.val.k, .string x.val.t, .int .i64 x.val.n, .bool x.acc, .bool x.goal, .int .i64 x.tag]) (t := 29) (fr := (0, 0)) (heap_alloc_new w5 _)⟩) (by simp <;> omega) (Nat.le_trans hC5.size (by simp)) ?_; intro v2 w6 hM2 hg2; have hC6 := hC5.trans (((Below.refl _ w5).alloc hC5.size _).trans (made_below (World.ownsRow.alloc hM1 _) hg2 (Nat.le_trans hC5.size (by simp)))))
                | (at_builtin; refine append_elms rfl _ _ rfl W0.heap.size v2 ((xs.take (i + 1)) ++ [x]) rfl hM2 _ _ _ (xs.drop (i + 1)) (by simp) rfl (Or.inr ⟨_, rfl, ((hEl _ hC6).drop (i + 1)).news⟩) (by simp <;> omega) hC6.size ?_; intro v3 w7 hM3 hg3; have hC7 := hC6.trans (made_below hM2 hg3 hC6.size)))
              go_ret
              have hBf := hB0.trans (hC7.mono hB0.size)
              exact ⟨v3, rfl, hM3.fits, .inr (by rw [Hput.out]; simpa using (Made.ge hM3).mono (by omega)), hBf⟩
    · obtain rfl : j = 0 := by omega
      obtain ⟨hpos, hno⟩ := pos_back Hso.out hj Hm.out.2 (fun z h _ => absurd h (by omega))
      have hput : put elmCmp xs x = [] ++ [x] ++ xs := by rw [put_insE hpos hno]; simp
      have Hput := Lib.hid hput
      clear hput hpos hno
      go_wp2_with fail
      go_quiet (fail)
      have hB1 : Below W0.heap.size W0 (wr.drewN nq) := hB.trans (below_drewN _ _ _)
      generalize wr.drewN nq = W1 at hB1 ⊢
      go_wp2_with fail
      go_quiet (fail)
      have hCW : Below W0.heap.size W0 (W1.drewN nq) := hB1.trans (below_drewN _ _ _)
      generalize W1.drewN nq = W2 at hCW ⊢
      rcases a with _ | ad
      · obtain rfl : xs = [] := by
          rcases hc with h | ⟨b, off, h, -⟩
          · exact h
          · cases h
        obtain rfl : cap = 0 := (Hf.out _ _ _ rfl).2 rfl
        simp only [List.length_nil]
        have hWs := hCW.size
        go_wp2_with (first
          | (at_builtin; refine append_elms rfl _ _ rfl W0.heap.size (.slice none 0 0) [] rfl (World.ownsRow_nil _ _ _ _) _ _ _ [] rfl rfl (Hfull.out _ (hB0.trans (hCW.mono hB0.size))) (by simp <;> omega) hWs ?_; intro v1 w5 hM1 hg1; have hC5 := hCW.trans (nil_below hg1 hWs); have hx5 := memX_below hC5 hsz hx0)
          | (at_builtin; refine append_elms rfl _ _ rfl W0.heap.size v1 [] rfl (World.ownsRow.alloc hM1 _) _ _ _ [x] rfl rfl (Or.inr ⟨_, rfl, World.news_of_block (cs := #[.int .i64 x.id.k, .string x.id.t, .int .i64 x.id.n, .int .i64 x.attr.k, .string x.attr.t, .int .i64 x.attr.n, .int .i64 x.val.k, .string x.val.t, .int .i64 x.val.n, .bool x.acc, .bool x.goal, .int .i64 x.tag]) (t := 29) (fr := (0, 0)) (heap_alloc_new w5 _)⟩) (by simp <;> omega) (Nat.le_trans hC5.size (by simp)) ?_; intro v2 w6 hM2 hg2; have hC6 := hC5.trans (((Below.refl _ w5).alloc hC5.size _).trans (made_below (World.ownsRow.alloc hM1 _) hg2 (Nat.le_trans hC5.size (by simp)))))
          | (at_builtin; refine append_elms rfl _ _ rfl W0.heap.size v2 ([] ++ [x]) rfl hM2 _ _ _ [] rfl rfl (Hfull.out _ (hB0.trans (hC6.mono hB0.size))) (by simp <;> omega) hC6.size ?_; intro v3 w7 hM3 hg3; have hC7 := hC6.trans (made_below hM2 hg3 hC6.size)))
        go_ret
        have hBf := hB0.trans (hC7.mono hB0.size)
        exact ⟨v3, rfl, hM3.fits, .inr (by rw [Hput.out]; simpa using (Made.ge hM3).mono (by omega)), hBf⟩
      · by_cases hce : cap = 0
        · subst hce
          obtain rfl : xs = [] := List.length_eq_zero_iff.1 (by omega)
          simp only [List.length_nil]
          have hWs := hCW.size
          go_wp2_with (first
            | (at_builtin; refine append_elms rfl _ _ rfl W0.heap.size (.slice none 0 0) [] rfl (World.ownsRow_nil _ _ _ _) _ _ _ [] rfl rfl (Or.inr ⟨_, rfl, by simp⟩) (by simp <;> omega) hWs ?_; intro v1 w5 hM1 hg1; have hC5 := hCW.trans (nil_below hg1 hWs); have hx5 := memX_below hC5 hsz hx0)
            | (at_builtin; refine append_elms rfl _ _ rfl W0.heap.size v1 [] rfl (World.ownsRow.alloc hM1 _) _ _ _ [x] rfl rfl (Or.inr ⟨_, rfl, World.news_of_block (cs := #[.int .i64 x.id.k, .string x.id.t, .int .i64 x.id.n, .int .i64 x.attr.k, .string x.attr.t, .int .i64 x.attr.n, .int .i64 x.val.k, .string x.val.t, .int .i64 x.val.n, .bool x.acc, .bool x.goal, .int .i64 x.tag]) (t := 29) (fr := (0, 0)) (heap_alloc_new w5 _)⟩) (by simp <;> omega) (Nat.le_trans hC5.size (by simp)) ?_; intro v2 w6 hM2 hg2; have hC6 := hC5.trans (((Below.refl _ w5).alloc hC5.size _).trans (made_below (World.ownsRow.alloc hM1 _) hg2 (Nat.le_trans hC5.size (by simp)))))
            | (at_builtin; refine append_elms rfl _ _ rfl W0.heap.size v2 ([] ++ [x]) rfl hM2 _ _ _ [] rfl rfl (Or.inr ⟨_, rfl, by simp⟩) (by simp <;> omega) hC6.size ?_; intro v3 w7 hM3 hg3; have hC7 := hC6.trans (made_below hM2 hg3 hC6.size)))
          go_ret
          have hBf := hB0.trans (hC7.mono hB0.size)
          exact ⟨v3, rfl, hM3.fits, .inr (by rw [Hput.out]; simpa using (Made.ge hM3).mono (by omega)), hBf⟩
        · have hce2 : ¬ 0 = cap := fun h => hce h.symm
          have hfull2 : ∀ W, Below w.heap.size w W → ∀ j u, (flat xs)[j]? = some u → W.cell? (ad.add j) = some u := fun W h => by
            rcases Hfull.out W h with ⟨h1, -, -⟩ | ⟨ad', h1, h2⟩
            · cases h1
            · cases h1; exact h2
          have hWs := hCW.size
          go_wp2_with (first
            | (at_builtin; refine append_elms rfl _ _ rfl W0.heap.size (.slice none 0 0) [] rfl (World.ownsRow_nil _ _ _ _) _ _ _ [] rfl rfl (Or.inr ⟨_, rfl, by simp⟩) (by simp <;> omega) hWs ?_; intro v1 w5 hM1 hg1; have hC5 := hCW.trans (nil_below hg1 hWs); have hx5 := memX_below hC5 hsz hx0)
            | (at_builtin; refine append_elms rfl _ _ rfl W0.heap.size v1 [] rfl (World.ownsRow.alloc hM1 _) _ _ _ [x] rfl rfl (Or.inr ⟨_, rfl, World.news_of_block (cs := #[.int .i64 x.id.k, .string x.id.t, .int .i64 x.id.n, .int .i64 x.attr.k, .string x.attr.t, .int .i64 x.attr.n, .int .i64 x.val.k, .string x.val.t, .int .i64 x.val.n, .bool x.acc, .bool x.goal, .int .i64 x.tag]) (t := 29) (fr := (0, 0)) (heap_alloc_new w5 _)⟩) (by simp <;> omega) (Nat.le_trans hC5.size (by simp)) ?_; intro v2 w6 hM2 hg2; have hC6 := hC5.trans (((Below.refl _ w5).alloc hC5.size _).trans (made_below (World.ownsRow.alloc hM1 _) hg2 (Nat.le_trans hC5.size (by simp)))))
            | (at_builtin; refine append_elms rfl _ _ rfl W0.heap.size v2 ([] ++ [x]) rfl hM2 _ _ _ xs rfl rfl (Or.inr ⟨ad, rfl, hfull2 _ (hB0.trans (hC6.mono hB0.size))⟩) (by simp <;> omega) hC6.size ?_; intro v3 w7 hM3 hg3; have hC7 := hC6.trans (made_below hM2 hg3 hC6.size)))
          go_ret
          have hBf := hB0.trans (hC7.mono hB0.size)
          exact ⟨v3, rfl, hM3.fits, .inr (by rw [Hput.out]; simpa using (Made.ge hM3).mono (by omega)), hBf⟩

end Go.Proofs.Ytcpgjekkcpfpaaa.O
