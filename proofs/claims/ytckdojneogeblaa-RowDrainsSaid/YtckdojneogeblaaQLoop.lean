/- A queue and a list of the loop's own, side by side. Conditions: none. -/
import Derived.Test.YtckdojneogeblaaQFirst
namespace Go.Proofs.Ytckdojneogeblaa.QI
open Go Go.RowKit

theorem Rw.ne_of {B : Nat} {W : World} {v : Value} {xs : List Int} (h : Rw en 3 B W v xs) {b : Nat} {c : Array Value} {T : TypeId} {f : Nat × Nat} (hb : W.heap[b]? = some (.cells c T f)) (hT : T ≠ 3) : ∀ g l, endOf v = some (g, l) → g ≠ b := by
  rintro g l e rfl
  rcases h with ⟨rfl, -⟩ | ⟨g', off, cap, cur, rfl, h1, h2, -⟩
  · cases e
  · simp [endOf] at e
    obtain ⟨rfl, -⟩ := e
    rw [hb] at h2
    simp at h2
    exact hT h2.2.1

theorem Rw.cells {B : Nat} {W : World} {v : Value} {xs : List Int} (h : Rw en 3 B W v xs) : ∀ g l, endOf v = some (g, l) → ∃ o : Obj, W.heap[g]? = some o ∧ o.isCells = true := by
  intro g l e
  rcases h with ⟨rfl, -⟩ | ⟨g', off, cap, cur, rfl, h1, h2, -⟩
  · cases e
  · simp [endOf] at e
    obtain ⟨rfl, -⟩ := e
    exact ⟨_, h2, rfl⟩

theorem FrQ.keeps {s : Nat} {r : Option (Nat × Nat)} {W W' : World} (h : FrQ s r W W') {c : Array Value} {T : TypeId} {f : Nat × Nat} (hs : W.heap[s]? = some (.cells c T f)) (hr : ∀ g l, r = some (g, l) → ∃ o : Obj, W.heap[g]? = some o ∧ o.isCells = true) : KeepsFrom 0 W W' := by
  refine ⟨h.size, fun k o _ hk ho => (h.block k (lt_of_get hk) ?_ ?_).trans hk⟩
  · rintro rfl
    rw [hs] at hk; cases hk; cases ho
  · rintro g l e rfl
    obtain ⟨o', h1, h2⟩ := hr _ _ e
    rw [h1] at hk; cases hk; rw [h2] at ho; cases ho

theorem KpE.of_frq {s : Nat} {r r' : Option (Nat × Nat)} {W W' : World} (h : FrQ s r' W W') (hr : ∀ g l, r = some (g, l) → g ≠ s ∧ ∀ l', r' = some (g, l') → l ≤ l') : KpE r W W' := by
  intro g l e i u hi hc
  obtain ⟨h1, h2⟩ := hr g l e
  exact h.keep hc h1 (fun g' l' e' e2 => by subst e2; have := h2 l' e'; omega)

theorem end_ob {v : Value} {g l : Nat} (e : endOf v = some (g, l)) : ob v = some g := by simp [ob, e]

theorem QAt.setFar {B : Nat} {W : World} {s room pp : Nat} {v : Value} {xs : List Int} (h : QAt B W s room v pp xs) {g : Nat} (hg : g < B) (hs : B ≤ s) (i : Nat) (u : Value) : QAt B (W.setCell ⟨g, i, none⟩ u) s room v pp xs :=
  ⟨(Below.heap_setCell _ _ _ _ (by show s ≠ g; omega)).trans h.1, h.2.1.keep fun g' l e => Below.heap_setCell _ _ _ _ (by have := (h.2.1.end_ge g' l e).1; show g' ≠ g; omega), h.2.2⟩

/-- The result's box at Rb, the queue's box at Bq, the list's box at O: the list v holds pre, the queue qs; r: cells that must stay. -/
structure AllQ (n8 s O Bq Rb : Nat) (r : Option (Nat × Nat)) (v uq : Value) (pp : Nat) (qs pre : List Int) (W : World) : Prop where
  sz : n8 ≤ W.heap.size
  rb : W.heap[Rb]? = some (.cells #[.bool false] 4 (0, 0))
  bq : W.heap[Bq]? = some (.cells #[.pointer (some ⟨s, 0, none⟩)] 23 (0, 0))
  bo : W.heap[O]? = some (.cells #[v] 28 (0, 0))
  row : Rw en 3 (O + 1) W v pre
  q : QAt s W s 1000 uq pp qs
  sep : ∀ g l, endOf uq = some (g, l) → some g ≠ ob v
  far : ∀ g l, endOf uq = some (g, l) → ∀ l0, r = some (g, l0) → l0 ≤ l

section
variable {n8 s O Bq Rb : Nat} {r : Option (Nat × Nat)} {v uq : Value} {pp : Nat} {qs pre : List Int} {W : World}

theorem AllQ.below (h : AllQ n8 s O Bq Rb r v uq pp qs pre W) {W' : World} (hB : Below W.heap.size W W') : AllQ n8 s O Bq Rb r v uq pp qs pre W' :=
  ⟨Nat.le_trans h.sz hB.size, (hB.block _ (lt_of_block h.rb)).trans h.rb, (hB.block _ (lt_of_block h.bq)).trans h.bq, (hB.block _ (lt_of_block h.bo)).trans h.bo, h.row.below hB, h.q.below hB, h.sep, h.far⟩

theorem AllQ.grow (h : AllQ n8 s O Bq Rb r v uq pp qs pre W) {W' : World} {row : Option Nat} (hg : W.grownBy W' row) (hr : ∀ q, row = some q → ∃ o : Obj, W.heap[q]? = some o ∧ o.isCells = false) : AllQ n8 s O Bq Rb r v uq pp qs pre W' :=
  ⟨Nat.le_trans h.sz hg.size, (grownBy_keeps_cells hg hr h.rb rfl).trans h.rb, (grownBy_keeps_cells hg hr h.bq rfl).trans h.bq, (grownBy_keeps_cells hg hr h.bo rfl).trans h.bo, Rw.grow h.row hg hr, ⟨(grownBy_keeps_cells hg hr h.q.1 rfl).trans h.q.1, Rw.grow h.q.2.1 hg hr, h.q.2.2⟩, h.sep, h.far⟩

theorem AllQ.pop (h : AllQ n8 s O Bq Rb r v uq pp qs pre W) (h1 : Rb ≠ s) (h2 : Bq ≠ s) (h3 : s < O) (hr : ∀ g l, r = some (g, l) → g < n8) {W' : World} {uq' : Value} {pp' : Nat} {qs' : List Int} (hQ : QAt s W' s 1000 uq' pp' qs') (hF : FrQ s none W W') (hE : Ends W.heap.size uq uq') : AllQ n8 s O Bq Rb r v uq' pp' qs' pre W' := by
  have blk : ∀ k, k < W.heap.size → k ≠ s → W'.heap[k]? = W.heap[k]? := fun k hk hs => hF.block k hk hs (fun g l e => by cases e)
  refine ⟨Nat.le_trans h.sz hF.size, (blk _ (lt_of_block h.rb) h1).trans h.rb, (blk _ (lt_of_block h.bq) h2).trans h.bq, (blk _ (lt_of_block h.bo) (by omega)).trans h.bo, h.row.keep fun g l e => blk g (h.row.end_ge g l e).2.1 (by have := (h.row.end_ge g l e).1; omega), hQ, fun g l e e2 => ?_, fun g l e l0 e0 => ?_⟩
  · rcases hE g l e with ⟨l1, e1, -⟩ | h4
    · exact h.sep g l1 e1 e2
    · have := (ob_lt h.row g e2.symm).2; omega
  · rcases hE g l e with ⟨l1, e1, h4⟩ | h4
    · exact Nat.le_trans (h.far g l1 e1 l0 e0) h4
    · have := hr g l0 e0; have := h.sz; omega

theorem AllQ.push (h : AllQ n8 s O Bq Rb r v uq pp qs pre W) (h1 : Rb ≠ s) (h2 : Bq ≠ s) (h3 : s < O) (hr : ∀ g l, r = some (g, l) → g < n8) {W' : World} {uq' : Value} {pp' : Nat} {qs' : List Int} (hQ : QAt s W' s 1000 uq' pp' qs') (hF : FrQ s (endOf uq) W W') (hE : Ends W.heap.size uq uq') : AllQ n8 s O Bq Rb r v uq' pp' qs' pre W' := by
  have ne := fun {b : Nat} {c : Array Value} {T : TypeId} {f : Nat × Nat} (hb : W.heap[b]? = some (.cells c T f)) (hT : T ≠ 3) => Rw.ne_of h.q.2.1 hb hT
  refine ⟨Nat.le_trans h.sz hF.size, (hF.block _ (lt_of_block h.rb) h1 fun g l e => (ne h.rb (by decide) g l e).symm).trans h.rb, (hF.block _ (lt_of_block h.bq) h2 fun g l e => (ne h.bq (by decide) g l e).symm).trans h.bq, (hF.block _ (lt_of_block h.bo) (by omega) fun g l e => (ne h.bo (by decide) g l e).symm).trans h.bo,
    h.row.keep fun g l e => hF.block g (h.row.end_ge g l e).2.1 (by have := (h.row.end_ge g l e).1; omega) (fun g' l' e' e2 => h.sep g' l' e' (by rw [← e2, end_ob e])), hQ, fun g l e e2 => ?_, fun g l e l0 e0 => ?_⟩
  · rcases hE g l e with ⟨l1, e1, -⟩ | h4
    · exact h.sep g l1 e1 e2
    · have := (ob_lt h.row g e2.symm).2; omega
  · rcases hE g l e with ⟨l1, e1, h4⟩ | h4
    · exact Nat.le_trans (h.far g l1 e1 l0 e0) h4
    · have := hr g l0 e0; have := h.sz; omega

/-- The list grows by x. -/
theorem AllQ.step (h : AllQ n8 s O Bq Rb r v uq pp qs pre W) (h1 : Rb < O) (h2 : Bq < O) (h3 : s < O) {w1 : World} {v' : Value} {x : Int}
    (hF : Fr (endOf v) (W.alloc (.cells #[.int .i64 x] 3)) w1) (hE : ∀ g l, endOf v' = some (g, l) → (∃ l0, endOf v = some (g, l0) ∧ l0 ≤ l) ∨ (W.alloc (.cells #[.int .i64 x] 3)).heap.size ≤ g) (hR : Rw en 3 (O + 1) w1 v' (pre ++ [x])) :
    AllQ n8 s O Bq Rb r v' uq pp qs (pre ++ [x]) (w1.setCell ⟨O, 0, none⟩ v') ∧ KeepsFrom 0 W (w1.setCell ⟨O, 0, none⟩ v') ∧ Below O W (w1.setCell ⟨O, 0, none⟩ v') := by
  obtain ⟨s1, s2, s3, s4, s5, s6, s7⟩ := step_out O h.bo h.row hF hE hR
  refine ⟨⟨Nat.le_trans h.sz s1.size, (s2.block _ h1).trans h.rb, (s2.block _ h2).trans h.bq, s3, s4, ⟨(s2.block _ h3).trans h.q.1, h.q.2.1.keep fun g l e => s5 g (h.q.2.1.end_ge g l e).2.1 (Rw.ne_of h.q.2.1 h.bo (by decide) g l e) (h.sep g l e), h.q.2.2⟩, fun g l e e2 => ?_, h.far⟩, s1, s2⟩
  have hl := (h.q.2.1.end_ge g l e).2.1
  rcases s7 with h7 | ⟨k, h7, h8⟩
  · exact h.sep g l e (e2.trans h7)
  · rw [h7] at e2; cases e2; omega

end

end Go.Proofs.Ytckdojneogeblaa.QI
