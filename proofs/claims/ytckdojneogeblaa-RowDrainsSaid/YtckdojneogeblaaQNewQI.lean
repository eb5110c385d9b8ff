/- What New, Len, Push of a queue answer. Conditions: the queue lies in memory; at most 100000 values. -/
import Derived.Test.YtckdojneogeblaaRwBase
namespace Go.Proofs.Ytckdojneogeblaa.QI
open Go Go.RowKit

abbrev en : Int → Value := (fun z : Int => Value.int .i64 z)
theorem one : ∀ x : Int, (en x).oneCell' = true := fun _ => rfl
theorem infoT : (Try.prog.info? 3).map (fun i => (i.zero, i.size, i.bytes)) = some (some (.int .i64 (0 : Int)), 1, 8) := by kernel_rfl

/-- A queue of xs lies at s: its slice v, how much room there is, how many slots are held for nothing. -/
def QAt (B : Nat) (W : World) (s room : Nat) (v : Value) (pp : Nat) (xs : List Int) : Prop :=
  W.heap[s]? = some (.cells #[v, .int .i64 room, .int .i64 pp] 60 (0, 0)) ∧ Rw en 3 B W v xs ∧ pp ≤ xs.length ∧ xs.length ≤ room ∧ room ≤ 65536

/-- All is as it was, but for block s and cells from r on. -/
structure FrQ (s : Nat) (r : Option (Nat × Nat)) (w w' : World) : Prop where
  os : w'.os = w.os
  tape : w'.tape = w.tape
  output : w'.output = w.output
  size : w.heap.size ≤ w'.heap.size
  block : ∀ k, k < w.heap.size → k ≠ s → (∀ g l, r = some (g, l) → k ≠ g) → w'.heap[k]? = w.heap[k]?
  cell : ∀ g l, r = some (g, l) → g ≠ s → ∀ i v, i < l → w.cell? ⟨g, i, none⟩ = some v → w'.cell? ⟨g, i, none⟩ = some v

/-- Where the new slice ends: where the old one did or behind, or in a new block. -/
def Ends (n : Nat) (v v' : Value) : Prop := ∀ g l, endOf v' = some (g, l) → (∃ l0, endOf v = some (g, l0) ∧ l0 ≤ l) ∨ n ≤ g

theorem QAt.lt {B : Nat} {W : World} {s room : Nat} {v : Value} {pp : Nat} {xs : List Int} (h : QAt B W s room v pp xs) : s < W.heap.size := lt_of_block h.1

theorem QAt.ne {B : Nat} {W : World} {s room : Nat} {v : Value} {pp : Nat} {xs : List Int} (h : QAt B W s room v pp xs) : ∀ g l, endOf v = some (g, l) → g ≠ s := by
  rintro g l e rfl
  rcases h.2.1 with ⟨rfl, -⟩ | ⟨g', off, cap, cur, rfl, h1, h2, -⟩
  · cases e
  · simp [endOf] at e
    obtain ⟨rfl, -⟩ := e
    rw [h.1] at h2
    simp at h2

theorem QAt.below {B : Nat} {W W' : World} {s room : Nat} {v : Value} {pp : Nat} {xs : List Int} (h : QAt B W s room v pp xs) (hB : Below W.heap.size W W') : QAt B W' s room v pp xs :=
  ⟨(hB.block s h.lt).trans h.1, h.2.1.below hB, h.2.2⟩

theorem FrQ.of_below {s : Nat} {r : Option (Nat × Nat)} {w w' : World} (h : Below w.heap.size w w') : FrQ s r w w' :=
  ⟨h.os, h.tape, h.output, h.size, fun k hk _ _ => h.block k hk, fun g l _ _ i v _ hc => (World.cell?_of_block (h.block g (World.block_lt_of_cell? w _ hc))).trans hc⟩

theorem FrQ.below {B s : Nat} {r : Option (Nat × Nat)} {w w' : World} (h : FrQ s r w w') (hs : B ≤ s) (hr : ∀ g l, r = some (g, l) → B ≤ g) (hB : B ≤ w.heap.size) : Below B w w' :=
  ⟨h.os, h.tape, h.output, h.size, fun k hk => h.block k (by omega) (by omega) fun g l e => by have := hr g l e; omega⟩

theorem FrQ.keep {s : Nat} {r : Option (Nat × Nat)} {w w' : World} (h : FrQ s r w w') {b i : Nat} {v : Value} (hc : w.cell? ⟨b, i, none⟩ = some v) (hs : b ≠ s) (hb : ∀ g l, r = some (g, l) → b = g → i < l) : w'.cell? ⟨b, i, none⟩ = some v := by
  by_cases e : ∃ g l, r = some (g, l) ∧ b = g
  · obtain ⟨g, l, e, rfl⟩ := e
    exact h.cell _ _ e hs i v (hb _ _ e rfl) hc
  · exact (World.cell?_of_block (h.block b (World.block_lt_of_cell? w _ hc) hs fun g l e' e2 => e ⟨g, l, e', e2⟩)).trans hc

theorem FrQ.set {s : Nat} {r : Option (Nat × Nat)} {w w' : World} (h : FrQ s r w w') (i : Nat) (u : Value) : FrQ s r w (w'.setCell ⟨s, i, none⟩ u) :=
  ⟨h.os, h.tape, h.output, by simpa [World.setCell] using h.size, fun k hk hs hr => (Below.heap_setCell _ _ _ _ hs).trans (h.block k hk hs hr), fun g l e hs i v hi hc => (World.cell?_of_block (Below.heap_setCell _ _ _ _ hs)).trans (h.cell g l e hs i v hi hc)⟩

theorem FrQ.of_fr {s : Nat} {r : Option (Nat × Nat)} {w w' : World} (h : Fr r w w') : FrQ s r w w' :=
  ⟨h.os, h.tape, h.output, h.size, fun k hk _ hr => h.block k hk hr, fun g l e _ i v hi hc => h.cell g l e i v hi hc⟩

theorem FrQ.trans {s : Nat} {r r' : Option (Nat × Nat)} {w w1 w2 : World} (h : FrQ s r w w1) (k : FrQ s r' w1 w2) (he : ∀ g l, r' = some (g, l) → (∃ l0, r = some (g, l0) ∧ l0 ≤ l) ∨ w.heap.size ≤ g) : FrQ s r w w2 := by
  refine ⟨k.os.trans h.os, k.tape.trans h.tape, k.output.trans h.output, Nat.le_trans h.size k.size, fun b hb hs hr => ?_, fun g l e hs i v hi hc => ?_⟩
  · refine (k.block b (Nat.lt_of_lt_of_le hb h.size) hs fun g l e => ?_).trans (h.block b hb hs hr)
    rcases he g l e with ⟨l0, e0, -⟩ | h2
    · exact hr g l0 e0
    · omega
  · refine k.keep (h.cell g l e hs i v hi hc) hs fun g' l' e' e2 => ?_
    subst e2
    rcases he g l' e' with ⟨l0, e0, h2⟩ | h2
    · rw [e] at e0; cases e0; omega
    · have := World.block_lt_of_cell? w _ hc
      simp only at this; omega

set_option maxHeartbeats 800000 in
theorem new_yes (w : World) (room : Nat) (h1 : 1 ≤ room) (h2 : room ≤ 65536) :
    Calls Try.prog 9 #[.int .i64 room] w fun e w' => e = .returned (.tuple #[.pointer (some ⟨w.heap.size, 0, none⟩), .int .i64 0]) ∧ QAt w.heap.size w' w.heap.size room (.slice none 0 0) 0 [] ∧ Below w.heap.size w w' := by
  have hB0 : Below w.heap.size w (w.alloc (.cells #[.slice none 0 0, .int .i64 (room : Nat), .int .i64 (0 : Nat)] 60)) := (Below.refl _ w).alloc (Nat.le_refl _) _
  have hn := heap_alloc_new w (.cells #[.slice none 0 0, .int .i64 (room : Nat), .int .i64 (0 : Nat)] 60)
  have h3 : ((room : Int) < 1) = False := eq_false (by omega)
  have h4 : ((65536 : Int) < (room : Int)) = False := eq_false (by omega)
  go_enter Try.func9, Try.ntmps9
  go_wp2_with fail
  go_ret2
  exact ⟨rfl, ⟨hn, Rw.nil _, by simp, by simp, h2⟩, hB0⟩

theorem len_T (B : Nat) (w : World) (s room : Nat) (v : Value) (pp : Nat) (xs : List Int) (h : QAt B w s room v pp xs) :
    Calls Try.prog 15 #[.pointer (some ⟨s, 0, none⟩)] w fun e w' => e = .returned (.int .i64 xs.length) ∧ w' = w := by
  obtain ⟨a, cap, rfl, -, -⟩ := h.2.1.src
  have h0 : w.cell? ⟨s, 0, none⟩ = some (.slice a xs.length cap) := by simp [World.cell?, h.1]
  go_enter Try.func15, Try.ntmps15
  go_wp2_with fail
  go_ret
  exact ⟨rfl, rfl⟩

set_option maxHeartbeats 800000 in
theorem push_no (B : Nat) (w : World) (s room : Nat) (v : Value) (pp : Nat) (xs : List Int) (h : QAt B w s room v pp xs) (p : Option Addr) (m c : Nat) (hm : m ≤ 100000) (hno : room < xs.length + m) :
    Calls Try.prog 12 #[.pointer (some ⟨s, 0, none⟩), .slice p m c] w fun e w' => e = .returned (.bool false) ∧ Below w.heap.size w w' := by
  obtain ⟨a, cap, rfl, -, -⟩ := h.2.1.src
  have h0 : w.cell? ⟨s, 0, none⟩ = some (.slice a xs.length cap) := by simp [World.cell?, h.1]
  have h1 : w.cell? ⟨s, 1, none⟩ = some (.int .i64 room) := by simp [World.cell?, h.1]
  have h4 := h.2.2.2.1
  have h5 := h.2.2.2.2
  have h6 : ((room : Int) - xs.length < m) = True := eq_true (by omega)
  go_enter Try.func12, Try.ntmps12
  go_wp2_with fail
  go_quiet (fail)
  go_wp2_with fail
  go_ret
  exact ⟨rfl, below_drewN _ _ _⟩

set_option maxHeartbeats 800000 in
theorem push_yes (B : Nat) (w : World) (s room : Nat) (v : Value) (pp : Nat) (xs : List Int) (h : QAt B w s room v pp xs) (p : Option Addr) (m c : Nat) (ys : List Int) (hm : ys.length = m) (hs : Src1 en w p c ys) (hB : B ≤ w.heap.size) (hyes : xs.length + m ≤ room) :
    Calls Try.prog 12 #[.pointer (some ⟨s, 0, none⟩), .slice p m c] w fun e w' => e = .returned (.bool true) ∧ ∃ v', QAt B w' s room v' pp (xs ++ ys) ∧ FrQ s (endOf v) w w' ∧ Ends w.heap.size v v' := by
  obtain ⟨i0, hi, hz0, hz1, hz2⟩ := info_parts' infoT
  obtain ⟨a, cap, rfl, -, -⟩ := h.2.1.src
  have h0 : w.cell? ⟨s, 0, none⟩ = some (.slice a xs.length cap) := by simp [World.cell?, h.1]
  have h1 : w.cell? ⟨s, 1, none⟩ = some (.int .i64 room) := by simp [World.cell?, h.1]
  have hf : w.frozen? ⟨s, 0, none⟩ = false := by simp [World.frozen?, h.1]
  have h4 := h.2.2.2.1
  have h5 := h.2.2.2.2
  have h6 : ((room : Int) - xs.length < m) = False := eq_false (by omega)
  go_enter Try.func12, Try.ntmps12
  go_wp2_with fail
  go_quiet (fail)
  have hD : Below w.heap.size w (w.drewN nq) := below_drewN _ _ _
  have H := Lib.hid (h.below hD)
  have Hs : Hid (Src1 en (w.drewN nq) p c ys) := Lib.hid hs
  clear h hs h0 h1 hf
  generalize w.drewN nq = W at hD H Hs ⊢
  have hWs := hD.size
  have h0 : W.cell? ⟨s, 0, none⟩ = some (.slice a xs.length cap) := by simp [World.cell?, H.out.1]
  go_wp2_with (at_builtin; refine wpList_append_rw one rfl _ _ 28 rfl Try.underlying28 hi hz0 hz1 hz2 rfl (.slice a xs.length cap) xs rfl H.out.2.1 p m c ys hm rfl Hs.out (by omega) (by omega) (by omega) ?_; intro v1 w5 hR1 hF1 hE1 hN1; have hs6 := (hF1.block s (by have := H.out.lt; omega) (fun g l e => (H.out.ne g l e).symm)).trans H.out.1; have h07 : w5.cell? ⟨s, 0, none⟩ = some (.slice a xs.length cap) := cell_of_heap hs6 (i := 0) rfl; have hf7 := frozen_of_heap hs6 0; obtain ⟨a1, c1, rfl, -, -, -⟩ := hR1.src)
  go_ret
  have hw8 := setCell_heap (i := 0) hs6 (.slice a1 (xs.length + m) c1)
  refine ⟨rfl, _, ⟨hw8, ?_, by have := H.out.2.2.1; simp; omega, by simp; omega, h5⟩, ?_, ?_⟩
  · rw [List.length_append, hm] at hR1
    refine hR1.keep fun g l e => Below.heap_setCell _ _ _ _ ?_
    rintro rfl
    rcases hR1 with ⟨h, -⟩ | ⟨g', off, cap', cur, h, h1, h2, -⟩
    · rw [h] at e; cases e
    · rw [h] at e
      simp [endOf] at e
      obtain ⟨rfl, -⟩ := e
      rw [hs6] at h2
      simp at h2
  · exact ((FrQ.of_below hD).trans (FrQ.of_fr hF1) (fun g l e => .inl ⟨l, e, Nat.le_refl _⟩)).set 0 _
  · rw [List.length_append, hm] at hE1
    intro g l e
    rcases hE1 g l e with h | h
    · exact .inl h
    · exact .inr (by omega)

end Go.Proofs.Ytckdojneogeblaa.QI
