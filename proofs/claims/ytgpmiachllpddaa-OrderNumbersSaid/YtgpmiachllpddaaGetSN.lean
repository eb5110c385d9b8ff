/- What Get, At and New of a set answer. Conditions: the set, the list lie in memory; at most 800000 members. -/
import Derived.Test.YtgpmiachllpddaaSetSN
import Derived.Deep.LoopGhost
namespace Go.Proofs.Ytgpmiachllpddaa.N
open Go Go.RowKit

theorem zero_cells {w : World} {b : Nat} (h : w.heap[b]? = some (.cells #[.int .i64 0] 48 (0, 0))) : w.cell? ⟨b, 0, none⟩ = some (.int .i64 0) ∧ w.frozen? ⟨b, 0, none⟩ = false := by
  simp [World.cell?, World.frozen?, h]

theorem set_block {w : World} {b o : Nat} {c : Array Value} {T : TypeId} {f : Nat × Nat} (h : w.heap[b]? = some (.cells c T f)) (v : Value) : (w.setCell ⟨b, o, none⟩ v).heap[b]? = some (.cells (c.setIfInBounds o v) T f) := by
  have hlt := lt_of_block h
  have h' : w.heap[b] = .cells c T f := by simpa [Array.getElem?_eq_getElem hlt] using h
  show (w.heap.modify b _)[b]? = _
  rw [Array.getElem?_eq_getElem (by simpa using hlt), Array.getElem_modify_self, h']
  rfl


theorem below_but {B s : Nat} {w W W' : World} (h : Below B w W) (hb : But s W W') (hs : B ≤ s) (hB : B ≤ W.heap.size) : Below B w W' :=
  ⟨hb.os.trans h.os, hb.tape.trans h.tape, hb.output.trans h.output, Nat.le_trans h.size hb.size, fun k hk => (hb.block k (by omega) (by omega)).trans (h.block k hk)⟩



set_option maxHeartbeats 800000 in
theorem get_T (w : World) (s : Nat) (L : List Int) (x : Int) (h : SetAt w s L) (hs : L.length ≤ 800000) (hh : has icmp L x = true) :
    Calls Try.prog 31 #[.pointer (some ⟨s, 0, none⟩), .int .i64 x] w fun e w' => (∃ y, e = .returned (.tuple #[.int .i64 y, .bool true]) ∧ L[pos icmp L x]? = some y) ∧ Below w.heap.size w w' := by
  have hB0 : Below w.heap.size w w := Below.refl _ _
  obtain ⟨t, p, h1, h2, rfl, h4⟩ := h.below hB0
  obtain ⟨y, hy, -⟩ := has_at icmp_lin t.list x h4 hh
  have Hy := Lib.hid hy
  have c1 := cell_of_one h1
  clear h1 h hy
  go_enter Try.func31, Try.ntmps31
  go_wp2_with fail
  refine (find_T t _ p x h2 h4 (by unfold Tr.size; omega)).mono ?_
  rintro e w1 ⟨rfl, hB1⟩
  go_wp2_with fail
  refine (at_T t w1 p _ y (h2.ext hB1) Hy.out (by unfold Tr.size; omega)).mono ?_
  rintro e w2 ⟨rfl, hB2⟩
  have hC2 := hB1.trans (hB2.mono hB1.size)
  have hB := hB0.trans (hC2.mono hB0.size)
  go_wp2_with fail
  go_ret2
  exact ⟨⟨y, rfl, Hy.out⟩, hB⟩

end Go.Proofs.Ytgpmiachllpddaa.N
