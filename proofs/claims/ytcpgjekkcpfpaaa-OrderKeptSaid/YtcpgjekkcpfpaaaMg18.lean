/- What Get, At and New of a set answer. Conditions: the set, the list lie in memory; at most 800000 members.
What At of a set answers. Conditions: the set lies in memory; at most 800000 members; the index is in range. -/
import Derived.Test.YtcpgjekkcpfpaaaSetSS
import Derived.Deep.LoopGhost
namespace Go.Proofs.Ytcpgjekkcpfpaaa.S
open Go Go.RowKit

set_option maxHeartbeats 800000

theorem zero_cells {w : World} {b : Nat} (h : w.heap[b]? = some (.cells #[.int .i64 0, .string ⟨#[]⟩, .int .i64 0] 27 (0, 0))) : w.cell? ⟨b, 0, none⟩ = some (.int .i64 0) ∧ w.cell? ⟨b, 1, none⟩ = some (.string ⟨#[]⟩) ∧ w.cell? ⟨b, 2, none⟩ = some (.int .i64 0) ∧ w.frozen? ⟨b, 0, none⟩ = false ∧ w.frozen? ⟨b, 1, none⟩ = false ∧ w.frozen? ⟨b, 2, none⟩ = false := by
  simp [World.cell?, World.frozen?, h]

theorem set_block {w : World} {b o : Nat} {c : Array Value} {T : TypeId} {f : Nat × Nat} (h : w.heap[b]? = some (.cells c T f)) (v : Value) : (w.setCell ⟨b, o, none⟩ v).heap[b]? = some (.cells (c.setIfInBounds o v) T f) := by
  have hlt := lt_of_block h
  have h' : w.heap[b] = .cells c T f := by simpa [Array.getElem?_eq_getElem hlt] using h
  show (w.heap.modify b _)[b]? = _
  rw [Array.getElem?_eq_getElem (by simpa using hlt), Array.getElem_modify_self, h']
  rfl

theorem sto_block (w : World) (b : Nat) (x : SymV) (h : w.heap[b]? = some (.cells #[.int .i64 0, .string ⟨#[]⟩, .int .i64 0] 27 (0, 0))) : (((w.setCell ⟨b, 0, none⟩ (.int .i64 x.k)).setCell ⟨b, 1, none⟩ (.string x.t)).setCell ⟨b, 2, none⟩ (.int .i64 x.n)).heap[b]? = some (.cells #[.int .i64 x.k, .string x.t, .int .i64 x.n] 27 (0, 0)) := by
  have := set_block (o := 2) (set_block (o := 1) (set_block (o := 0) (h) (.int .i64 x.k)) (.string x.t)) (.int .i64 x.n)
  simpa using this

theorem below_but {B s : Nat} {w W W' : World} (h : Below B w W) (hb : But s W W') (hs : B ≤ s) (hB : B ≤ W.heap.size) : Below B w W' :=
  ⟨hb.os.trans h.os, hb.tape.trans h.tape, hb.output.trans h.output, Nat.le_trans h.size hb.size, fun k hk => (hb.block k (by omega) (by omega)).trans (h.block k hk)⟩

theorem mem_sto (w : World) (b : Nat) (x : SymV) (h : w.heap[b]? = some (.cells #[.int .i64 0, .string ⟨#[]⟩, .int .i64 0] 27 (0, 0))) : (((w.setCell ⟨b, 0, none⟩ (.int .i64 x.k)).setCell ⟨b, 1, none⟩ (.string x.t)).setCell ⟨b, 2, none⟩ (.int .i64 x.n)).cell? ⟨b, 0, none⟩ = some (.int .i64 x.k) ∧ (((w.setCell ⟨b, 0, none⟩ (.int .i64 x.k)).setCell ⟨b, 1, none⟩ (.string x.t)).setCell ⟨b, 2, none⟩ (.int .i64 x.n)).cell? ⟨b, 1, none⟩ = some (.string x.t) ∧ (((w.setCell ⟨b, 0, none⟩ (.int .i64 x.k)).setCell ⟨b, 1, none⟩ (.string x.t)).setCell ⟨b, 2, none⟩ (.int .i64 x.n)).cell? ⟨b, 2, none⟩ = some (.int .i64 x.n) := by
  have h' := sto_block w b x h
  generalize (((w.setCell ⟨b, 0, none⟩ (.int .i64 x.k)).setCell ⟨b, 1, none⟩ (.string x.t)).setCell ⟨b, 2, none⟩ (.int .i64 x.n)) = W at h' ⊢
  simp [World.cell?, h']

theorem but_sto (w : World) (b : Nat) (x : SymV) : But b w (((w.setCell ⟨b, 0, none⟩ (.int .i64 x.k)).setCell ⟨b, 1, none⟩ (.string x.t)).setCell ⟨b, 2, none⟩ (.int .i64 x.n)) := by
  repeat (with_reducible refine But.setCell ?_ _ _)
  exact But.refl _ _

end Go.Proofs.Ytcpgjekkcpfpaaa.S

namespace Go.Proofs.Ytcpgjekkcpfpaaa.S
open Go Go.RowKit

set_option maxHeartbeats 800000 in
theorem set_at_T (w : World) (s : Nat) (L : List SymV) (j : Nat) (z : Int) (x : SymV) (h : SetAt w s L) (hs : L.length ≤ 800000) (hz : z = j) (hx : L[j]? = some x) :
    Calls Try.prog 16 #[.pointer (some ⟨s, 0, none⟩), .int .i64 z] w fun e w' => e = .returned (.tuple #[.agg #[.int .i64 x.k, .string x.t, .int .i64 x.n], .bool true]) ∧ Below w.heap.size w w' := by
  have hj : j < L.length := (List.getElem?_eq_some_iff.1 hx).1
  have hz0 : 0 ≤ z := by omega
  have hz1 : z < L.length := by omega
  have hz2 : (z < 0) = False := by simp; omega
  have Hz := Lib.hid hz
  have hB0 : Below w.heap.size w (w.alloc (.cells #[.int .i64 0, .string ⟨#[]⟩, .int .i64 0] 27)) := (Below.refl _ w).alloc (Nat.le_refl _) _
  have h0 := h.below hB0
  obtain ⟨t, p, h1, h2, rfl, h4⟩ := h0
  have c1 := cell_of_one h1
  have H0 := Lib.hid (h.below hB0)
  clear h h1 hz
  go_enter Try.func16, Try.ntmps16
  go_wp2_with fail
  refine (len_T _ s _ H0.out).mono ?_
  rintro e w' ⟨rfl, rfl⟩
  go_wp2_with fail
  rw [Hz.out]
  refine (at_T t _ p j x h2 hx (by unfold Tr.size; omega)).mono ?_
  rintro e w1 ⟨rfl, hB1⟩
  have hb1 : w1.heap[w.heap.size]? = _ := (hB1.block _ (by simp)).trans (heap_alloc_new w _)
  have hz1 := zero_cells hb1
  have Hb1 := Lib.hid hb1
  clear hb1
  go_wp2_with fail
  have hm := mem_sto w1 w.heap.size x Hb1.out
  have hB2 : Below w.heap.size w (((w1.setCell ⟨w.heap.size, 0, none⟩ (.int .i64 x.k)).setCell ⟨w.heap.size, 1, none⟩ (.string x.t)).setCell ⟨w.heap.size, 2, none⟩ (.int .i64 x.n)) := below_but (hB0.trans (hB1.mono hB0.size)) (but_sto w1 w.heap.size x) (Nat.le_refl _) (Nat.le_trans hB0.size hB1.size)
  generalize (((w1.setCell ⟨w.heap.size, 0, none⟩ (.int .i64 x.k)).setCell ⟨w.heap.size, 1, none⟩ (.string x.t)).setCell ⟨w.heap.size, 2, none⟩ (.int .i64 x.n)) = W at hm hB2 ⊢
  exact bodyPost_ret (v := .tuple #[.agg #[.int .i64 x.k, .string x.t, .int .i64 x.n], .bool true]) (by simp [results, Try.results16, go_sem, hm]) rfl ⟨rfl, hB2⟩

end Go.Proofs.Ytcpgjekkcpfpaaa.S
