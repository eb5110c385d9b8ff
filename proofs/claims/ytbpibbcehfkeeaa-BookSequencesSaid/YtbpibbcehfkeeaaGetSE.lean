/- What Get, At and New of a set answer. Conditions: the set, the list lie in memory; at most 800000 members. -/
import Derived.Test.YtbpibbcehfkeeaaSetSE
import Derived.Deep.LoopGhost
namespace Go.Proofs.Ytbpibbcehfkeeaa.E
open Go Go.RowKit

theorem zero_cells {w : World} {b : Nat} (h : w.heap[b]? = some (.cells #[.int .i64 0, .string ⟨#[]⟩, .int .i64 0, .int .i64 0] 93 (0, 0))) : w.cell? ⟨b, 0, none⟩ = some (.int .i64 0) ∧ w.cell? ⟨b, 1, none⟩ = some (.string ⟨#[]⟩) ∧ w.cell? ⟨b, 2, none⟩ = some (.int .i64 0) ∧ w.cell? ⟨b, 3, none⟩ = some (.int .i64 0) ∧ w.frozen? ⟨b, 0, none⟩ = false ∧ w.frozen? ⟨b, 1, none⟩ = false ∧ w.frozen? ⟨b, 2, none⟩ = false ∧ w.frozen? ⟨b, 3, none⟩ = false := by
  simp [World.cell?, World.frozen?, h]

theorem set_block {w : World} {b o : Nat} {c : Array Value} {T : TypeId} {f : Nat × Nat} (h : w.heap[b]? = some (.cells c T f)) (v : Value) : (w.setCell ⟨b, o, none⟩ v).heap[b]? = some (.cells (c.setIfInBounds o v) T f) := by
  have hlt := lt_of_block h
  have h' : w.heap[b] = .cells c T f := by simpa [Array.getElem?_eq_getElem hlt] using h
  show (w.heap.modify b _)[b]? = _
  rw [Array.getElem?_eq_getElem (by simpa using hlt), Array.getElem_modify_self, h']
  rfl

theorem sto_block (w : World) (b : Nat) (x : EntV) (h : w.heap[b]? = some (.cells #[.int .i64 0, .string ⟨#[]⟩, .int .i64 0, .int .i64 0] 93 (0, 0))) : ((((w.setCell ⟨b, 0, none⟩ (.int .i64 x.key.k)).setCell ⟨b, 1, none⟩ (.string x.key.t)).setCell ⟨b, 2, none⟩ (.int .i64 x.key.n)).setCell ⟨b, 3, none⟩ (.int .i64 x.v)).heap[b]? = some (.cells #[.int .i64 x.key.k, .string x.key.t, .int .i64 x.key.n, .int .i64 x.v] 93 (0, 0)) := by
  have := set_block (o := 3) (set_block (o := 2) (set_block (o := 1) (set_block (o := 0) (h) (.int .i64 x.key.k)) (.string x.key.t)) (.int .i64 x.key.n)) (.int .i64 x.v)
  simpa using this

theorem below_but {B s : Nat} {w W W' : World} (h : Below B w W) (hb : But s W W') (hs : B ≤ s) (hB : B ≤ W.heap.size) : Below B w W' :=
  ⟨hb.os.trans h.os, hb.tape.trans h.tape, hb.output.trans h.output, Nat.le_trans h.size hb.size, fun k hk => (hb.block k (by omega) (by omega)).trans (h.block k hk)⟩

theorem mem_sto (w : World) (b : Nat) (x : EntV) (h : w.heap[b]? = some (.cells #[.int .i64 0, .string ⟨#[]⟩, .int .i64 0, .int .i64 0] 93 (0, 0))) : ((((w.setCell ⟨b, 0, none⟩ (.int .i64 x.key.k)).setCell ⟨b, 1, none⟩ (.string x.key.t)).setCell ⟨b, 2, none⟩ (.int .i64 x.key.n)).setCell ⟨b, 3, none⟩ (.int .i64 x.v)).cell? ⟨b, 0, none⟩ = some (.int .i64 x.key.k) ∧ ((((w.setCell ⟨b, 0, none⟩ (.int .i64 x.key.k)).setCell ⟨b, 1, none⟩ (.string x.key.t)).setCell ⟨b, 2, none⟩ (.int .i64 x.key.n)).setCell ⟨b, 3, none⟩ (.int .i64 x.v)).cell? ⟨b, 1, none⟩ = some (.string x.key.t) ∧ ((((w.setCell ⟨b, 0, none⟩ (.int .i64 x.key.k)).setCell ⟨b, 1, none⟩ (.string x.key.t)).setCell ⟨b, 2, none⟩ (.int .i64 x.key.n)).setCell ⟨b, 3, none⟩ (.int .i64 x.v)).cell? ⟨b, 2, none⟩ = some (.int .i64 x.key.n) ∧ ((((w.setCell ⟨b, 0, none⟩ (.int .i64 x.key.k)).setCell ⟨b, 1, none⟩ (.string x.key.t)).setCell ⟨b, 2, none⟩ (.int .i64 x.key.n)).setCell ⟨b, 3, none⟩ (.int .i64 x.v)).cell? ⟨b, 3, none⟩ = some (.int .i64 x.v) := by
  have h' := sto_block w b x h
  generalize ((((w.setCell ⟨b, 0, none⟩ (.int .i64 x.key.k)).setCell ⟨b, 1, none⟩ (.string x.key.t)).setCell ⟨b, 2, none⟩ (.int .i64 x.key.n)).setCell ⟨b, 3, none⟩ (.int .i64 x.v)) = W at h' ⊢
  simp [World.cell?, h']

theorem but_sto (w : World) (b : Nat) (x : EntV) : But b w ((((w.setCell ⟨b, 0, none⟩ (.int .i64 x.key.k)).setCell ⟨b, 1, none⟩ (.string x.key.t)).setCell ⟨b, 2, none⟩ (.int .i64 x.key.n)).setCell ⟨b, 3, none⟩ (.int .i64 x.v)) := by
  repeat (first | exact But.refl _ _ | refine But.setCell ?_ _ _)

set_option maxHeartbeats 800000 in
theorem get_T (w : World) (s : Nat) (L : List EntV) (x : EntV) (h : SetAt w s L) (hs : L.length ≤ 800000) (hh : has entCmp L x = true) :
    Calls Try.prog 74 #[.pointer (some ⟨s, 0, none⟩), .agg #[.int .i64 x.key.k, .string x.key.t, .int .i64 x.key.n, .int .i64 x.v]] w fun e w' => (∃ y, e = .returned (.tuple #[.agg #[.int .i64 y.key.k, .string y.key.t, .int .i64 y.key.n, .int .i64 y.v], .bool true]) ∧ L[pos entCmp L x]? = some y) ∧ Below w.heap.size w w' := by
  have hB0 : Below w.heap.size w ((w.alloc (.cells #[.int .i64 x.key.k, .string x.key.t, .int .i64 x.key.n, .int .i64 x.v] 93)).alloc (.cells #[.int .i64 0, .string ⟨#[]⟩, .int .i64 0, .int .i64 0] 93)) := ((Below.refl _ w).alloc (Nat.le_refl _) _).alloc (by simp) _
  have hz0 : ((w.alloc (.cells #[.int .i64 x.key.k, .string x.key.t, .int .i64 x.key.n, .int .i64 x.v] 93)).alloc (.cells #[.int .i64 0, .string ⟨#[]⟩, .int .i64 0, .int .i64 0] 93)).heap[w.heap.size + 1]? = some (.cells #[.int .i64 0, .string ⟨#[]⟩, .int .i64 0, .int .i64 0] 93 (0, 0)) := by simpa using heap_alloc_new (w.alloc (.cells #[.int .i64 x.key.k, .string x.key.t, .int .i64 x.key.n, .int .i64 x.v] 93)) (.cells #[.int .i64 0, .string ⟨#[]⟩, .int .i64 0, .int .i64 0] 93)
  obtain ⟨t, p, h1, h2, rfl, h4⟩ := h.below hB0
  obtain ⟨y, hy, -⟩ := has_at entCmp_lin t.list x h4 hh
  have Hy := Lib.hid hy
  have c1 := cell_of_one h1
  clear h1 h hy
  go_enter Try.func74, Try.ntmps74
  go_wp2_with fail
  refine (find_T t _ p x h2 h4 (by unfold Tr.size; omega)).mono ?_
  rintro e w1 ⟨rfl, hB1⟩
  go_wp2_with fail
  refine (at_T t w1 p _ y (h2.ext hB1) Hy.out (by unfold Tr.size; omega)).mono ?_
  rintro e w2 ⟨rfl, hB2⟩
  have hC2 := hB1.trans (hB2.mono hB1.size)
  have hB := hB0.trans (hC2.mono hB0.size)
  have hb1 : w2.heap[w.heap.size + 1]? = _ := (hC2.block _ (lt_of_block hz0)).trans hz0
  have hz1 := zero_cells hb1
  have Hb1 := Lib.hid hb1
  have Hz0 := Lib.hid hz0
  clear hb1 hz0
  go_wp2_with fail
  have hm := mem_sto w2 (w.heap.size + 1) y Hb1.out
  have hB3 : Below w.heap.size w ((((w2.setCell ⟨(w.heap.size + 1), 0, none⟩ (.int .i64 y.key.k)).setCell ⟨(w.heap.size + 1), 1, none⟩ (.string y.key.t)).setCell ⟨(w.heap.size + 1), 2, none⟩ (.int .i64 y.key.n)).setCell ⟨(w.heap.size + 1), 3, none⟩ (.int .i64 y.v)) := below_but hB (but_sto w2 (w.heap.size + 1) y) (by omega) (by have := hB.size; omega)
  generalize ((((w2.setCell ⟨w.heap.size + 1, 0, none⟩ (.int .i64 y.key.k)).setCell ⟨w.heap.size + 1, 1, none⟩ (.string y.key.t)).setCell ⟨w.heap.size + 1, 2, none⟩ (.int .i64 y.key.n)).setCell ⟨w.heap.size + 1, 3, none⟩ (.int .i64 y.v)) = W at hm hB3 ⊢
  exact bodyPost_ret (v := .tuple #[.agg #[.int .i64 y.key.k, .string y.key.t, .int .i64 y.key.n, .int .i64 y.v], .bool true]) (by simp [results, Try.results74, go_sem, hm]) rfl ⟨⟨y, rfl, Hy.out⟩, hB3⟩

end Go.Proofs.Ytbpibbcehfkeeaa.E
