/- What Union of two sets makes. Conditions: the sets lie in memory; at most 300000 members. -/
import Derived.Test.YtimeamehmefgnaaGreatDoorSameSS
import Derived.Test.YtimeamehmefgnaaGreatDoorDropSS
import Derived.Test.YtimeamehmefgnaaGreatDoorNewSS
namespace Go.Proofs.YtimeamehmefgnaaGreatDoor.S
open Go Go.RowKit Go.Shelf

attribute [local go_sem] Oper.semAt_some

theorem SetAt.grown {W W' : World} {row : Option Nat} {s : Nat} {L : List SymV} (h : SetAt W s L) (hg : W.grownBy W' row) (hr : ∀ r, row = some r → ∃ o : Obj, W.heap[r]? = some o ∧ o.isCells = false) : SetAt W' s L := by
  obtain ⟨t, p, h1, h2, h3⟩ := h
  exact ⟨t, p, (grownBy_keeps_cells hg hr h1 rfl).trans h1, IsT.keep (fun b c hb => (grownBy_keeps_cells hg hr hb rfl).trans hb) t p h2, h3⟩

theorem but_grown {B s : Nat} {w W W' : World} {row : Option Nat} (h : But s w W) (hg : W.grownBy W' row) (hr : ∀ r, row = some r → B ≤ r) (hB : w.heap.size ≤ B) : But s w W' :=
  ⟨hg.os.trans h.os, hg.tape.trans h.tape, hg.output.trans h.output, Nat.le_trans h.size hg.size, fun k hk hs => (hg.block k (Nat.lt_of_lt_of_le hk h.size) (fun e => by have := hr k e.symm; omega)).trans (h.block k hk hs)⟩

theorem keepsFrom_but {B s : Nat} {W W' : World} (h : But s W W') (hs : s < B) : KeepsFrom B W W' := ⟨h.size, fun k _ hB hk _ => (h.block k (lt_of_block hk) (by omega)).trans hk⟩

theorem but_cell {s : Nat} {W W' : World} {b o : Nat} {v : Value} (h : But s W W') (hb : b ≠ s) (hc : W.cell? ⟨b, o, none⟩ = some v) : W'.cell? ⟨b, o, none⟩ = some v :=
  (World.cell?_of_block (h.block b (World.block_lt_of_cell? W _ hc) hb)).trans hc

end Go.Proofs.YtimeamehmefgnaaGreatDoor.S
