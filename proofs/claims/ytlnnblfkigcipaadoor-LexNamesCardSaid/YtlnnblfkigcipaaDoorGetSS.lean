/- A box of three cells: what is stored is there. Conditions: none. -/
import Derived.Test.YtlnnblfkigcipaaDoorBase
import Derived.Deep.LoopGhost
namespace Go.Proofs.YtlnnblfkigcipaaDoor.S
open Go Go.RowKit

theorem zero_cells {w : World} {b : Nat} (h : w.heap[b]? = some (.cells #[.int .i64 0, .string ⟨#[]⟩, .int .i64 0] 62 (0, 0))) : w.cell? ⟨b, 0, none⟩ = some (.int .i64 0) ∧ w.cell? ⟨b, 1, none⟩ = some (.string ⟨#[]⟩) ∧ w.cell? ⟨b, 2, none⟩ = some (.int .i64 0) ∧ w.frozen? ⟨b, 0, none⟩ = false ∧ w.frozen? ⟨b, 1, none⟩ = false ∧ w.frozen? ⟨b, 2, none⟩ = false := by
  simp [World.cell?, World.frozen?, h]

theorem set_block {w : World} {b o : Nat} {c : Array Value} {T : TypeId} {f : Nat × Nat} (h : w.heap[b]? = some (.cells c T f)) (v : Value) : (w.setCell ⟨b, o, none⟩ v).heap[b]? = some (.cells (c.setIfInBounds o v) T f) := by
  have hlt := lt_of_block h
  have h' : w.heap[b] = .cells c T f := by simpa [Array.getElem?_eq_getElem hlt] using h
  show (w.heap.modify b _)[b]? = _
  rw [Array.getElem?_eq_getElem (by simpa using hlt), Array.getElem_modify_self, h']
  rfl

theorem sto_block (w : World) (b : Nat) (x : SymV) (h : w.heap[b]? = some (.cells #[.int .i64 0, .string ⟨#[]⟩, .int .i64 0] 62 (0, 0))) : (((w.setCell ⟨b, 0, none⟩ (.int .i64 x.k)).setCell ⟨b, 1, none⟩ (.string x.t)).setCell ⟨b, 2, none⟩ (.int .i64 x.n)).heap[b]? = some (.cells #[.int .i64 x.k, .string x.t, .int .i64 x.n] 62 (0, 0)) := by
  have := set_block (o := 2) (set_block (o := 1) (set_block (o := 0) (h) (.int .i64 x.k)) (.string x.t)) (.int .i64 x.n)
  simpa using this

theorem below_but {B s : Nat} {w W W' : World} (h : Below B w W) (hb : But s W W') (hs : B ≤ s) (hB : B ≤ W.heap.size) : Below B w W' :=
  ⟨hb.os.trans h.os, hb.tape.trans h.tape, hb.output.trans h.output, Nat.le_trans h.size hb.size, fun k hk => (hb.block k (by omega) (by omega)).trans (h.block k hk)⟩

theorem mem_sto (w : World) (b : Nat) (x : SymV) (h : w.heap[b]? = some (.cells #[.int .i64 0, .string ⟨#[]⟩, .int .i64 0] 62 (0, 0))) : (((w.setCell ⟨b, 0, none⟩ (.int .i64 x.k)).setCell ⟨b, 1, none⟩ (.string x.t)).setCell ⟨b, 2, none⟩ (.int .i64 x.n)).cell? ⟨b, 0, none⟩ = some (.int .i64 x.k) ∧ (((w.setCell ⟨b, 0, none⟩ (.int .i64 x.k)).setCell ⟨b, 1, none⟩ (.string x.t)).setCell ⟨b, 2, none⟩ (.int .i64 x.n)).cell? ⟨b, 1, none⟩ = some (.string x.t) ∧ (((w.setCell ⟨b, 0, none⟩ (.int .i64 x.k)).setCell ⟨b, 1, none⟩ (.string x.t)).setCell ⟨b, 2, none⟩ (.int .i64 x.n)).cell? ⟨b, 2, none⟩ = some (.int .i64 x.n) := by
  have h' := sto_block w b x h
  generalize (((w.setCell ⟨b, 0, none⟩ (.int .i64 x.k)).setCell ⟨b, 1, none⟩ (.string x.t)).setCell ⟨b, 2, none⟩ (.int .i64 x.n)) = W at h' ⊢
  simp [World.cell?, h']

theorem but_sto (w : World) (b : Nat) (x : SymV) : But b w (((w.setCell ⟨b, 0, none⟩ (.int .i64 x.k)).setCell ⟨b, 1, none⟩ (.string x.t)).setCell ⟨b, 2, none⟩ (.int .i64 x.n)) := by
  repeat (first | exact But.refl _ _ | refine But.setCell ?_ _ _)

end Go.Proofs.YtlnnblfkigcipaaDoor.S
