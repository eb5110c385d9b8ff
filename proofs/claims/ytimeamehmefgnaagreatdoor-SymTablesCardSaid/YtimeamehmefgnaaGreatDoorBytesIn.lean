/- A list of bytes that a law is given lies in memory; the text of one byte. Conditions: the list can be read. -/
import Derived.Test.YtimeamehmefgnaaGreatDoorLaw
import Derived.Test.YtimeamehmefgnaaGreatDoorFreshS
import Derived.Deep.Slices
import Derived.Laws.BytesArg
namespace Go.Proofs.YtimeamehmefgnaaGreatDoor
open Go Go.RowKit Go.ChangeShapes Go.WideShapes Go.ChangeAt Go.Deep

/-- v is a slice of the bytes zs. -/
def BytesOf (w : World) (v : Value) (zs : List Int) : Prop :=
  ∃ a cap, v = .slice a zs.length cap ∧ (zs = [] ∨ ∃ b off, a = some ⟨b, off, none⟩ ∧ ∀ (i : Nat) (z : Int), zs[i]? = some z → w.cell? ⟨b, off + i, none⟩ = some (.int .u8 z))

theorem BytesOf.below {w w' : World} {v : Value} {zs : List Int} (h : BytesOf w v zs) (hB : Below w.heap.size w w') : BytesOf w' v zs := by
  obtain ⟨a, cap, rfl, h⟩ := h
  refine ⟨a, cap, rfl, ?_⟩
  rcases h with h | ⟨b, off, rfl, h⟩
  · exact .inl h
  · exact .inr ⟨b, off, rfl, fun i z hz => (hB.cell (p := ⟨b, off + i, none⟩) (World.block_lt_of_cell? w _ (h i z hz))).trans (h i z hz)⟩

theorem ut_byte : Tryz.prog.underlying 5 = some (.int .u8) := by kernel_rfl
theorem cells_byte : Tryz.prog.cellsOf 5 = 1 := by kernel_rfl

set_option maxRecDepth 100000 in
theorem open_bytes1 {H : Type} {enc : TypeId × Value → H} {W : World} {v : Value} {d : DataW H} {ps : List MemPlace} (hval : Value.okWide Tryz.prog W .any 0 51 v)
    (h : DataW.Trod enc Tryz.prog W 0 (fun _ => true) true 51 v d ps) : ∃ xs, BytesOf W v xs := by
  obtain ⟨a0, len, cap, rfl⟩ := okWide_slice Tryz.underlying51 hval
  obtain ⟨fuel, hf⟩ := h
  rcases open_slice Tryz.underlying51 hf with ⟨hcs, -⟩ | ⟨a, len', cap', m, n, D, Pl, hcs, _, hl, -, hm, -, hx⟩
  · simp [Value.cells] at hcs
    obtain ⟨rfl, rfl, rfl⟩ := hcs
    exact ⟨[], none, 0, rfl, .inl rfl⟩
  · simp [Value.cells] at hcs
    obtain ⟨rfl, rfl, rfl⟩ := hcs
    simp only [if_true] at hm
    subst hm
    rw [cells_byte] at hx
    have each : ∀ i, i < m → ∃ z : Int, W.cell? (a.add (i * 1)) = some (.int .u8 z) := fun i hi => by
      obtain ⟨cs', h1, h2⟩ := hx i hi
      obtain ⟨_, hlen, hcell⟩ := World.cells?_some h1
      match cs', hlen with
      | [c0], _ =>
        have e0 := hcell 0 (by omega)
        obtain ⟨z0, q0, -⟩ := DataW.trod_int ut_byte h2
        simp only [List.cons.injEq, and_true] at q0
        subst q0
        exact ⟨z0, by simpa [Addr.add] using e0⟩
    obtain ⟨q, hq⟩ := choose_lt each
    have hlen : ((List.range len).map q).length = len := by simp
    refine ⟨(List.range len).map q, some a, m, by rw [hlen], ?_⟩
    by_cases h0 : len = 0
    · exact .inl (by subst h0; simp)
    · obtain ⟨b, off, spot⟩ := a
      obtain rfl : spot = none := by simpa [Addr.add] using World.cell?_spot (hq 0 (by omega))
      refine .inr ⟨b, off, rfl, fun i x hx => ?_⟩
      have hi : i < len := by have := (List.getElem?_eq_some_iff.1 hx).1; simpa using this
      have e := hq i (by omega)
      rw [show q i = x by simpa [List.getElem?_map, List.getElem?_range hi] using hx] at e
      simp only [add_plain, Nat.mul_one] at e
      exact e

theorem conv_letter (w : World) (z : Int) : (convert 51 9 (.slice (some ⟨w.heap.size, 0, none⟩) 1 1)).run Tryz.prog (w.alloc (.cells #[.int .u8 z] 5)) = .ok (.string (letterB z)) (w.alloc (.cells #[.int .u8 z] 5)) := by
  have h := run_convert_bytes_arg (P := Tryz.prog) (w.alloc (.cells #[.int .u8 z] 5)) 51 5 Tryz.underlying51 Tryz.underlying5 w.heap.size 0 1 1 [z] rfl (fun i hi => by
    obtain rfl : i = 0 := by omega
    exact cell_of_one (heap_alloc_new w _)) 9 Tryz.underlying9
  exact h

end Go.Proofs.YtimeamehmefgnaaGreatDoor
