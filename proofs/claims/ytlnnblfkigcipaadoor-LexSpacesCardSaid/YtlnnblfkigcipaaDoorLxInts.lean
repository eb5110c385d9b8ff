/- A list of numbers that a law is given lies in memory. Conditions: the list can be read. -/
import Derived.Test.YtlnnblfkigcipaaDoorLaw
import Derived.Test.YtlnnblfkigcipaaDoorGetSS
namespace Go.Proofs.YtlnnblfkigcipaaDoor
open Go Go.RowKit Go.ChangeShapes Go.WideShapes Go.ChangeAt

theorem cells_int1 : Tryd.prog.cellsOf 3 = 1 := by kernel_rfl

/-- v is a slice of the numbers zs. -/
def IntsL (W : World) (v : Value) (zs : List Int) : Prop :=
  ∃ p c, v = .slice p zs.length c ∧ ∀ i z, zs[i]? = some z → ∃ b off, p = some ⟨b, off, none⟩ ∧ W.cell? ⟨b, off + i, none⟩ = some (.int .i64 z)

theorem IntsL.below {w w' : World} {v : Value} {xs : List Int} (h : IntsL w v xs) (hB : Below w.heap.size w w') : IntsL w' v xs := by
  obtain ⟨p, c, rfl, h⟩ := h
  refine ⟨p, c, rfl, fun i z hz => ?_⟩
  obtain ⟨b, off, hp, hc⟩ := h i z hz
  exact ⟨b, off, hp, (hB.cell (p := ⟨b, off + i, none⟩) (World.block_lt_of_cell? w _ hc)).trans hc⟩

set_option maxRecDepth 100000 in
theorem open_nums_at {H : Type} {enc : TypeId × Value → H} {W : World} {a0 : Option Addr} {len0 cap0 : Nat} {fuel : Nat} {x : DataW H × List MemPlace}
    (hf : DataW.trod enc Tryd.prog W 0 (fun _ => true) true fuel 38 [.slice a0 len0 cap0] = some x) : ∃ zs, IntsL W (.slice a0 len0 cap0) zs := by
  rcases open_ints Tryd.underlying38 Tryd.underlying3 cells_int1 hf with ⟨hcs, -⟩ | ⟨a, len', cap', zs, hcs, _, hl, hm, hz, -, hcell, -⟩
  · simp at hcs
    obtain ⟨rfl, rfl, rfl⟩ := hcs
    exact ⟨[], none, 0, rfl, fun i z h => by simp at h⟩
  · simp at hcs
    obtain ⟨rfl, rfl, rfl⟩ := hcs
    simp only [if_true] at hz
    have hlen : (zs.take len0).length = len0 := by rw [List.length_take]; omega
    refine ⟨zs.take len0, some a, cap0, by rw [hlen], fun i z hz' => ?_⟩
    have hi := (List.getElem?_eq_some_iff.1 hz').1
    rw [hlen] at hi
    obtain ⟨b, off, spot⟩ := a
    have e := hcell i (by omega)
    obtain rfl : spot = none := by simpa [Addr.add] using World.cell?_spot (hcell 0 (by omega))
    rw [List.getElem?_take_of_lt hi] at hz'
    rw [show zs.getD i 0 = z by simp [List.getD, hz']] at e
    have ha : (⟨b, off, none⟩ : Addr).add i = ⟨b, off + i, none⟩ := by unfold Addr.add; split <;> simp_all
    exact ⟨b, off, rfl, by rw [← ha]; exact e⟩

set_option maxRecDepth 100000 in
theorem open_nums {H : Type} {enc : TypeId × Value → H} {W : World} {v : Value} {d : DataW H} {ps : List MemPlace} (hval : Value.okWide Tryd.prog W .any 0 38 v)
    (h : DataW.Trod enc Tryd.prog W 0 (fun _ => true) true 38 v d ps) : ∃ zs, IntsL W v zs := by
  obtain ⟨a0, len, cap, rfl⟩ := okWide_slice Tryd.underlying38 hval
  obtain ⟨fuel, hf⟩ := h
  simp only [Value.cells] at hf
  exact open_nums_at hf

end Go.Proofs.YtlnnblfkigcipaaDoor
