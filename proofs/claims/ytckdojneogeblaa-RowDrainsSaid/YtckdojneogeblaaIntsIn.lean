/- A list of numbers that a law is given lies in memory. Conditions: the list can be read. -/
import Derived.Test.YtckdojneogeblaaQKeep
import Derived.Test.YtckdojneogeblaaLawQ
namespace Go.Proofs.Ytckdojneogeblaa
open Go Go.RowKit Go.ChangeShapes Go.WideShapes Go.ChangeAt

theorem cells_int : Try.prog.cellsOf 3 = 1 := by kernel_rfl

set_option maxRecDepth 100000 in
theorem open_ints_at {H : Type} {enc : TypeId × Value → H} {W : World} {a0 : Option Addr} {len0 cap0 : Nat} {fuel : Nat} {x : DataW H × List MemPlace}
    (hf : DataW.trod enc Try.prog W 0 (fun _ => true) true fuel 28 [.slice a0 len0 cap0] = some x) : ∃ zs, IntsOf W (.slice a0 len0 cap0) zs := by
  rcases open_ints Try.underlying28 Try.underlying3 cells_int hf with ⟨hcs, -⟩ | ⟨a, len', cap', zs, hcs, _, hl, hm, hz, -, hcell, -⟩
  · simp at hcs
    obtain ⟨rfl, rfl, rfl⟩ := hcs
    exact ⟨[], IntsOf.nil W⟩
  · simp at hcs
    obtain ⟨rfl, rfl, rfl⟩ := hcs
    simp only [if_true] at hz
    have hlen : (zs.take len0).length = len0 := by rw [List.length_take]; omega
    refine ⟨zs.take len0, some a, cap0, by rw [hlen], by omega, (fun h => by cases h), fun i z hz' => ?_⟩
    have hi := (List.getElem?_eq_some_iff.1 hz').1
    rw [hlen] at hi
    obtain ⟨b, off, spot⟩ := a
    have e := hcell i (by omega)
    obtain rfl : spot = none := by simpa [Addr.add] using World.cell?_spot (hcell 0 (by omega))
    rw [List.getElem?_take_of_lt hi] at hz'
    rw [show zs.getD i 0 = z by simp [List.getD, hz']] at e
    exact ⟨b, off, rfl, by rw [← add_plain]; exact e⟩

set_option maxRecDepth 100000 in
theorem open_nums {H : Type} {enc : TypeId × Value → H} {W : World} {v : Value} {d : DataW H} {ps : List MemPlace} (hval : Value.okWide Try.prog W .any 0 28 v)
    (h : DataW.Trod enc Try.prog W 0 (fun _ => true) true 28 v d ps) : ∃ zs, IntsOf W v zs := by
  obtain ⟨a0, len, cap, rfl⟩ := okWide_slice Try.underlying28 hval
  obtain ⟨fuel, hf⟩ := h
  simp only [Value.cells] at hf
  exact open_ints_at hf

end Go.Proofs.Ytckdojneogeblaa
