/- A list of lists of numbers that a law is given lies in memory; when the statements' Ints answers true. Conditions: the list can be read. -/
import Derived.Test.YtbpibbcehfkeeaaEntL
import Derived.Deep.Slices
import Derived.Test.YtbpibbcehfkeeaaLaw
import Derived.Deep.LoopGhost
namespace Go.Proofs.Ytbpibbcehfkeeaa
open Go Go.RowKit Go.ChangeShapes Go.WideShapes Go.ChangeAt Go.Deep

/-- v is a slice of the numbers xs. -/
def IntsOf (w : World) (v : Value) (xs : List Int) : Prop :=
  ∃ a cap, v = .slice a xs.length cap ∧ (xs = [] ∨ ∃ b off, a = some ⟨b, off, none⟩ ∧ ∀ i z, xs[i]? = some z → w.cell? ⟨b, off + i, none⟩ = some (.int .i64 z))

theorem IntsOf.below {w w' : World} {v : Value} {xs : List Int} (h : IntsOf w v xs) (hB : Below w.heap.size w w') : IntsOf w' v xs := by
  obtain ⟨a, cap, rfl, h⟩ := h
  refine ⟨a, cap, rfl, ?_⟩
  rcases h with h | ⟨b, off, rfl, h⟩
  · exact .inl h
  · exact .inr ⟨b, off, rfl, fun i z hz => (hB.cell (p := ⟨b, off + i, none⟩) (World.block_lt_of_cell? w _ (h i z hz))).trans (h i z hz)⟩

/-- v is a slice of slices of numbers. -/
def RowsOf (w : World) (v : Value) (rs : List (SlV × List Int)) : Prop :=
  ∃ a cap, v = .slice a rs.length cap ∧ (rs = [] ∨ ∃ b off, a = some ⟨b, off, none⟩ ∧ ∀ i r, rs[i]? = some r → w.cell? ⟨b, off + i, none⟩ = some (.slice r.1.a r.1.n r.1.c) ∧ IntsOf w (.slice r.1.a r.1.n r.1.c) r.2)

theorem ut_int : Try.prog.underlying 3 = some (.int .i64) := by kernel_rfl
theorem cells_int : Try.prog.cellsOf 3 = 1 := by kernel_rfl
theorem cells_ints : Try.prog.cellsOf 30 = 1 := by kernel_rfl

set_option maxRecDepth 100000 in
theorem open_ints {H : Type} {enc : TypeId × Value → H} {W : World} {n : Nat} {v : Value} {x : DataW H × List MemPlace}
    (hf : DataW.trod enc Try.prog W 0 (fun _ => true) true n 30 [v] = some x) : ∃ (s : SlV) (xs : List Int), v = .slice s.a s.n s.c ∧ IntsOf W v xs := by
  rcases open_slice Try.underlying30 hf with ⟨hcs, -⟩ | ⟨a, len', cap', m, n, D, Pl, hcs, _, hl, -, hm, -, hx⟩
  · simp at hcs
    subst hcs
    exact ⟨⟨none, 0, 0⟩, [], rfl, none, 0, rfl, .inl rfl⟩
  · simp at hcs
    subst hcs
    simp only [if_true] at hm
    subst hm
    rw [cells_int] at hx
    have each : ∀ i, i < m → ∃ z : Int, W.cell? (a.add (i * 1)) = some (.int .i64 z) := fun i hi => by
      obtain ⟨cs', h1, h2⟩ := hx i hi
      obtain ⟨_, hlen, hcell⟩ := World.cells?_some h1
      match cs', hlen with
      | [c0], _ =>
        have e0 := hcell 0 (by omega)
        obtain ⟨z0, q0, -⟩ := DataW.trod_int ut_int h2
        simp only [List.cons.injEq, and_true] at q0
        subst q0
        exact ⟨z0, by simpa [Addr.add] using e0⟩
    obtain ⟨q, hq⟩ := choose_lt each
    have hlen : ((List.range len').map q).length = len' := by simp
    refine ⟨⟨some a, len', m⟩, (List.range len').map q, rfl, some a, m, by rw [hlen], ?_⟩
    by_cases h0 : len' = 0
    · exact .inl (by subst h0; simp)
    · obtain ⟨b, off, spot⟩ := a
      obtain rfl : spot = none := by simpa [Addr.add] using World.cell?_spot (hq 0 (by omega))
      refine .inr ⟨b, off, rfl, fun i x hx => ?_⟩
      have hi : i < len' := by have := (List.getElem?_eq_some_iff.1 hx).1; simpa using this
      have e := hq i (by omega)
      rw [show q i = x by simpa [List.getElem?_map, List.getElem?_range hi] using hx] at e
      simp only [add_plain, Nat.mul_one] at e
      exact e

set_option maxRecDepth 100000 in
theorem open_rows {H : Type} {enc : TypeId × Value → H} {W : World} {v : Value} {d : DataW H} {ps : List MemPlace} (hval : Value.okWide Try.prog W .any 0 82 v)
    (h : DataW.Trod enc Try.prog W 0 (fun _ => true) true 82 v d ps) : ∃ rs, RowsOf W v rs := by
  obtain ⟨a0, len, cap, rfl⟩ := okWide_slice Try.underlying82 hval
  obtain ⟨fuel, hf⟩ := h
  rcases open_slice Try.underlying82 hf with ⟨hcs, -⟩ | ⟨a, len', cap', m, n, D, Pl, hcs, _, hl, -, hm, -, hx⟩
  · simp [Value.cells] at hcs
    obtain ⟨rfl, rfl, rfl⟩ := hcs
    exact ⟨[], none, 0, rfl, .inl rfl⟩
  · simp [Value.cells] at hcs
    obtain ⟨rfl, rfl, rfl⟩ := hcs
    simp only [if_true] at hm
    subst hm
    rw [cells_ints] at hx
    have each : ∀ i, i < m → ∃ r : SlV × List Int, W.cell? (a.add (i * 1)) = some (.slice r.1.a r.1.n r.1.c) ∧ IntsOf W (.slice r.1.a r.1.n r.1.c) r.2 := fun i hi => by
      obtain ⟨cs', h1, h2⟩ := hx i hi
      obtain ⟨_, hlen, hcell⟩ := World.cells?_some h1
      match cs', hlen with
      | [c0], _ =>
        have e0 := hcell 0 (by omega)
        obtain ⟨s, xs, rfl, hI⟩ := open_ints h2
        exact ⟨(s, xs), by simpa [Addr.add] using e0, hI⟩
    haveI : Inhabited (SlV × List Int) := ⟨(⟨none, 0, 0⟩, [])⟩
    obtain ⟨q, hq⟩ := choose_lt each
    have hlen : ((List.range len).map q).length = len := by simp
    refine ⟨(List.range len).map q, some a, m, by rw [hlen], ?_⟩
    by_cases h0 : len = 0
    · exact .inl (by subst h0; simp)
    · obtain ⟨b, off, spot⟩ := a
      obtain rfl : spot = none := by simpa [Addr.add] using World.cell?_spot (hq 0 (by omega)).1
      refine .inr ⟨b, off, rfl, fun i x hx => ?_⟩
      have hi : i < len := by have := (List.getElem?_eq_some_iff.1 hx).1; simpa using this
      have e := hq i (by omega)
      rw [show q i = x by simpa [List.getElem?_map, List.getElem?_range hi] using hx] at e
      simp only [add_plain, Nat.mul_one] at e
      exact e

set_option maxHeartbeats 800000 in
theorem ints_same (w : World) (v : Value) (xs : List Int) (h : IntsOf w v xs) (hs : xs.length ≤ 1000) :
    Calls Try.prog 23 #[v, v] w fun e w' => e = .returned (.bool true) ∧ Below w.heap.size w w' := by
  obtain ⟨a, cap, rfl, hc⟩ := h
  go_enter Try.func23, Try.ntmps23
  go_wp2_with fail
  go_loopg [5] xs.length (fun m i wr => ∃ j : Nat, i = .int .i64 j ∧ j ≤ xs.length ∧ Hid (m = xs.length - j) ∧ Below w.heap.size w wr)
  case atStart => exact ⟨0, rfl, by omega, Lib.hid rfl, Below.refl _ _⟩
  case round =>
    obtain ⟨j, rfl, hj, Hm, hB⟩ := hrel
    by_cases hlt : j < xs.length
    · rcases hc with rfl | ⟨b, off, rfl, hel⟩
      · simp at hlt
      · obtain ⟨z, hz⟩ : ∃ z, xs[j]? = some z := ⟨xs[j], by simp [hlt]⟩
        have hzc := (hB.cell (p := ⟨b, off + j, none⟩) (World.block_lt_of_cell? w _ (hel j z hz))).trans (hel j z hz)
        clear hel hz
        go_wp2_with fail
        go_quiet (fail)
        go_wp2_with fail
        go_roundg (xs.length - (j + 1))
        case measure => rw [Hm.out]; omega
        case rel => exact ⟨j + 1, by go_num, by omega, Lib.hid rfl, hB.trans (below_drewN _ _ _)⟩
    · obtain rfl : j = xs.length := by omega
      go_wp2_with fail
      go_ret
      exact ⟨rfl, hB⟩

end Go.Proofs.Ytbpibbcehfkeeaa
