/- What the laws of chapter 2 call, over the statements' plain map. Conditions: none. -/
import Derived.Test.YtbpibbcehfkeeaaFilledS
import Derived.Test.YtbpibbcehfkeeaaPairsLaw
import Derived.Test.YtbpibbcehfkeeaaTallyE
import Derived.Test.YtbpibbcehfkeeaaWithinAny
import Derived.Test.YtbpibbcehfkeeaaWakesB
namespace Go.Proofs.Ytbpibbcehfkeeaa
open Go Go.RowKit

/-- A slice reads as these numbers. -/
def IntsAt (w : World) (v : Value) (xs : List Int) : Prop :=
  ∃ a cap, v = .slice a xs.length cap ∧ ∀ i z, xs[i]? = some z → ∃ b off, a = some ⟨b, off, none⟩ ∧ w.cell? ⟨b, off + i, none⟩ = some (.int .i64 z)

theorem IntsAt.below {w w' : World} {v : Value} {xs : List Int} (h : IntsAt w v xs) (hB : Below w.heap.size w w') : IntsAt w' v xs := by
  obtain ⟨a, cap, rfl, h⟩ := h
  refine ⟨a, cap, rfl, fun i z hz => ?_⟩
  obtain ⟨b, off, e, hc⟩ := h i z hz
  exact ⟨b, off, e, (hB.cell (p := ⟨b, off + i, none⟩) (World.block_lt_of_cell? w _ hc)).trans hc⟩

set_option maxHeartbeats 800000 in
theorem ints2_T (w : World) (v v' : Value) (xs : List Int) (h : IntsAt w v xs) (h' : IntsAt w v' xs) (hs : xs.length ≤ 100000) :
    Calls Try.prog 23 #[v, v'] w fun e w' => e = .returned (.bool true) ∧ Below w.heap.size w w' := by
  obtain ⟨a, cap, rfl, hc⟩ := h
  obtain ⟨a', cap', rfl, hc'⟩ := h'
  have Hc := Lib.hid hc
  have Hc' := Lib.hid hc'
  clear hc hc'
  go_enter Try.func23, Try.ntmps23
  go_wp2_with fail
  go_loopg [5] xs.length (fun m i wr => ∃ j : Nat, i = .int .i64 j ∧ j ≤ xs.length ∧ Hid (m = xs.length - j) ∧ Below w.heap.size w wr)
  case atStart => exact ⟨0, rfl, by omega, Lib.hid rfl, Below.refl _ _⟩
  case round =>
    obtain ⟨j, rfl, hj, Hm, hB⟩ := hrel
    by_cases hlt : j < xs.length
    · obtain ⟨z, hz⟩ : ∃ z, xs[j]? = some z := ⟨xs[j], by simp [hlt]⟩
      obtain ⟨b, off, rfl, hzc⟩ := Hc.out j z hz
      obtain ⟨b', off', rfl, hzc'⟩ := Hc'.out j z hz
      replace hzc := (hB.cell (p := ⟨b, off + j, none⟩) (World.block_lt_of_cell? w _ hzc)).trans hzc
      replace hzc' := (hB.cell (p := ⟨b', off' + j, none⟩) (World.block_lt_of_cell? w _ hzc')).trans hzc'
      clear hz
      go_wp2_with fail
      go_quiet (fail)
      go_wp2_with fail
      go_roundg (xs.length - (j + 1))
      case measure => rw [Hm.out]; omega
      case rel => exact ⟨j + 1, by go_num, by omega, Lib.hid rfl, hB.trans (below_drewN _ _ _)⟩
    · obtain rfl : j = xs.length := by omega
      go_wp2_with fail
      go_ret
      exact ⟨rfl, hB⟩

theorem rw_ints {B : Nat} {w : World} {v : Value} {xs : List Int} (h : I.Rw S.ei 3 B w v xs) : IntsAt w v xs := by
  obtain ⟨a, cap, rfl, -⟩ := h.src
  refine ⟨a, cap, rfl, fun i z hz => ?_⟩
  obtain ⟨g, off, cap', e, hc⟩ := h.cellAt i z hz
  cases e
  exact ⟨g, off, rfl, hc⟩

theorem flatMap_one {α β : Type} (f : α → β) (l : List α) : (l.flatMap fun x => [f x]) = l.map f := by
  induction l with
  | nil => rfl
  | cons a l ih => simp [List.flatMap_cons, ih]

/-- The rows of pairs: their keys and their values. -/
theorem row_keys {B : Nat} {w : World} {v : Value} {L : List EntV} (h : w.ownsRow B 26 3 v L.length (L.flatMap fun x => [.int .i64 x.key.k, .string x.key.t, .int .i64 x.key.n])) : S.SliceOf w v (S.keysL L) := by
  have h' : S.Made B w v (S.keysL L) := by
    unfold S.Made S.keysL
    rw [List.flatMap_map, List.length_map]
    exact h
  exact (S.Made.ge h').slice

theorem row_vals {B : Nat} {w : World} {v : Value} {L : List EntV} (h : w.ownsRow B 3 1 v L.length (L.flatMap fun x => [.int .i64 x.v])) : IntsAt w v (S.valsL L) := by
  rw [flatMap_one (fun x : EntV => Value.int .i64 x.v)] at h
  rcases h.2 with ⟨rfl, h0⟩ | ⟨g, cap, cur, rfl, hb, hg, hn, hm, hs, ht⟩
  · refine ⟨none, 0, by simp [S.valsL, h0], fun i z hz => ?_⟩
    have := (List.getElem?_eq_some_iff.1 hz).1
    simp [S.valsL] at this
    omega
  · refine ⟨_, cap, by simp [S.valsL], fun i z hz => ⟨g, 0, rfl, ?_⟩⟩
    have h3 := World.ownsRow.cells h (g := g) rfl i (.int .i64 z) (by
      rw [List.getElem?_map] at hz ⊢
      cases hx : L[i]? with
      | none => rw [hx] at hz; cases hz
      | some x => rw [hx] at hz; cases hz; rfl)
    rwa [Go.WideShapes.add_plain] at h3

theorem MapAt.but {w w' : World} {c d m s : Nat} {L M : List EntV} (h : E.MapAt w c d L) (hb : But s w w') (hM : E.MapAt w m s M) (hc : c ≠ s) (hd : d ≠ s) : E.MapAt w' c d L := by
  obtain ⟨-, t, q, h2, -⟩ := hM
  exact ⟨(hb.block c (lt_of_block h.1) hc).trans h.1, h.2.but hb (Ne.symm hd) h2 (by decide)⟩

theorem mapdrop_T (w : World) (m s : Nat) (L : List EntV) (k : SymV) (h : E.MapAt w m s L) (hs : L.length ≤ 700000) :
    Calls Try.prog 16 #[.pointer (some ⟨m, 0, none⟩), .agg #[.int .i64 k.k, .string k.t, .int .i64 k.n]] w fun e w' => e = .returned (.tuple #[.int .i64 (E.valOf L k), .bool (has entCmp L ⟨k, 0⟩)]) ∧ E.MapAt w' m s (E.drop entCmp L ⟨k, 0⟩) ∧ But s w w' := by
  unfold E.valOf
  cases hh : has entCmp L ⟨k, 0⟩
  · refine (E.mapdrop_no w m s L k h hs hh).mono ?_
    rintro e w' ⟨rfl, hM, hb⟩
    exact ⟨by simp, hM, hb⟩
  · refine (E.mapdrop_yes w m s L k h hs hh).mono ?_
    rintro e w' ⟨⟨y, rfl, hy⟩, hM, hb⟩
    exact ⟨by simp [hy], hM, hb⟩

end Go.Proofs.Ytbpibbcehfkeeaa
