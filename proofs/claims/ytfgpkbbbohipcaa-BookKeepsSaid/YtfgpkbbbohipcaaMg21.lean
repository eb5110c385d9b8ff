/- What At of a set answers. Conditions: the set lies in memory; at most 800000 members; the index is in range.
What New of a set answers. Conditions: the list lies in memory; at most 700000 members. -/
import Derived.Test.YtfgpkbbbohipcaaGetSM
namespace Go.Proofs.Ytfgpkbbbohipcaa.M
open Go Go.RowKit

end Go.Proofs.Ytfgpkbbbohipcaa.M

namespace Go.Proofs.Ytfgpkbbbohipcaa.M
open Go Go.RowKit

/-- The values xs lie one behind the other in block b, from off on. -/
def Elems (w : World) (b off : Nat) (xs : List EntM) : Prop := ∀ i x, xs[i]? = some x → w.cell? ⟨b, off + i * 13, none⟩ = some (.int .i64 x.key.id.k) ∧ w.cell? ⟨b, off + i * 13 + 1, none⟩ = some (.string x.key.id.t) ∧ w.cell? ⟨b, off + i * 13 + 2, none⟩ = some (.int .i64 x.key.id.n) ∧ w.cell? ⟨b, off + i * 13 + 3, none⟩ = some (.int .i64 x.key.attr.k) ∧ w.cell? ⟨b, off + i * 13 + 4, none⟩ = some (.string x.key.attr.t) ∧ w.cell? ⟨b, off + i * 13 + 5, none⟩ = some (.int .i64 x.key.attr.n) ∧ w.cell? ⟨b, off + i * 13 + 6, none⟩ = some (.int .i64 x.key.val.k) ∧ w.cell? ⟨b, off + i * 13 + 7, none⟩ = some (.string x.key.val.t) ∧ w.cell? ⟨b, off + i * 13 + 8, none⟩ = some (.int .i64 x.key.val.n) ∧ w.cell? ⟨b, off + i * 13 + 9, none⟩ = some (.bool x.key.acc) ∧ w.cell? ⟨b, off + i * 13 + 10, none⟩ = some (.bool x.key.goal) ∧ w.cell? ⟨b, off + i * 13 + 11, none⟩ = some (.int .i64 x.key.tag) ∧ w.cell? ⟨b, off + i * 13 + 12, none⟩ = some (.int .i64 x.v)

/-- v is a slice of the values xs. -/
def SliceOf (w : World) (v : Value) (xs : List EntM) : Prop :=
  ∃ a cap, v = .slice a xs.length cap ∧ (xs = [] ∨ ∃ b off, a = some ⟨b, off, none⟩ ∧ Elems w b off xs)

theorem Elems.below {w w' : World} {b off : Nat} {xs : List EntM} (h : Elems w b off xs) {B : Nat} (hB : Below B w w') (hb : b < B) : Elems w' b off xs := by
  intro i x hx
  have h0 := h i x hx
  simp only [← hB.cell (p := ⟨b, _, none⟩) hb] at h0
  exact h0

theorem SliceOf.below {w w' : World} {v : Value} {xs : List EntM} (h : SliceOf w v xs) (hB : Below w.heap.size w w') : SliceOf w' v xs := by
  obtain ⟨a, cap, rfl, h⟩ := h
  refine ⟨a, cap, rfl, ?_⟩
  rcases h with h | ⟨b, off, rfl, h⟩
  · exact .inl h
  · cases xs with
    | nil => exact .inl rfl
    | cons x xs =>
      refine .inr ⟨b, off, rfl, h.below hB ?_⟩
      exact World.block_lt_of_cell? w _ (h 0 x rfl).1

theorem putl_length (xs l : List EntM) : (xs.foldl (put entCmpM) l).length ≤ l.length + xs.length := by
  induction xs generalizing l with
  | nil => simp
  | cons x xs ih =>
    have := ih (put entCmpM l x)
    have := length_put entCmpM l x
    simp; omega

set_option maxHeartbeats 800000 in
theorem new_T (w : World) (v : Value) (xs : List EntM) (h : SliceOf w v xs) (hs : xs.length ≤ 700000) :
    Calls Try.prog 57 #[v] w fun e w' => ∃ s, e = .returned (.pointer (some ⟨s, 0, none⟩)) ∧ w.heap.size ≤ s ∧ SetAt w' s (xs.foldl (put entCmpM) []) ∧ Below w.heap.size w w' := by
  obtain ⟨a, cap, rfl, hc⟩ := h
  have hB0 : Below w.heap.size w (w.alloc (.cells #[.pointer none] 152)) := (Below.refl _ w).alloc (Nat.le_refl _) _
  have hS0 : SetAt (w.alloc (.cells #[.pointer none] 152)) w.heap.size [] := ⟨.nil, none, heap_alloc_new w _, rfl, rfl, List.Pairwise.nil⟩
  have HS0 := Lib.hid hS0
  clear hS0
  go_enter Try.func57, Try.ntmps57
  go_wp2_with fail
  go_loopg [10] xs.length (fun k i wr => ∃ j : Nat, i = .int .i64 j ∧ j ≤ xs.length ∧ Hid (k = xs.length - j) ∧ Hid (SetAt wr w.heap.size ((xs.take j).foldl (put entCmpM) [])) ∧ Below w.heap.size w wr)
  case atStart => exact ⟨0, rfl, by omega, Lib.hid rfl, HS0, hB0⟩
  case round =>
    obtain ⟨j, rfl, hj, Hk, HS, hB⟩ := hrel
    by_cases hlt : j < xs.length
    · rcases hc with rfl | ⟨b, off, rfl, hel⟩
      · simp at hlt
      · obtain ⟨x, hx⟩ : ∃ x, xs[j]? = some x := ⟨xs[j], by simp [hlt]⟩
        have hm := hel j x hx
        have hm1 := (hel.below hB (World.block_lt_of_cell? w _ hm.1)) j x hx
        have Hx := Lib.hid hx
        clear hx hm
        have hB1 : Below wr.heap.size wr (wr.alloc (.cells #[.int .i64 x.key.id.k, .string x.key.id.t, .int .i64 x.key.id.n, .int .i64 x.key.attr.k, .string x.key.attr.t, .int .i64 x.key.attr.n, .int .i64 x.key.val.k, .string x.key.val.t, .int .i64 x.key.val.n, .bool x.key.acc, .bool x.key.goal, .int .i64 x.key.tag, .int .i64 x.v] 110)) := (Below.refl _ wr).alloc (Nat.le_refl _) _
        have hlen : ((xs.take j).foldl (put entCmpM) []).length ≤ 800000 := by have := putl_length (xs.take j) []; simp at this; omega
        go_wp2_with fail
        refine (put_T _ _ _ x (HS.out.below hB1) hlen).mono ?_
        rintro e w2 ⟨rfl, hS2, hb2⟩
        have HS2 := Lib.hid hS2
        clear hS2
        go_wp2_with fail
        go_roundg (xs.length - (j + 1))
        case measure => rw [Hk.out]; omega
        case rel =>
          refine ⟨j + 1, by go_num, by omega, Lib.hid rfl, Lib.hid ?_, below_but (hB.trans (hB1.mono hB.size)) hb2 (Nat.le_refl _) (Nat.le_trans hB.size hB1.size)⟩
          have e : xs.take (j + 1) = xs.take j ++ [x] := by rw [List.take_add_one, Hx.out]; rfl
          rw [e, List.foldl_append]
          exact HS2.out
    · obtain rfl : j = xs.length := by omega
      have hs' := HS.out
      rw [List.take_length] at hs'
      have HS' := Lib.hid hs'
      clear hs'
      go_wp2_with fail
      go_ret
      exact ⟨w.heap.size, rfl, Nat.le_refl _, HS'.out, hB⟩

end Go.Proofs.Ytfgpkbbbohipcaa.M
