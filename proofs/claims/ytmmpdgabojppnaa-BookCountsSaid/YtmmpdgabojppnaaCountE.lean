/- What Count makes of a list as a sequence. Conditions: the list lies in memory; at most 1000 symbols. -/
import Derived.Test.YtmmpdgabojppnaaTallyE
namespace Go.Proofs.Ytmmpdgabojppnaa.E
open Go Go.RowKit

theorem bookcount_T (w : World) (Bn : Nat) (v : Value) (xs : List SymV) (hB : w.heap[Bn]? = some (.cells #[v] 29 (0, 0))) (hv : S.SliceOf w v xs) (hs : xs.length ≤ 1000) :
    Calls Try.prog 41 #[.func (.func 67) #[] #[.pointer (some ⟨Bn, 0, none⟩)]] w fun e w' => ∃ m s, e = .returned (.pointer (some ⟨m, 0, none⟩)) ∧ w.heap.size ≤ m ∧ w.heap.size ≤ s ∧ MapAt w' m s (xs.foldl count1 []) ∧ Below w.heap.size w w' := by
  go_enter Try.func41, Try.ntmps41
  go_wp2_with fail
  refine (mapnew_T w).mono ?_
  rintro e w1 ⟨m, s, rfl, hm, hs', hM, hB1⟩
  go_wp2_with fail
  refine (tally_T w1 m s Bn v xs hM ((hB1.block _ (lt_of_block hB)).trans hB) (hv.below hB1) hs).mono ?_
  rintro e w2 ⟨⟨u, rfl⟩, hM2, hb2⟩
  go_wp2_with fail
  go_ret
  exact ⟨m, s, rfl, hm, hs', hM2, But.below hB1 hb2 hs' hB1.size⟩

/-- Who is among the entries that one more thing has been counted in. -/
theorem entCmp_zero {x y : EntV} : entCmp x y = 0 ↔ x.key = y.key := S.symCmp_exact x.key y.key

theorem has_key_iff {L : List EntV} {x : EntV} : has entCmp L x = true ↔ ∃ y ∈ L, y.key = x.key := by
  unfold has
  rw [List.any_eq_true]
  constructor
  · rintro ⟨y, hy, h⟩; exact ⟨y, hy, (entCmp_zero.1 (by simpa using h)).symm⟩
  · rintro ⟨y, hy, h⟩; exact ⟨y, hy, by simpa using entCmp_zero.2 h.symm⟩

theorem key_uniq {L : List EntV} (hs : Sorted entCmp L) {y z : EntV} (hy : y ∈ L) (hz : z ∈ L) (h : y.key = z.key) : y = z := by
  induction L with
  | nil => cases hy
  | cons a L ih =>
    obtain ⟨h1, h2⟩ := List.pairwise_cons.1 hs
    rcases List.mem_cons.1 hy with rfl | hy'
    · rcases List.mem_cons.1 hz with rfl | hz
      · rfl
      · have := h1 z hz; rw [entCmp_zero.2 h] at this; omega
    · rcases List.mem_cons.1 hz with hz | hz
      · have := h1 y hy'; rw [hz] at h; rw [entCmp_zero.2 h.symm] at this; omega
      · exact ih h2 hy' hz

theorem valOf_mem {L : List EntV} (hs : Sorted entCmp L) {y : EntV} (hy : y ∈ L) : valOf L y.key = y.v := by
  have hh : has entCmp L ⟨y.key, 0⟩ = true := has_key_iff.2 ⟨y, hy, rfl⟩
  obtain ⟨z, hz, h0⟩ := has_at entCmp_lin L _ hs hh
  have := key_uniq hs hy (List.mem_of_getElem? hz) (entCmp_zero.1 h0)
  subst this
  unfold valOf
  rw [if_pos hh, hz]

theorem valOf_none {L : List EntV} {x : SymV} (h : ∀ y ∈ L, y.key ≠ x) : valOf L x = 0 := by
  have hh : ¬ has entCmp L ⟨x, 0⟩ = true := fun k => by obtain ⟨y, hy, e⟩ := has_key_iff.1 k; exact h y hy e
  unfold valOf; rw [if_neg hh]

theorem mem_drop_key {L : List EntV} (hs : Sorted entCmp L) {x a : EntV} : a ∈ drop entCmp L x ↔ a ∈ L ∧ a.key ≠ x.key := by
  unfold drop
  split
  · rename_i hh
    obtain ⟨y, hy, h0⟩ := has_at entCmp_lin L x hs hh
    have hyk := entCmp_zero.1 h0
    obtain ⟨hi, hg⟩ := List.getElem?_eq_some_iff.1 hy
    generalize pos entCmp L x = i at hi hg
    have e : L = L.take i ++ y :: L.drop (i + 1) := by
      conv => lhs; rw [← List.take_append_drop i L, List.drop_eq_getElem_cons hi, hg]
    have hs' := hs
    rw [e] at hs'
    obtain ⟨-, h2, h3⟩ := List.pairwise_append.1 hs'
    have h4 := (List.pairwise_cons.1 h2).1
    rw [List.eraseIdx_eq_take_drop_succ]
    have ne1 : ∀ b ∈ L.take i, b.key ≠ x.key := fun b hb k => by
      have := h3 b hb y (by simp); rw [entCmp_zero.2 (k.trans hyk)] at this; omega
    have ne2 : ∀ b ∈ L.drop (i + 1), b.key ≠ x.key := fun b hb k => by
      have := h4 b hb; rw [entCmp_zero.2 (hyk.symm.trans k.symm)] at this; omega
    have hm : a ∈ L ↔ a ∈ L.take i ∨ a = y ∨ a ∈ L.drop (i + 1) := by
      conv => lhs; rw [e]
      simp
    rw [hm, List.mem_append]
    constructor
    · rintro (h | h)
      · exact ⟨.inl h, ne1 a h⟩
      · exact ⟨.inr (.inr h), ne2 a h⟩
    · rintro ⟨h | h | h, hn⟩
      · exact .inl h
      · exact absurd (h ▸ hyk.symm) hn
      · exact .inr h
  · rename_i hh
    exact ⟨fun h => ⟨h, fun e => hh (has_key_iff.2 ⟨a, h, e⟩)⟩, fun h => h.1⟩

theorem mem_count1 {L : List EntV} (hs : Sorted entCmp L) {x : SymV} {a : EntV} : a ∈ count1 L x ↔ a = ⟨x, valOf L x + 1⟩ ∨ (a ∈ L ∧ a.key ≠ x) := by
  unfold count1
  have hn : has entCmp (drop entCmp L ⟨x, valOf L x + 1⟩) ⟨x, valOf L x + 1⟩ = false := by
    rw [← Bool.not_eq_true]
    intro h
    obtain ⟨y, hy, e⟩ := has_key_iff.1 h
    exact ((mem_drop_key hs).1 hy).2 e
  rw [put, hn, if_neg (by simp), mem_ins, mem_drop_key hs]

theorem sorted_count1 {L : List EntV} (hs : Sorted entCmp L) (x : SymV) : Sorted entCmp (count1 L x) := sorted_put entCmp_lin _ _ (sorted_drop _ _ hs)

open Classical in
theorem valOf_count1 {L : List EntV} (hs : Sorted entCmp L) (x y : SymV) : valOf (count1 L x) y = valOf L y + (if y = x then 1 else 0) := by
  by_cases h : y = x
  · subst h
    rw [if_pos rfl]
    exact valOf_mem (y := ⟨y, valOf L y + 1⟩) (sorted_count1 hs y) ((mem_count1 hs).2 (.inl rfl))
  · rw [if_neg h, Int.add_zero]
    by_cases hy : ∃ z ∈ L, z.key = y
    · obtain ⟨z, hz, rfl⟩ := hy
      rw [valOf_mem hs hz]
      exact valOf_mem (sorted_count1 hs x) ((mem_count1 hs).2 (.inr ⟨hz, h⟩))
    · rw [valOf_none fun z hz e => hy ⟨z, hz, e⟩]
      refine valOf_none fun z hz e => ?_
      rcases (mem_count1 hs).1 hz with rfl | ⟨hz, hk⟩
      · exact h e.symm
      · exact hy ⟨z, hz, e⟩

end Go.Proofs.Ytmmpdgabojppnaa.E
