/- What is in a map by letters once a key has a value. Conditions: its entries are in order. -/
import Derived.Test.YtimeamehmefgnaaDoorMapCC
namespace Go.Proofs.YtimeamehmefgnaaDoor.C
open Go Go.RowKit

theorem entCmpC_zero {x y : EntC} : entCmpC x y = 0 ↔ x.key = y.key := icmp_zero

theorem has_key_iff {L : List EntC} {x : EntC} : has entCmpC L x = true ↔ ∃ y ∈ L, y.key = x.key := by
  unfold has
  rw [List.any_eq_true]
  constructor
  · rintro ⟨y, hy, h⟩; exact ⟨y, hy, (entCmpC_zero.1 (by simpa using h)).symm⟩
  · rintro ⟨y, hy, h⟩; exact ⟨y, hy, by simpa using entCmpC_zero.2 h.symm⟩

theorem key_uniq {L : List EntC} (hs : Sorted entCmpC L) {y z : EntC} (hy : y ∈ L) (hz : z ∈ L) (h : y.key = z.key) : y = z := by
  induction L with
  | nil => cases hy
  | cons a L ih =>
    obtain ⟨h1, h2⟩ := List.pairwise_cons.1 hs
    rcases List.mem_cons.1 hy with rfl | hy'
    · rcases List.mem_cons.1 hz with rfl | hz
      · rfl
      · have := h1 z hz; rw [entCmpC_zero.2 h] at this; omega
    · rcases List.mem_cons.1 hz with hz | hz
      · have := h1 y hy'; rw [hz] at h; rw [entCmpC_zero.2 h.symm] at this; omega
      · exact ih h2 hy' hz

theorem valOf_mem {L : List EntC} (hs : Sorted entCmpC L) {y : EntC} (hy : y ∈ L) : valOf L y.key = y.v := by
  unfold valOf
  cases hf : L.find? (fun z => z.key == y.key) with
  | none => have := List.find?_eq_none.1 hf y hy; simp at this
  | some z =>
    have hz := List.find?_some hf
    simp only [beq_iff_eq] at hz
    rw [key_uniq hs hy (List.mem_of_find?_eq_some hf) hz.symm]

theorem valOf_none {L : List EntC} {x : Int} (h : ∀ y ∈ L, y.key ≠ x) : valOf L x = 0 := by
  unfold valOf
  cases hf : L.find? (fun z => z.key == x) with
  | none => rfl
  | some z =>
    have hz := List.find?_some hf
    simp only [beq_iff_eq] at hz
    exact absurd hz (h z (List.mem_of_find?_eq_some hf))

theorem mem_drop_key {L : List EntC} (hs : Sorted entCmpC L) {x a : EntC} : a ∈ drop entCmpC L x ↔ a ∈ L ∧ a.key ≠ x.key := by
  unfold drop
  split
  · rename_i hh
    obtain ⟨y, hy, h0⟩ := has_at entCmpC_lin L x hs hh
    have hyk := entCmpC_zero.1 h0
    obtain ⟨hi, hg⟩ := List.getElem?_eq_some_iff.1 hy
    generalize pos entCmpC L x = i at hi hg
    have e : L = L.take i ++ y :: L.drop (i + 1) := by
      conv => lhs; rw [← List.take_append_drop i L, List.drop_eq_getElem_cons hi, hg]
    have hs' := hs
    rw [e] at hs'
    obtain ⟨-, h2, h3⟩ := List.pairwise_append.1 hs'
    have h4 := (List.pairwise_cons.1 h2).1
    rw [List.eraseIdx_eq_take_drop_succ]
    have ne1 : ∀ b ∈ L.take i, b.key ≠ x.key := fun b hb k => by
      have := h3 b hb y (by simp); rw [entCmpC_zero.2 (k.trans hyk)] at this; omega
    have ne2 : ∀ b ∈ L.drop (i + 1), b.key ≠ x.key := fun b hb k => by
      have := h4 b hb; rw [entCmpC_zero.2 (hyk.symm.trans k.symm)] at this; omega
    have hm : a ∈ L ↔ a ∈ L.take i ∨ a = y ∨ a ∈ L.drop (i + 1) := by
      conv => lhs; rw [e]
      simp
    rw [hm, List.mem_append]
    constructor
    · rintro (h | h)
      · exact ⟨.inl h, ne1 a h⟩
      · exact ⟨.inr (.inr h), ne2 a h⟩
    · rintro ⟨h | h | h, hn⟩
      · exact .inl h
      · exact absurd (h ▸ hyk.symm) hn
      · exact .inr h
  · rename_i hh
    exact ⟨fun h => ⟨h, fun e => hh (has_key_iff.2 ⟨a, h, e⟩)⟩, fun h => h.1⟩

/-- The entries once a key has a value. -/
abbrev putC (L : List EntC) (x : EntC) : List EntC := put entCmpC (drop entCmpC L x) x

theorem mem_putC {L : List EntC} (hs : Sorted entCmpC L) {x a : EntC} : a ∈ putC L x ↔ a = x ∨ (a ∈ L ∧ a.key ≠ x.key) := by
  have hn : has entCmpC (drop entCmpC L x) x = false := by
    rw [← Bool.not_eq_true]
    intro h
    obtain ⟨y, hy, e⟩ := has_key_iff.1 h
    exact ((mem_drop_key hs).1 hy).2 e
  unfold putC
  rw [put, hn, if_neg (by simp), mem_ins, mem_drop_key hs]

theorem sorted_putC {L : List EntC} (hs : Sorted entCmpC L) (x : EntC) : Sorted entCmpC (putC L x) := sorted_put entCmpC_lin _ _ (sorted_drop _ _ hs)

theorem length_putC (L : List EntC) (x : EntC) : (putC L x).length ≤ L.length + 1 := by
  have h1 := length_drop entCmpC L x
  have h2 := length_put entCmpC (drop entCmpC L x) x
  unfold putC
  omega

theorem valOf_putC {L : List EntC} (hs : Sorted entCmpC L) (x : EntC) (k : Int) : valOf (putC L x) k = if k = x.key then x.v else valOf L k := by
  have hso := sorted_putC hs x
  split
  · rename_i h
    subst h
    exact valOf_mem hso ((mem_putC hs).2 (.inl rfl))
  · rename_i h
    by_cases hk : ∃ y ∈ L, y.key = k
    · obtain ⟨y, hy, rfl⟩ := hk
      rw [valOf_mem hs hy]
      exact valOf_mem hso ((mem_putC hs).2 (.inr ⟨hy, h⟩))
    · rw [valOf_none (fun y hy e => hk ⟨y, hy, e⟩), valOf_none]
      intro y hy e
      rcases (mem_putC hs).1 hy with rfl | ⟨hy, -⟩
      · exact h e.symm
      · exact hk ⟨y, hy, e⟩

end Go.Proofs.YtimeamehmefgnaaDoor.C
