/- Parts of slices of keys and values, and what Syms tells of them. Conditions: none. -/
import Derived.Test.YtbpibbcehfkeeaaBookKit
import Derived.Test.YtbpibbcehfkeeaaPlainDropS
namespace Go.Proofs.Ytbpibbcehfkeeaa
open Go Go.RowKit Go.Shelf Go.Lib

theorem symsT (w : World) (v u : Value) (xs : List SymV) (h : S.SliceOf w v xs) (h' : S.SliceOf w u xs) (hs : xs.length ≤ 1000000) :
    Calls Try.prog 22 #[v, u] w fun e w' => e = .returned (.bool true) ∧ Below w.heap.size w w' := by
  refine (S.syms_T w v u xs xs h h' hs hs).mono ?_
  rintro e w' ⟨⟨b, rfl, hb⟩, hB⟩
  obtain rfl : b = true := hb.2 rfl
  exact ⟨rfl, hB⟩

theorem slice_take {w : World} {a : Option Addr} {c n : Nat} {L : List EntV} (h : S.SliceOf w (.slice a L.length c) (S.keysL L)) (hn : n ≤ L.length) : S.SliceOf w (.slice a n c) (S.keysL (L.take n)) := by
  obtain ⟨a', c', e, hc⟩ := h
  obtain ⟨rfl, rfl⟩ : a = a' ∧ c = c' := by simpa using e
  refine ⟨a, c, by simp [Nat.min_eq_left hn], ?_⟩
  rcases hc with h | ⟨b, off, rfl, hel⟩
  · exact .inl (by simp at h; simp [h])
  · exact .inr ⟨b, off, rfl, by rw [S.keysL, List.map_take]; exact hel.take n⟩

theorem slice_drop {w : World} {a : Option Addr} {c j : Nat} {L : List EntV} (h : S.SliceOf w (.slice a L.length c) (S.keysL L)) (hc : L.length ≤ c) : S.SliceOf w (.slice (if c = j then a else a.map (·.add (j * 3))) (L.length - j) (c - j)) (S.keysL (L.drop j)) := by
  obtain ⟨a', c', e, hh⟩ := h
  obtain ⟨rfl, rfl⟩ : a = a' ∧ c = c' := by simpa using e
  refine ⟨(if c = j then a else a.map (·.add (j * 3))), c - j, by simp, ?_⟩
  by_cases e : c = j
  · exact .inl (by rw [List.drop_of_length_le (by omega)]; rfl)
  · rw [if_neg e]
    rcases hh with h | ⟨b, off, rfl, hel⟩
    · exact .inl (by simp at h; simp [h])
    · exact .inr ⟨b, off + j * 3, by simp [Addr.add], by rw [S.keysL, List.map_drop]; exact hel.drop j⟩

theorem ints_take {w : World} {a : Option Addr} {c n : Nat} {L : List EntV} (h : IntsAt w (.slice a L.length c) (S.valsL L)) (hn : n ≤ L.length) : IntsAt w (.slice a n c) (S.valsL (L.take n)) := by
  obtain ⟨a', c', e, hh⟩ := h
  obtain ⟨rfl, rfl⟩ : a = a' ∧ c = c' := by simpa using e
  refine ⟨a, c, by simp [Nat.min_eq_left hn], fun i z hz => hh i z ?_⟩
  rw [S.valsL, List.map_take, List.getElem?_take] at hz
  split at hz
  · exact hz
  · cases hz

theorem ints_drop {w : World} {a : Option Addr} {c j : Nat} {L : List EntV} (h : IntsAt w (.slice a L.length c) (S.valsL L)) (hc : L.length ≤ c) : IntsAt w (.slice (if c = j then a else a.map (·.add j)) (L.length - j) (c - j)) (S.valsL (L.drop j)) := by
  obtain ⟨a', c', e, hh⟩ := h
  obtain ⟨rfl, rfl⟩ : a = a' ∧ c = c' := by simpa using e
  refine ⟨(if c = j then a else a.map (·.add j)), c - j, by simp, fun i z hz => ?_⟩
  rw [S.valsL, List.map_drop, List.getElem?_drop] at hz
  have hl := (List.getElem?_eq_some_iff.1 hz).1
  simp at hl
  rw [if_neg (by omega)]
  obtain ⟨b, off, rfl, hcell⟩ := hh _ z hz
  refine ⟨b, off + j, by simp [Addr.add], ?_⟩
  rw [Nat.add_assoc]
  exact hcell

end Go.Proofs.Ytbpibbcehfkeeaa
