/- Where a text's tokens stand, plainly. Conditions: none. -/
import Derived.Test.YtlnnblfkigcipaaDoorLxWakesK
namespace Go.Proofs.YtlnnblfkigcipaaDoor
open Go Go.RowKit

/-- A token as it is written. -/
def textV (x : SymV) : ByteArray := if x.k = 3 then ⟨#[60]⟩ ++ x.t ++ ⟨#[62]⟩ else x.t

theorem name_list (r : List UInt8) (h0 : wordN r ≠ 0) (hh : (r.drop (wordN r)).head? = some 62) : (60 :: r).take (wordN r + 2) = 60 :: (r.take (wordN r) ++ [62]) := by
  obtain ⟨d, hd⟩ : ∃ d, r.drop (wordN r) = 62 :: d := by
    cases hc : r.drop (wordN r) with
    | nil => rw [hc] at hh; cases hh
    | cons a d => rw [hc] at hh; cases hh; exact ⟨d, rfl⟩
  rw [List.take_succ_cons]
  congr 1
  rw [List.take_add, hd]
  rfl

/-- What a token's text is made of. -/
theorem tok_text (l : List UInt8) (p : Nat) : textV (tokL l p) = wholeL l (measL l).2 := by
  unfold tokL
  by_cases ho : okL (measL l).1 l (measL l).2 = true
  · rw [if_pos ho]
    by_cases h3 : (measL l).1 = 3
    · rw [if_pos h3]
      rcases meas_cases l with ⟨h, -⟩ | ⟨h, -⟩ | ⟨-, h2, h4, -⟩ | ⟨h, -⟩ | ⟨h, -⟩
      · omega
      · omega
      · obtain ⟨r, rfl, h5, h6, h7⟩ := var_head h4
        unfold textV
        rw [if_pos rfl, h2, h6]
        refine str_ext' ?_
        have e1 : (nameL (60 :: r) (wordN r + 2)).data.toList = r.take (wordN r) := by simp [nameL]
        have e2 : (wholeL (60 :: r) (wordN r + 2)).data.toList = (60 :: r).take (wordN r + 2) := by simp [wholeL]
        rw [e2, name_list r h5 h7, cat_list, cat_list, e1]
        rfl
      · omega
      · omega
    · rw [if_neg h3]
      unfold textV
      exact if_neg h3
  · rw [if_neg ho]
    unfold textV
    exact if_neg (show ¬ (6 : Int) = 3 by decide)

theorem tok_n (l : List UInt8) (p : Nat) : (tokL l p).n = p := by
  unfold tokL
  repeat' split
  all_goals rfl

/-- One step of a text's places. -/
theorem place_step (t : ByteArray) (p : Nat) (hp : p ≤ t.size) : ∃ (x : SymV) (tl : List SymV) (q : Nat) (ww : ByteArray),
    toks t.size ((t.data.toList.drop p).length + 1) (t.data.toList.drop p) = x :: tl ∧ x.n = (q : Int) ∧ p ≤ q ∧ q + ww.size ≤ t.size ∧ t.extract q (q + ww.size) = ww ∧ skipM false (t.extract p q).data.toList = [] ∧
    (x.k = 5 → ww = ⟨#[]⟩) ∧ (x.k ≠ 5 → ww = textV x) ∧ (((x.k = 5 ∨ x.k = 6) ∧ tl = []) ∨ (x.k ≠ 5 ∧ x.k ≠ 6 ∧ tl = toks t.size ((t.data.toList.drop (q + ww.size)).length + 1) (t.data.toList.drop (q + ww.size)))) := by
  obtain ⟨k, h1, h2, h3⟩ := skip_suffix (t.data.toList.drop p) false
  have hl : (t.data.toList.drop p).length = t.size - p := by rw [List.length_drop, ← size_list]
  rw [hl] at h1
  have he : (t.extract p (p + k)).data.toList = (t.data.toList.drop p).take k := by rw [Lib.extract_data]; congr 1; omega
  have hkk : (skipM false (t.data.toList.drop p)).length = t.size - p - k := by rw [h2, List.length_drop, hl]
  by_cases hq : skipM false (t.data.toList.drop p) = []
  · have hk : p + k = t.size := by rw [hq] at hkk; simp at hkk; omega
    refine ⟨⟨5, ⟨#[]⟩, t.size⟩, [], p + k, ⟨#[]⟩, toks_end _ _ _ hq, by rw [hk], by omega, by rw [hk]; exact Nat.le_refl _, ?_, by rw [he]; exact h3, fun _ => rfl, fun h => absurd rfl h, .inl ⟨.inl rfl, rfl⟩⟩
    refine str_ext' ?_
    rw [Lib.extract_data, show p + k + (⟨#[]⟩ : ByteArray).size - (p + k) = 0 from Nat.sub_self _]
    rfl
  · have hN : t.size - (skipM false (t.data.toList.drop p)).length = p + k := by
      have := List.length_pos_iff.2 hq
      omega
    have hqd : skipM false (t.data.toList.drop p) = t.data.toList.drop (p + k) := by rw [h2, List.drop_drop]
    have hml := meas_le _ hq
    have hws := whole_size (skipM false (t.data.toList.drop p)) _ hml
    have htt := tok_text (skipM false (t.data.toList.drop p)) (p + k)
    have hsz : (textV (tokL (skipM false (t.data.toList.drop p)) (p + k))).size = (measL (skipM false (t.data.toList.drop p))).2 := by rw [htt, hws]
    have hwh : t.extract (p + k) (p + k + (measL (skipM false (t.data.toList.drop p))).2) = textV (tokL (skipM false (t.data.toList.drop p)) (p + k)) := by rw [htt, whole_eq, ← hqd]
    have k5 := tok_kind (skipM false (t.data.toList.drop p)) (p + k)
    by_cases h6 : (tokL (skipM false (t.data.toList.drop p)) (p + k)).k = 6
    · refine ⟨tokL (skipM false (t.data.toList.drop p)) (p + k), [], p + k, textV (tokL (skipM false (t.data.toList.drop p)) (p + k)), ?_, tok_n _ _, by omega, by rw [hsz]; omega, by rw [hsz]; exact hwh, by rw [he]; exact h3, fun h => absurd h k5, fun _ => rfl, .inl ⟨.inr h6, rfl⟩⟩
      have := toks_bad t.size (t.data.toList.drop p).length (t.data.toList.drop p) hq (by rw [hN]; exact h6)
      rw [hN] at this
      exact this
    · refine ⟨tokL (skipM false (t.data.toList.drop p)) (p + k), _, p + k, textV (tokL (skipM false (t.data.toList.drop p)) (p + k)), ?_, tok_n _ _, by omega, by rw [hsz]; omega, by rw [hsz]; exact hwh, by rw [he]; exact h3, fun h => absurd h k5, fun _ => rfl, .inr ⟨k5, h6, rfl⟩⟩
      have := toks_more t.size (t.data.toList.drop p).length (t.data.toList.drop p) (by omega) hq (by rw [hN]; exact h6)
      rw [hN] at this
      rw [this, hsz]
      have e : (skipM false (t.data.toList.drop p)).drop (measL (skipM false (t.data.toList.drop p))).2 = t.data.toList.drop (p + k + (measL (skipM false (t.data.toList.drop p))).2) := by
        conv => lhs; rw [hqd]
        rw [List.drop_drop]
        rw [← hqd]
      rw [e]

end Go.Proofs.YtlnnblfkigcipaaDoor
