/- One step through a text's tokens. Conditions: the text is not too long; the tables lie as the program lays them. -/
import Derived.Test.YtlnnblfkigcipaaDoorLxNextK
namespace Go.Proofs.YtlnnblfkigcipaaDoor
open Go Go.RowKit

theorem next_step (t : ByteArray) (hm : t.size ≤ 100000) (i : Nat) (hi : i ≤ t.size) : ∃ (x : SymV) (i' : Nat),
    (∀ w, EnvX w → Calls Tryd.prog 22 #[.string t, .int .i64 i] w fun e w' => e = .returned (.tuple #[.agg #[.int .i64 x.k, .string x.t, .int .i64 x.n], .int .i64 i']) ∧ Below w.heap.size w w') ∧
    (((x.k = 5 ∨ x.k = 6) ∧ toks t.size ((t.data.toList.drop i).length + 1) (t.data.toList.drop i) = [x]) ∨
     (x.k ≠ 5 ∧ x.k ≠ 6 ∧ i < i' ∧ i' ≤ t.size ∧ toks t.size ((t.data.toList.drop i).length + 1) (t.data.toList.drop i) = x :: toks t.size ((t.data.toList.drop i').length + 1) (t.data.toList.drop i'))) := by
  by_cases hq : skipM false (t.data.toList.drop i) = []
  · exact ⟨⟨5, ⟨#[]⟩, t.size⟩, t.size, fun w hE => next_end w t i hm hi hE hq, .inl ⟨.inl rfl, toks_end _ _ _ hq⟩⟩
  · have hdl : (t.data.toList.drop i).length = t.size - i := by rw [List.length_drop, ← size_list]
    have hl1 := skip_le false (t.data.toList.drop i)
    have hl0 : 0 < (skipM false (t.data.toList.drop i)).length := List.length_pos_iff.2 hq
    have hqd : t.data.toList.drop (t.size - (skipM false (t.data.toList.drop i)).length) = skipM false (t.data.toList.drop i) := by
      have := skip_drop false (t.data.toList.drop i)
      rw [List.drop_drop, hdl] at this
      rw [show t.size - (skipM false (t.data.toList.drop i)).length = i + (t.size - i - (skipM false (t.data.toList.drop i)).length) by omega]
      exact this.symm
    have hmp := meas_pos (skipM false (t.data.toList.drop i))
    have hml := meas_le _ hq
    refine ⟨tokL (skipM false (t.data.toList.drop i)) (t.size - (skipM false (t.data.toList.drop i)).length), t.size - (skipM false (t.data.toList.drop i)).length + (measL (skipM false (t.data.toList.drop i))).2,
      fun w hE => next_tok w t i _ _ _ _ hm hi hE rfl rfl (by omega) hqd rfl rfl hmp (by omega) (fun h3 => ?_), ?_⟩
    · rcases meas_cases (skipM false (t.data.toList.drop i)) with ⟨h1, -⟩ | ⟨h1, -⟩ | ⟨-, h2, h4, -⟩ | ⟨h1, -⟩ | ⟨h1, -⟩
      · omega
      · omega
      · obtain ⟨r, -, -, h5, -⟩ := var_head h4
        omega
      · omega
      · omega
    · by_cases hk : (tokL (skipM false (t.data.toList.drop i)) (t.size - (skipM false (t.data.toList.drop i)).length)).k = 6
      · exact .inl ⟨.inr hk, toks_bad _ _ _ hq hk⟩
      · refine .inr ⟨tok_kind _ _, hk, by omega, by omega, ?_⟩
        rw [toks_more _ _ _ (by omega) hq hk]
        have e : (skipM false (t.data.toList.drop i)).drop (measL (skipM false (t.data.toList.drop i))).2 = t.data.toList.drop (t.size - (skipM false (t.data.toList.drop i)).length + (measL (skipM false (t.data.toList.drop i))).2) := by
          conv => lhs; rw [← hqd]
          rw [List.drop_drop]
          rw [hqd]
        rw [e]

end Go.Proofs.YtlnnblfkigcipaaDoor
