/- Tokens written one behind the other, with gaps between them, are read as the same, plainly. Conditions: none. -/
import Derived.Test.YtlnnblfkigcipaaDoorLxPlacePl
import Derived.Test.YtlnnblfkigcipaaDoorRfNumR
namespace Go.Proofs.YtlnnblfkigcipaaDoor
open Go Go.RowKit

theorem blank_cases {c : UInt8} (h : blankC c = true) : c = 32 ∨ c = 9 ∨ c = 10 ∨ c = 13 := by
  simp only [blankC, Bool.or_eq_true, beq_iff_eq] at h
  rcases h with ((h | h) | h) | h
  · exact .inl h
  · exact .inr (.inl h)
  · exact .inr (.inr (.inl h))
  · exact .inr (.inr (.inr h))

theorem sign_alone (r : List UInt8) : (signsL.all fun s => ([32, 9, 10, 13] : List UInt8).all fun c => measL (s ++ c :: r) == (4, s.length)) = true := by kernel_rfl

theorem sign_found : ∀ (ss : List (List UInt8)) (l : List UInt8), signIn ss l ≠ 0 → l.take (signIn ss l) ∈ ss ∧ (l.take (signIn ss l)).length = signIn ss l := by
  intro ss
  induction ss with
  | nil => intro l h; exact absurd rfl h
  | cons s r ih =>
    intro l h
    unfold signIn at h ⊢
    split
    · rename_i hp
      have := List.prefix_iff_eq_take.1 (List.isPrefixOf_iff_prefix.1 hp)
      rw [← this]
      exact ⟨List.mem_cons_self .., rfl⟩
    · rename_i hp
      rw [if_neg hp] at h
      exact ⟨List.mem_cons_of_mem _ (ih l h).1, (ih l h).2⟩

/-- A token that is not Bad is told by its own bytes and a blank behind them. -/
theorem meas_alone (l : List UInt8) (hk : (measL l).1 ≠ 6) (c : UInt8) (hc : blankC c = true) (r : List UInt8) : measL (l.take (measL l).2 ++ c :: r) = measL l := by
  obtain ⟨hi, hd, hs, -⟩ := blank_not c hc
  rcases meas_cases l with ⟨h1, h2, h3⟩ | ⟨h1, h2, h3, h4⟩ | ⟨h1, h2, h3, h4, h5⟩ | ⟨h1, h2, h3, -⟩ | ⟨h1, -⟩
  · cases l with
    | nil => exact absurd rfl h3
    | cons a l' =>
      have ha : smallC a = true := by
        by_cases h : smallC a = true
        · exact h
        · simp [wordN, h] at h3
      have hw : wordN (a :: l') = ((a :: l').takeWhile innC).length := by simp only [wordN, ha, if_true]
      have ht : (a :: l').take (wordN (a :: l')) = (a :: l').takeWhile innC := by rw [hw]; exact (takeWhile_take innC _).symm
      have he : measL (a :: l') = (1, wordN (a :: l')) := by rw [← h1, ← h2]
      rw [h2, ht, he]
      have h5 : ((a :: l').takeWhile innC ++ c :: r) = a :: (l'.takeWhile innC ++ c :: r) := by rw [List.takeWhile_cons, if_pos (small_inn a ha).1]; rfl
      have h6 : wordN ((a :: l').takeWhile innC ++ c :: r) = wordN (a :: l') := by
        rw [h5]
        simp only [wordN, ha, if_true]
        rw [← h5, takeWhile_app innC _ c r List.all_takeWhile hi]
      unfold measL
      rw [h6, if_pos h3]
  · cases l with
    | nil => exact absurd rfl h3
    | cons a l' =>
      obtain ⟨hn, hsm, hcase⟩ := num_shape a l' h3
      have ht : (a :: l').take (numN (a :: l')) = a :: l'.takeWhile digB := by
        rw [hn, Nat.add_comm 1, List.take_succ_cons]
        congr 1
        exact (takeWhile_take digB l').symm
      have hw : ∀ q, wordN (a :: q) = 0 := fun q => by simp [wordN, hsm]
      have hr : (l'.takeWhile digB ++ c :: r).takeWhile digB = l'.takeWhile digB := takeWhile_app digB _ c r List.all_takeWhile hd
      have h6 : numN (a :: (l'.takeWhile digB ++ c :: r)) = numN (a :: l') := by
        rw [hn]
        rcases hcase with h | ⟨-, rfl, d, r', rfl, hd'⟩
        · have h45 : ¬ (a == 45) = true := by
            intro e
            have : a = 45 := by simpa using e
            subst this
            revert h
            decide
          simp only [numN]
          rw [if_neg h45, List.takeWhile_cons, if_pos h, hr]
          simp
          omega
        · simp only [numN]
          rw [if_pos (by rfl), hr, if_neg]
          simp [hd']
      have he : measL (a :: l') = (2, numN (a :: l')) := by rw [← h1, ← h2]
      rw [h2, ht, he]
      unfold measL
      rw [List.cons_append, hw, if_neg (by simp), h6, if_pos h3]
  · obtain ⟨r0, rfl, h6, h7, h8⟩ := var_head h3
    have he : measL (60 :: r0) = (3, varN (60 :: r0)) := by rw [← h1, ← h2]
    rw [h2, he, h7, name_list r0 h6 h8]
    have hw0 : wordN r0 = (r0.takeWhile innC).length ∧ ∃ a q, r0 = a :: q ∧ smallC a = true := by
      cases r0 with
      | nil => exact absurd rfl h6
      | cons a q =>
        have ha : smallC a = true := by
          by_cases h : smallC a = true
          · exact h
          · simp [wordN, h] at h6
        exact ⟨by simp only [wordN, ha, if_true], a, q, rfl, ha⟩
    obtain ⟨hw1, a, q, rfl, ha⟩ := hw0
    have ht : (a :: q).take (wordN (a :: q)) = (a :: q).takeWhile innC := by rw [hw1]; exact (takeWhile_take innC _).symm
    rw [ht]
    have h9 : ((a :: q).takeWhile innC ++ [62]) ++ c :: r = (a :: q).takeWhile innC ++ 62 :: c :: r := by simp
    have h10 : ((a :: q).takeWhile innC ++ 62 :: c :: r) = a :: (q.takeWhile innC ++ 62 :: c :: r) := by rw [List.takeWhile_cons, if_pos (small_inn a ha).1]; rfl
    have h11 : wordN ((a :: q).takeWhile innC ++ 62 :: c :: r) = wordN (a :: q) := by
      rw [hw1, h10]
      simp only [wordN, ha, if_true]
      rw [← h10, takeWhile_app innC _ 62 _ List.all_takeWhile (by rfl)]
    have h12 : ((a :: q).takeWhile innC ++ 62 :: c :: r).drop (wordN (a :: q)) = 62 :: c :: r := by
      rw [hw1, List.drop_left' rfl]
    have h13 : varN (60 :: ((a :: q).takeWhile innC ++ 62 :: c :: r)) = wordN (a :: q) + 2 := by
      simp only [varN, h11, h12]
      simp [h6]
    have h14 : ∀ z, wordN ((60 : UInt8) :: z) = 0 := fun z => rfl
    have h15 : ∀ z, numN ((60 : UInt8) :: z) = 0 := fun z => rfl
    rw [List.cons_append, h9]
    unfold measL
    rw [h14, if_neg (by simp), h15, if_neg (by simp), h13, if_pos (by omega)]
  · have he : measL l = (4, signIn signsL l) := by rw [← h1, ← h2]
    obtain ⟨h5, h6⟩ := sign_found signsL l h3
    rw [h2, he]
    have h7 := List.all_eq_true.1 (sign_alone r) _ h5
    have h8 : c ∈ ([32, 9, 10, 13] : List UInt8) := by rcases blank_cases hc with h | h | h | h <;> simp [h]
    have h9 := List.all_eq_true.1 h7 c h8
    rw [h6] at h9
    exact eq_of_beq h9
  · exact absurd h1 hk

/-- A token that stands alone: its bytes and a blank are read as it. -/
def Alone (x : SymV) : Prop := x.k ≠ 6 ∧ (∃ a q, (textV x).data.toList = a :: q ∧ blankC a = false ∧ a ≠ 35) ∧
  ∀ (c : UInt8) (r : List UInt8) (p : Nat), blankC c = true → tokL ((textV x).data.toList ++ c :: r) p = ⟨x.k, x.t, p⟩ ∧ (measL ((textV x).data.toList ++ c :: r)).2 = (textV x).data.toList.length

theorem tok_alone (l : List UInt8) (p : Nat) (a : UInt8) (q : List UInt8) (hl : l = a :: q) (hb : blankC a = false) (h35 : a ≠ 35) (hk : (tokL l p).k ≠ 6) : Alone (tokL l p) := by
  have hml := meas_le l (by rw [hl]; simp)
  have hmp := meas_pos l
  have htl : (textV (tokL l p)).data.toList = l.take (measL l).2 := by rw [tok_text]; simp [wholeL]
  have hk1 : (measL l).1 ≠ 6 := by
    intro h
    apply hk
    unfold tokL
    repeat' split
    all_goals first | rfl | (simp_all; done) | omega
  refine ⟨hk, ?_, fun c r p' hc => ?_⟩
  · refine ⟨a, q.take ((measL l).2 - 1), ?_, hb, h35⟩
    rw [htl]
    obtain ⟨m, hm⟩ : ∃ m, (measL l).2 = m + 1 := ⟨(measL l).2 - 1, by omega⟩
    rw [hm, hl]
    rfl
  · rw [htl]
    have he := meas_alone l hk1 c hc r
    have hlen : (l.take (measL l).2).length = (measL l).2 := by rw [List.length_take]; omega
    have hw : wholeL (l.take (measL l).2 ++ c :: r) (measL l).2 = wholeL l (measL l).2 := by
      simp only [wholeL]
      rw [List.take_append_of_le_length (by omega), List.take_take, Nat.min_self]
    have hn : nameL (l.take (measL l).2 ++ c :: r) (measL l).2 = nameL l (measL l).2 := by
      simp only [nameL]
      rw [List.take_append_of_le_length (by omega), List.take_take, Nat.min_eq_left (by omega)]
    have ho : okL (measL l).1 (l.take (measL l).2 ++ c :: r) (measL l).2 = okL (measL l).1 l (measL l).2 := by unfold okL; rw [hw]
    refine ⟨?_, by rw [he, hlen]⟩
    unfold tokL
    rw [he, hw, hn, ho]
    repeat' split
    all_goals rfl

/-- Gaps between tokens. -/
def Gap (g : List UInt8) : Prop := (∃ c g', g = c :: g' ∧ blankC c = true) ∧ ∀ r, skipM false (g ++ r) = skipM false r

theorem toks_same (N f : Nat) (l l' : List UInt8) (h : skipM false l = skipM false l') : toks N (f + 1) l = toks N (f + 1) l' := by
  conv => lhs; unfold toks
  conv => rhs; unfold toks
  rw [h]

def flatG (ps : List (SymV × List UInt8)) : List UInt8 := ps.flatMap fun p => (textV p.1).data.toList ++ p.2

theorem flat_toks (N : Nat) : ∀ (ps : List (SymV × List UInt8)), (∀ p ∈ ps, Alone p.1 ∧ Gap p.2) → ∀ f, (flatG ps).length < f →
    ∃ ys, toks N f (flatG ps) = ys ++ [⟨5, ⟨#[]⟩, N⟩] ∧ ys.map (fun y => (y.k, y.t)) = ps.map (fun p => (p.1.k, p.1.t)) := by
  intro ps
  induction ps with
  | nil =>
    intro _ f hf
    cases f with
    | zero => simp at hf
    | succ f => exact ⟨[], toks_end N f _ rfl, rfl⟩
  | cons p ps ih =>
    intro hall f hf
    obtain ⟨⟨hk, ⟨a, q, ha, hb, h35⟩, hal⟩, ⟨c, g', hg, hc⟩, hskip⟩ := hall p (List.mem_cons_self ..)
    have he : flatG (p :: ps) = (textV p.1).data.toList ++ c :: (g' ++ flatG ps) := by simp [flatG, hg]
    have hs : skipM false (flatG (p :: ps)) = flatG (p :: ps) := by
      rw [he, ha]
      exact skip_stop hb h35
    have hne : flatG (p :: ps) ≠ [] := by rw [he, ha]; simp
    cases f with
    | zero => simp at hf
    | succ f =>
      obtain ⟨h1, h2⟩ := hal c (g' ++ flatG ps) (N - (flatG (p :: ps)).length) hc
      rw [← he] at h1 h2
      have h3 := toks_more N f (flatG (p :: ps)) hf (by rw [hs]; exact hne) (by rw [hs, h1]; exact hk)
      rw [hs, h1, h2] at h3
      have h4 : (flatG (p :: ps)).drop (textV p.1).data.toList.length = p.2 ++ flatG ps := by rw [he, List.drop_left' rfl, hg]; rfl
      rw [h4] at h3
      have h5 := toks_same N (p.2 ++ flatG ps).length (p.2 ++ flatG ps) (flatG ps) (hskip _)
      obtain ⟨ys, h6, h7⟩ := ih (fun p' hp' => hall p' (List.mem_cons_of_mem _ hp')) ((p.2 ++ flatG ps).length + 1) (by simp; omega)
      exact ⟨⟨p.1.k, p.1.t, _⟩ :: ys, by rw [h3, h5, h6]; rfl, by simp [h7]⟩

/-- The tokens ahead of the last stand alone. -/
theorem toks_alone (N : Nat) : ∀ (f : Nat) (l : List UInt8) (ys : List SymV) (z : SymV), toks N f l = ys ++ [z] → z.k = 5 → ∀ y ∈ ys, Alone y := by
  intro f
  induction f with
  | zero => intro l ys z h; simp [toks] at h
  | succ f ih =>
    intro l ys z h hz
    unfold toks at h
    split at h
    · cases ys with
      | nil => intro y hy; cases hy
      | cons a ys => simp at h
    · rename_i hne
      split at h
      · rename_i h6
        cases ys with
        | nil =>
          simp only [List.nil_append, List.cons.injEq, and_true] at h
          rw [h, hz] at h6
          cases h6
        | cons a ys => simp at h
      · rename_i h6
        cases ys with
        | nil =>
          simp only [List.nil_append, List.cons.injEq] at h
          have := tok_kind (skipM false l) (N - (skipM false l).length)
          rw [h.1] at this
          exact absurd hz this
        | cons a ys =>
          simp only [List.cons_append, List.cons.injEq] at h
          obtain ⟨h1, h2⟩ := h
          intro y hy
          rcases List.mem_cons.1 hy with rfl | hy
          · obtain ⟨c, r, hc⟩ : ∃ c r, skipM false l = c :: r := by
              cases hs : skipM false l with
              | nil => exact absurd hs hne
              | cons c r => exact ⟨c, r, rfl⟩
            obtain ⟨h3, h4⟩ := skip_head l false c r hc
            rw [← h1]
            exact tok_alone _ _ c r hc h3 h4 h6
          · exact ih _ ys z h2 hz y hy

theorem toks_sum (N : Nat) : ∀ (f : Nat) (l : List UInt8), ((toks N f l).map fun x => (textV x).size).sum ≤ l.length := by
  intro f
  induction f with
  | zero => intro l; simp [toks]
  | succ f ih =>
    intro l
    unfold toks
    split
    · exact Nat.zero_le _
    · rename_i hne
      have h1 := skip_le false l
      have hml := meas_le _ hne
      have h2 : (textV (tokL (skipM false l) (N - (skipM false l).length))).size = (measL (skipM false l)).2 := by rw [tok_text]; exact whole_size _ _ hml
      rw [List.map_cons, List.sum_cons, h2]
      split
      · simp; omega
      · have := ih ((skipM false l).drop (measL (skipM false l)).2)
        rw [List.length_drop] at this
        omega

end Go.Proofs.YtlnnblfkigcipaaDoor
