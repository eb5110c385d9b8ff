/- A text behind one that ends in a line's end has its tokens behind the other's, plainly. Conditions: none. -/
import Derived.Test.YtlnnblfkigcipaaDoorLxWakesK
namespace Go.Proofs.YtlnnblfkigcipaaDoor
open Go Go.RowKit

theorem tw_local (p : UInt8 → Bool) (m : List UInt8) (c : UInt8) (r : List UInt8) (hc : p c = false) : (m ++ c :: r).takeWhile p = m.takeWhile p := by
  induction m with
  | nil => simp [hc]
  | cons a m ih => by_cases ha : p a = true <;> simp [ha, ih]

theorem prefix_local (c : UInt8) (hc : blankC c = true) (r1 r2 : List UInt8) : ∀ (s m : List UInt8), (s.all fun d => !blankC d) = true → s.isPrefixOf (m ++ c :: r1) = s.isPrefixOf (m ++ c :: r2) := by
  intro s
  induction s with
  | nil => intro m _; rfl
  | cons d s ih =>
    intro m hs
    simp only [List.all_cons, Bool.and_eq_true] at hs
    cases m with
    | nil =>
      have : (d == c) = false := by
        cases h : d == c
        · rfl
        · have e : d = c := by simpa using h
          rw [e, hc] at hs
          exact absurd hs.1 (by decide)
      simp [List.isPrefixOf, this]
    | cons e m => simp only [List.cons_append, List.isPrefixOf, ih m hs.2]

theorem sign_local (c : UInt8) (hc : blankC c = true) (r1 r2 m : List UInt8) : ∀ (ss : List (List UInt8)), (ss.all fun s => s.all fun d => !blankC d) = true → signIn ss (m ++ c :: r1) = signIn ss (m ++ c :: r2) := by
  intro ss
  induction ss with
  | nil => intro _; rfl
  | cons s ss ih =>
    intro h
    simp only [List.all_cons, Bool.and_eq_true] at h
    unfold signIn
    rw [prefix_local c hc r1 r2 s m h.1, ih h.2]

theorem word_local (c : UInt8) (hc : blankC c = true) (r1 r2 m : List UInt8) : wordN (m ++ c :: r1) = wordN (m ++ c :: r2) := by
  obtain ⟨hi, -, hs, -⟩ := blank_not c hc
  cases m with
  | nil => simp [wordN, hs]
  | cons a m =>
    simp only [List.cons_append, wordN]
    rw [← List.cons_append, ← List.cons_append, tw_local innC _ c r1 hi, tw_local innC _ c r2 hi]

theorem meas_local (c : UInt8) (hc : blankC c = true) (r1 r2 m : List UInt8) : measL (m ++ c :: r1) = measL (m ++ c :: r2) := by
  obtain ⟨hi, hd, hs, -⟩ := blank_not c hc
  have h1 := word_local c hc r1 r2 m
  have h2 : numN (m ++ c :: r1) = numN (m ++ c :: r2) := by
    cases m with
    | nil =>
      have h45 : ¬ (c == 45) = true := by
        intro h
        have : c = 45 := by simpa using h
        subst this
        revert hc
        decide
      simp only [List.nil_append, numN]
      rw [if_neg h45, if_neg h45, List.takeWhile_cons, List.takeWhile_cons, hd]
      rfl
    | cons a m =>
      simp only [List.cons_append, numN]
      rw [tw_local digB m c r1 hd, tw_local digB m c r2 hd, ← List.cons_append, ← List.cons_append, tw_local digB _ c r1 hd, tw_local digB _ c r2 hd]
  have h3 : varN (m ++ c :: r1) = varN (m ++ c :: r2) := by
    cases m with
    | nil =>
      have h60 : (c == 60) = false := by
        cases h : c == 60
        · rfl
        · have : c = 60 := by simpa using h
          subst this
          revert hc
          decide
      simp [varN, h60]
    | cons a m =>
      simp only [List.cons_append, varN]
      have hw := word_local c hc r1 r2 m
      rw [hw]
      have hle : wordN (m ++ c :: r2) ≤ m.length := by
        cases m with
        | nil => simp [wordN, hs]
        | cons b m =>
          simp only [List.cons_append, wordN]
          split
          · rw [← List.cons_append, tw_local innC _ c r2 hi]
            exact takeWhile_le _ _
          · exact Nat.zero_le _
      have hh : ∀ r, ((m ++ c :: r).drop (wordN (m ++ c :: r2))).head? = (m ++ [c])[wordN (m ++ c :: r2)]? := by
        intro r
        rw [List.head?_drop]
        by_cases h : wordN (m ++ c :: r2) < m.length
        · rw [List.getElem?_append_left h, List.getElem?_append_left h]
        · have e : wordN (m ++ c :: r2) = m.length := by omega
          rw [e, List.getElem?_append_right (Nat.le_refl _), List.getElem?_append_right (Nat.le_refl _)]
          simp
      rw [hh r1, hh r2]
  have h4 := sign_local c hc r1 r2 m signsL (by decide)
  unfold measL
  rw [h1, h2, h3, h4]

/-- Empty, or ended by a line's end. -/
def Ends (l : List UInt8) : Prop := l = [] ∨ ∃ m, l = m ++ [10]

theorem Ends.tail {c : UInt8} {r : List UInt8} (h : Ends (c :: r)) : Ends r ∧ (r = [] → c = 10) := by
  rcases h with h | ⟨m, h⟩
  · cases h
  · cases m with
    | nil => simp at h; exact ⟨.inl h.2, fun _ => h.1⟩
    | cons a m => simp at h; exact ⟨.inr ⟨m, h.2⟩, fun e => by rw [e] at h; simp at h⟩

theorem Ends.drop {l : List UInt8} (h : Ends l) (k : Nat) : Ends (l.drop k) := by
  induction k generalizing l with
  | zero => exact h
  | succ k ih =>
    cases l with
    | nil => exact .inl rfl
    | cons a l => exact ih h.tail.1

theorem skip_app (B : List UInt8) : ∀ (l : List UInt8) (b : Bool), (b = true → l ≠ []) → Ends l → (skipM b l ≠ [] → skipM b (l ++ B) = skipM b l ++ B) ∧ (skipM b l = [] → skipM b (l ++ B) = skipM false B) := by
  intro l
  induction l with
  | nil =>
    intro b hb _
    cases b with
    | true => exact absurd rfl (hb rfl)
    | false => exact ⟨fun h => absurd rfl h, fun _ => rfl⟩
  | cons c r ih =>
    intro b _ he
    obtain ⟨h1, h2⟩ := he.tail
    cases b with
    | true =>
      by_cases hc : c = 10
      · have hc' : (c == 10) = true := by simp [hc]
        simp only [List.cons_append, skipM, hc', if_true]
        exact ih false (fun h => by cases h) h1
      · have hc' : (c == 10) = false := by simpa using hc
        simp only [List.cons_append, skipM, hc', Bool.false_eq_true, if_false]
        exact ih true (fun _ h => hc (h2 h)) h1
    | false =>
      by_cases hb : blankC c = true
      · simp only [List.cons_append, skipM, hb, if_true]
        exact ih false (fun h => by cases h) h1
      · by_cases h35 : c = 35
        · have hc' : (c == 35) = true := by simp [h35]
          simp only [List.cons_append, skipM, hb, hc', if_true]
          refine ih true (fun _ h => ?_) h1
          have := h2 h
          rw [h35] at this
          revert this
          decide
        · have hc' : (c == 35) = false := by simpa using h35
          simp [skipM, hb, hc']

theorem tok_app (r B : List UInt8) (p : Nat) (hr : r ≠ []) (he : Ends r) (hb : ∀ c q, r = c :: q → blankC c = false) : tokL (r ++ B) p = tokL r p ∧ (measL (r ++ B)).2 = (measL r).2 := by
  rcases he with h | ⟨m, hm⟩
  · exact absurd h hr
  · have hme : measL (r ++ B) = measL r := by
      rw [hm, List.append_assoc]
      exact meas_local 10 rfl B [] m
    have hml := meas_le r hr
    have hw : wholeL (r ++ B) (measL r).2 = wholeL r (measL r).2 := by simp only [wholeL]; rw [List.take_append_of_le_length hml]
    have hn : nameL (r ++ B) (measL r).2 = nameL r (measL r).2 := by simp only [nameL]; rw [List.take_append_of_le_length (by omega)]
    have ho : okL (measL r).1 (r ++ B) (measL r).2 = okL (measL r).1 r (measL r).2 := by unfold okL; rw [hw]
    refine ⟨?_, by rw [hme]⟩
    unfold tokL
    rw [hme, hw, hn, ho]

theorem toks_app (NA : Nat) (B : List UInt8) : ∀ (f : Nat) (l : List UInt8), Ends l → l.length < f → l.length ≤ NA →
    (∃ xs, toks NA f l = xs ++ [⟨5, ⟨#[]⟩, NA⟩] ∧ ∀ g, (l ++ B).length < g → toks (NA + B.length) g (l ++ B) = xs ++ toks (NA + B.length) (B.length + 1) B) ∨
    (∃ xs bad, toks NA f l = xs ++ [bad] ∧ bad.k = 6 ∧ ∀ g, (l ++ B).length < g → toks (NA + B.length) g (l ++ B) = xs ++ [bad]) := by
  intro f
  induction f with
  | zero => intro l _ h; omega
  | succ f ih =>
    intro l he hf hl
    have hsa := skip_app B l false (fun h => by cases h) he
    by_cases hs : skipM false l = []
    · refine .inl ⟨[], toks_end NA f l hs, fun g hg => ?_⟩
      cases g with
      | zero => omega
      | succ g =>
        have h1 := hsa.2 hs
        rw [List.nil_append]
        rw [toks_fuel _ (g + 1) ((l ++ B).length + 1) _ hg (by omega), toks_fuel _ (B.length + 1) ((l ++ B).length + 1) B (by omega) (by simp; omega)]
        conv => lhs; unfold toks
        conv => rhs; unfold toks
        rw [h1]
    · have h1 := hsa.1 hs
      have hle := skip_le false l
      have hml := meas_le _ hs
      have hmp := meas_pos (skipM false l)
      obtain ⟨k, -, hsk, -⟩ := skip_suffix l false
      have hse : Ends (skipM false l) := by rw [hsk]; exact he.drop k
      have hb : ∀ c q, skipM false l = c :: q → blankC c = false := fun c q h => (skip_head l false c q h).1
      obtain ⟨ht, hm⟩ := tok_app (skipM false l) B (NA - (skipM false l).length) hs hse hb
      have hp : NA + B.length - (skipM false l ++ B).length = NA - (skipM false l).length := by rw [List.length_append]; omega
      have hne2 : skipM false (l ++ B) ≠ [] := by rw [h1]; simp [hs]
      by_cases h6 : (tokL (skipM false l) (NA - (skipM false l).length)).k = 6
      · refine .inr ⟨[], _, toks_bad NA f l hs h6, h6, fun g hg => ?_⟩
        cases g with
        | zero => omega
        | succ g =>
          have := toks_bad (NA + B.length) g (l ++ B) hne2 (by rw [h1, hp, ht]; exact h6)
          rw [this, h1, hp, ht]
          rfl
      · have h2 := toks_more NA f l hf hs h6
        have hdl : ((skipM false l).drop (measL (skipM false l)).2).length + 1 ≤ f := by rw [List.length_drop]; omega
        have hfu := toks_fuel NA (((skipM false l).drop (measL (skipM false l)).2).length + 1) f ((skipM false l).drop (measL (skipM false l)).2) (by omega) (by omega)
        have hda : (skipM false l ++ B).drop (measL (skipM false l)).2 = (skipM false l).drop (measL (skipM false l)).2 ++ B := List.drop_append_of_le_length hml
        have hz : ∀ g, (l ++ B).length < g → toks (NA + B.length) g (l ++ B) = tokL (skipM false l) (NA - (skipM false l).length) :: toks (NA + B.length) (((skipM false l).drop (measL (skipM false l)).2 ++ B).length + 1) ((skipM false l).drop (measL (skipM false l)).2 ++ B) := by
          intro g hg
          cases g with
          | zero => omega
          | succ g =>
            have := toks_more (NA + B.length) g (l ++ B) hg hne2 (by rw [h1, hp, ht]; exact h6)
            rw [this, h1, hp, ht, hm, hda]
        rcases ih ((skipM false l).drop (measL (skipM false l)).2) (hse.drop _) (by omega) (by rw [List.length_drop]; omega) with ⟨xs, h3, h4⟩ | ⟨xs, bad, h3, h4, h5⟩
        · refine .inl ⟨tokL (skipM false l) (NA - (skipM false l).length) :: xs, by rw [h2, hfu, h3]; rfl, fun g hg => ?_⟩
          rw [hz g hg, h4 _ (by omega)]
          rfl
        · refine .inr ⟨tokL (skipM false l) (NA - (skipM false l).length) :: xs, bad, by rw [h2, hfu, h3]; rfl, h4, fun g hg => ?_⟩
          rw [hz g hg, h5 _ (by omega)]
          rfl

/-- A token that stands D bytes farther on. -/
def shiftT (D : Nat) (x : SymV) : SymV := ⟨x.k, x.t, x.n + D⟩

theorem tok_shift (l : List UInt8) (p D : Nat) : tokL l (p + D) = shiftT D (tokL l p) := by
  unfold tokL shiftT
  repeat' split
  all_goals simp

theorem toks_shift (N D : Nat) : ∀ (f : Nat) (l : List UInt8), l.length ≤ N → toks (N + D) f l = (toks N f l).map (shiftT D) := by
  intro f
  induction f with
  | zero => intro l _; rfl
  | succ f ih =>
    intro l hl
    unfold toks
    split
    · simp [shiftT]
    · rename_i hne
      have hle := skip_le false l
      have hp : N + D - (skipM false l).length = N - (skipM false l).length + D := by omega
      rw [hp, tok_shift, List.map_cons]
      congr 1
      have hk : (shiftT D (tokL (skipM false l) (N - (skipM false l).length))).k = (tokL (skipM false l) (N - (skipM false l).length)).k := rfl
      rw [hk]
      split
      · rfl
      · exact ih _ (by rw [List.length_drop]; omega)

theorem joins (a b : List UInt8) :
    (∃ xs, toksA (a ++ [10]) = xs ++ [⟨5, ⟨#[]⟩, ((a.length + 1 : Nat) : Int)⟩] ∧ toksA (a ++ [10] ++ b) = xs ++ (toksA b).map (shiftT (a.length + 1))) ∨
    (∃ xs bad, toksA (a ++ [10]) = xs ++ [bad] ∧ bad.k = 6 ∧ toksA (a ++ [10] ++ b) = xs ++ [bad]) := by
  have hA : (a ++ [10]).length = a.length + 1 := by simp
  have h := toks_app (a ++ [10]).length b ((a ++ [10]).length + 1) (a ++ [10]) (.inr ⟨a, rfl⟩) (by omega) (Nat.le_refl _)
  have hz : toksA (a ++ [10] ++ b) = toks ((a ++ [10]).length + b.length) ((a ++ [10] ++ b).length + 1) (a ++ [10] ++ b) := by unfold toksA; rw [List.length_append]
  rcases h with ⟨xs, h1, h2⟩ | ⟨xs, bad, h1, h2, h3⟩
  · refine .inl ⟨xs, by unfold toksA; rw [h1, hA], ?_⟩
    rw [hz, h2 _ (by omega)]
    congr 1
    rw [Nat.add_comm, toks_shift _ _ _ _ (Nat.le_refl _), hA]
    rfl
  · exact .inr ⟨xs, bad, h1, h2, by rw [hz, h3 _ (by omega)]⟩

end Go.Proofs.YtlnnblfkigcipaaDoor
