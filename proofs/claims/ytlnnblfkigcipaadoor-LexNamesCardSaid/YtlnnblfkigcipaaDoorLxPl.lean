/- Tokens of a text, plainly. Conditions: none. -/
import Derived.Test.YtlnnblfkigcipaaDoorSyParPl
import Derived.Lib.SlTrimSet
namespace Go.Proofs.YtlnnblfkigcipaaDoor
open Go Go.RowKit

def smallC (c : UInt8) : Bool := smallI (c.toNat : Int)
def innC (c : UInt8) : Bool := innerI (c.toNat : Int)
def blankC (c : UInt8) : Bool := c == 32 || c == 9 || c == 10 || c == 13

/-- What is left behind blanks and remarks; true: within a remark. -/
def skipM : Bool → List UInt8 → List UInt8
  | _, [] => []
  | true, c :: r => if c == 10 then skipM false r else skipM true r
  | false, c :: r => if blankC c then skipM false r else if c == 35 then skipM true r else c :: r

def wordN : List UInt8 → Nat
  | [] => 0
  | c :: r => if smallC c then ((c :: r).takeWhile innC).length else 0

def numN : List UInt8 → Nat
  | [] => 0
  | c :: r => if c == 45 then (if (r.takeWhile digB).length = 0 then 0 else 1 + (r.takeWhile digB).length) else ((c :: r).takeWhile digB).length

def varN : List UInt8 → Nat
  | [] => 0
  | c :: r => if c == 60 && decide (wordN r ≠ 0) && (r.drop (wordN r)).head? == some 62 then wordN r + 2 else 0

def signsL : List (List UInt8) := [[45, 45, 62], [60, 61, 62], [60, 60], [62, 62], [60, 62], [60, 61], [62, 61], [40], [41], [123], [125], [94], [43], [45], [33], [126], [60], [62], [61], [42]]

def signIn (ss : List (List UInt8)) (l : List UInt8) : Nat := match ss with
  | [] => 0
  | s :: r => if s.isPrefixOf l then s.length else signIn r l

/-- A token's kind, its bounds not asked, and how many bytes it has. -/
def measL (l : List UInt8) : Int × Nat :=
  if wordN l ≠ 0 then (1, wordN l) else if numN l ≠ 0 then (2, numN l) else if varN l ≠ 0 then (3, varN l) else if signIn signsL l ≠ 0 then (4, signIn signsL l) else (6, 1)

def wholeL (l : List UInt8) (n : Nat) : ByteArray := ⟨(l.take n).toArray⟩
def nameL (l : List UInt8) (n : Nat) : ByteArray := ⟨((l.take (n - 1)).drop 1).toArray⟩

/-- Is a text a number's that is not too great? -/
def numOk (t : ByteArray) : Bool := readOk t && decide (-2147483647 ≤ readV t) && decide (readV t ≤ 2147483647)

def okL (k : Int) (l : List UInt8) (n : Nat) : Bool :=
  if k = 1 then decide (n ≤ 32) else if k = 3 then decide (n ≤ 34) else if k = 2 then numOk (wholeL l n) else true

/-- The token that l begins with. -/
def tokL (l : List UInt8) (p : Nat) : SymV :=
  if okL (measL l).1 l (measL l).2 then (if (measL l).1 = 3 then ⟨3, nameL l (measL l).2, p⟩ else ⟨(measL l).1, wholeL l (measL l).2, p⟩) else ⟨6, wholeL l (measL l).2, p⟩

/-- The tokens of what is left of a text of N bytes. -/
def toks (N : Nat) : Nat → List UInt8 → List SymV
  | 0, _ => []
  | f + 1, l => if skipM false l = [] then [⟨5, ⟨#[]⟩, N⟩] else
      tokL (skipM false l) (N - (skipM false l).length) :: if (tokL (skipM false l) (N - (skipM false l).length)).k = 6 then [] else toks N f ((skipM false l).drop (measL (skipM false l)).2)

def toksA (l : List UInt8) : List SymV := toks l.length (l.length + 1) l

/-- Sets of bytes. -/
theorem byte_all (p : UInt8 → Bool) (h : (List.range 256).all (fun n => p (UInt8.ofNat n)) = true) (c : UInt8) : p c = true := by
  have := List.all_eq_true.1 h c.toNat (List.mem_range.2 c.toNat_lt)
  simpa using this

def smallS : ByteArray := ⟨#[97, 98, 99, 100, 101, 102, 103, 104, 105, 106, 107, 108, 109, 110, 111, 112, 113, 114, 115, 116, 117, 118, 119, 120, 121, 122]⟩
def digitS : ByteArray := ⟨#[48, 49, 50, 51, 52, 53, 54, 55, 56, 57]⟩
def innerS : ByteArray := ⟨#[97, 98, 99, 100, 101, 102, 103, 104, 105, 106, 107, 108, 109, 110, 111, 112, 113, 114, 115, 116, 117, 118, 119, 120, 121, 122, 48, 49, 50, 51, 52, 53, 54, 55, 56, 57, 45, 95]⟩
def blankS : ByteArray := ⟨#[32, 9, 10, 13]⟩

theorem small_set (c : UInt8) : smallS.data.toList.contains c = smallC c := by
  have := byte_all (fun c => smallS.data.toList.contains c == smallC c) (by decide +kernel) c
  simpa using this
theorem digit_set (c : UInt8) : digitS.data.toList.contains c = digB c := by
  have := byte_all (fun c => digitS.data.toList.contains c == digB c) (by decide +kernel) c
  simpa using this
theorem inner_set (c : UInt8) : innerS.data.toList.contains c = innC c := by
  have := byte_all (fun c => innerS.data.toList.contains c == innC c) (by decide +kernel) c
  simpa using this
theorem blank_set (c : UInt8) : blankS.data.toList.contains c = blankC c := by
  have := byte_all (fun c => blankS.data.toList.contains c == blankC c) (by decide +kernel) c
  simpa using this

theorem blank_not (c : UInt8) (h : blankC c = true) : innC c = false ∧ digB c = false ∧ smallC c = false ∧ c ≠ 35 := by
  have := byte_all (fun c => !blankC c || (!innC c && !digB c && !smallC c && c != 35)) (by decide +kernel) c
  rw [h] at this
  simp at this
  exact ⟨this.1.1.1, this.1.1.2, this.1.2, this.2⟩
theorem small_inn (c : UInt8) (h : smallC c = true) : innC c = true ∧ digB c = false ∧ c ≠ 45 ∧ c ≠ 60 := by
  have := byte_all (fun c => !smallC c || (innC c && !digB c && c != 45 && c != 60)) (by decide +kernel) c
  rw [h] at this
  simp at this
  exact ⟨this.1.1.1, this.1.1.2, this.1.2, this.2⟩

theorem span_len (l cs : List UInt8) (p : UInt8 → Bool) (h : ∀ c, cs.contains c = p c) : (Lib.trimLeftS l cs).length + (l.takeWhile p).length = l.length := by
  have e : (fun c => cs.contains c) = p := funext h
  unfold Lib.trimLeftS
  rw [show (fun x => cs.contains x) = p from e]
  induction l with
  | nil => rfl
  | cons a r ih => by_cases ha : p a = true <;> simp_all <;> omega

theorem takeWhile_le (p : UInt8 → Bool) (l : List UInt8) : (l.takeWhile p).length ≤ l.length := (List.takeWhile_sublist p).length_le

theorem takeWhile_take (p : UInt8 → Bool) (l : List UInt8) : l.takeWhile p = l.take (l.takeWhile p).length := by
  induction l with
  | nil => rfl
  | cons a r ih =>
    by_cases ha : p a = true
    · simp only [List.takeWhile_cons, ha, if_true, List.length_cons, List.take_succ_cons]
      exact congrArg (a :: ·) ih
    · simp [ha]

theorem takeWhile_app (p : UInt8 → Bool) (l : List UInt8) (c : UInt8) (r : List UInt8) (hl : l.all p = true) (hc : p c = false) : (l ++ c :: r).takeWhile p = l := by
  induction l with
  | nil => simp [hc]
  | cons a l ih => simp at hl; simp [hl.1, ih (by simpa using hl.2)]

/-- Skipping. -/
theorem skip_suffix : ∀ (l : List UInt8) (b : Bool), ∃ k, k ≤ l.length ∧ skipM b l = l.drop k ∧ skipM b (l.take k) = [] := by
  intro l
  induction l with
  | nil => intro b; exact ⟨0, by simp, by cases b <;> rfl, by cases b <;> rfl⟩
  | cons c r ih =>
    intro b
    cases b with
    | true =>
      by_cases h : c == 10
      · obtain ⟨k, h1, h2, h3⟩ := ih false
        exact ⟨k + 1, by simp; omega, by simp [skipM, h, h2], by simp [skipM, h, h3]⟩
      · obtain ⟨k, h1, h2, h3⟩ := ih true
        exact ⟨k + 1, by simp; omega, by simp [skipM, h, h2], by simp [skipM, h, h3]⟩
    | false =>
      by_cases h : blankC c = true
      · obtain ⟨k, h1, h2, h3⟩ := ih false
        exact ⟨k + 1, by simp; omega, by simp [skipM, h, h2], by simp [skipM, h, h3]⟩
      · by_cases h' : c == 35
        · obtain ⟨k, h1, h2, h3⟩ := ih true
          exact ⟨k + 1, by simp; omega, by simp [skipM, h, h', h2], by simp [skipM, h, h', h3]⟩
        · exact ⟨0, by simp, by simp [skipM, h, h'], rfl⟩

theorem skip_le (b : Bool) (l : List UInt8) : (skipM b l).length ≤ l.length := by
  obtain ⟨k, h1, h2, -⟩ := skip_suffix l b
  rw [h2]; simp

theorem skip_drop (b : Bool) (l : List UInt8) : skipM b l = l.drop (l.length - (skipM b l).length) := by
  obtain ⟨k, h1, h2, -⟩ := skip_suffix l b
  rw [h2, List.length_drop]
  congr 1; omega

theorem skip_head : ∀ (l : List UInt8) (b : Bool) (c : UInt8) (r : List UInt8), skipM b l = c :: r → blankC c = false ∧ c ≠ 35 := by
  intro l
  induction l with
  | nil => intro b c r h; cases b <;> cases h
  | cons a l ih =>
    intro b c r h
    cases b with
    | true =>
      by_cases h1 : a == 10
      · exact ih false c r (by simpa [skipM, h1] using h)
      · exact ih true c r (by simpa [skipM, h1] using h)
    | false =>
      by_cases h1 : blankC a = true
      · exact ih false c r (by simpa [skipM, h1] using h)
      · by_cases h2 : a == 35
        · exact ih true c r (by simpa [skipM, h1, h2] using h)
        · simp [skipM, h1, h2] at h
          obtain ⟨rfl, rfl⟩ := h
          exact ⟨by simpa using h1, by simpa using h2⟩

theorem skip_stop {c : UInt8} {r : List UInt8} (h1 : blankC c = false) (h2 : c ≠ 35) : skipM false (c :: r) = c :: r := by simp [skipM, h1, h2]

theorem skip_blanks (l : List UInt8) : skipM false l = skipM false (l.dropWhile blankC) := by
  induction l with
  | nil => rfl
  | cons c r ih => by_cases h : blankC c = true <;> simp [skipM, h, ih]

theorem skip_remark (l : List UInt8) : skipM true l = skipM false (l.dropWhile (fun c => !(c == 10))) := by
  induction l with
  | nil => rfl
  | cons c r ih =>
    by_cases h : c == 10
    · have hb : blankC c = true := by
        have : c = 10 := by simpa using h
        subst this
        rfl
      simp [skipM, h, hb]
    · simp [skipM, h, ih]

theorem skip_hash (r : List UInt8) : skipM false (35 :: r) = skipM true r := by simp [skipM, blankC]

/-- A token has bytes, and no more than there are. -/
theorem word_le (l : List UInt8) : wordN l ≤ l.length := by
  cases l with
  | nil => exact Nat.le_refl _
  | cons c r =>
    simp only [wordN]
    split
    · exact takeWhile_le _ _
    · exact Nat.zero_le _
theorem num_le (l : List UInt8) : numN l ≤ l.length := by
  cases l with
  | nil => exact Nat.le_refl _
  | cons c r =>
    simp only [numN]
    have h1 := takeWhile_le digB r
    have h2 := takeWhile_le digB (c :: r)
    simp only [List.length_cons] at h2 ⊢
    split
    · split <;> omega
    · exact h2
theorem var_le (l : List UInt8) : varN l ≤ l.length := by
  cases l with
  | nil => exact Nat.le_refl _
  | cons c r =>
    simp only [varN]
    split
    · rename_i h
      simp only [Bool.and_eq_true, beq_iff_eq] at h
      obtain ⟨-, h⟩ := h
      have : 0 < (r.drop (wordN r)).length := by cases hd : r.drop (wordN r) with
        | nil => rw [hd] at h; cases h
        | cons _ _ => simp
      simp at this ⊢; omega
    · exact Nat.zero_le _
theorem sign_le (ss : List (List UInt8)) (l : List UInt8) : signIn ss l ≤ l.length := by
  induction ss with
  | nil => exact Nat.zero_le _
  | cons s r ih =>
    unfold signIn
    split
    · rename_i h; exact (List.isPrefixOf_iff_prefix.1 h).length_le
    · exact ih
theorem meas_pos (l : List UInt8) : 1 ≤ (measL l).2 := by
  unfold measL
  repeat' split
  all_goals first | exact Nat.one_le_iff_ne_zero.2 (by assumption) | exact Nat.le_refl _
theorem meas_le (l : List UInt8) (h : l ≠ []) : (measL l).2 ≤ l.length := by
  have h1 := word_le l; have h2 := num_le l; have h3 := var_le l; have h4 := sign_le signsL l
  have h5 : 1 ≤ l.length := by cases l with
    | nil => exact absurd rfl h
    | cons _ _ => simp
  unfold measL
  repeat' split
  all_goals assumption

theorem toks_fuel (N : Nat) : ∀ (f g : Nat) (l : List UInt8), l.length < f → l.length < g → toks N f l = toks N g l := by
  intro f
  induction f with
  | zero => intro g l h; omega
  | succ f ih =>
    intro g l h1 h2
    cases g with
    | zero => omega
    | succ g =>
      unfold toks
      split
      · rfl
      · rename_i hn
        congr 1
        split
        · rfl
        · have := meas_pos (skipM false l); have := meas_le _ hn; have := skip_le false l
          exact ih g _ (by simp; omega) (by simp; omega)

theorem toks_end (N : Nat) (f : Nat) (l : List UInt8) (h : skipM false l = []) : toks N (f + 1) l = [⟨5, ⟨#[]⟩, N⟩] := by unfold toks; rw [if_pos h]
theorem toks_bad (N : Nat) (f : Nat) (l : List UInt8) (h : skipM false l ≠ []) (hk : (tokL (skipM false l) (N - (skipM false l).length)).k = 6) : toks N (f + 1) l = [tokL (skipM false l) (N - (skipM false l).length)] := by
  conv => lhs; unfold toks
  rw [if_neg h, if_pos hk]
theorem toks_more (N : Nat) (f : Nat) (l : List UInt8) (hf : l.length < f + 1) (h : skipM false l ≠ []) (hk : (tokL (skipM false l) (N - (skipM false l).length)).k ≠ 6) :
    toks N (f + 1) l = tokL (skipM false l) (N - (skipM false l).length) :: toks N (((skipM false l).drop (measL (skipM false l)).2).length + 1) ((skipM false l).drop (measL (skipM false l)).2) := by
  conv => lhs; unfold toks
  rw [if_neg h, if_neg hk]
  congr 1
  have := meas_pos (skipM false l); have := meas_le _ h; have := skip_le false l
  exact toks_fuel N _ _ _ (by simp; omega) (by simp)

theorem meas_kind (l : List UInt8) : (measL l).1 = 1 ∨ (measL l).1 = 2 ∨ (measL l).1 = 3 ∨ (measL l).1 = 4 ∨ (measL l).1 = 6 := by
  unfold measL
  repeat' split
  all_goals simp

theorem tok_kind (l : List UInt8) (p : Nat) : (tokL l p).k ≠ 5 := by
  have := meas_kind l
  unfold tokL
  repeat' split
  all_goals (simp; try omega)

end Go.Proofs.YtlnnblfkigcipaaDoor
