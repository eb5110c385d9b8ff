/- A right symbol's text is read as it. Conditions: none. -/
import Derived.Test.YtlnnblfkigcipaaDoorSymParS
namespace Go.Proofs.YtlnnblfkigcipaaDoor
open Go Go.RowKit

theorem str_ext' {a b : ByteArray} (h : a.data.toList = b.data.toList) : a = b := by
  cases a; cases b; simp_all

theorem hd_list {t : ByteArray} {c : UInt8} {r : List UInt8} (h : t.data.toList = c :: r) : hd t = (c.toNat : Int) := by
  obtain ⟨⟨l⟩⟩ := t
  simp at h
  subst h
  rfl

theorem size_list (t : ByteArray) : t.size = t.data.toList.length := by simp

theorem list_one {t : ByteArray} (h : t.size = 1) : ∃ c, t.data.toList = [c] := by
  rw [size_list] at h
  exact List.length_eq_one_iff.1 h

theorem digit_nat (d : Nat) (h : d < 10) : (UInt8.ofNat (48 + d)).toNat = 48 + d := by
  show (48 + d) % 256 = 48 + d
  omega

theorem digits_head (u : Nat) : ∃ c r, Lib.decDigits u = c :: r ∧ 48 ≤ c.toNat ∧ c.toNat ≤ 57 := by
  induction u using Nat.strongRecOn with
  | _ u ih =>
    by_cases h : u < 10
    · exact ⟨_, [], Lib.decDigits_one h, by rw [digit_nat u h]; omega, by rw [digit_nat u h]; omega⟩
    · obtain ⟨c, r, e, h1, h2⟩ := ih (u / 10) (by omega)
      refine ⟨c, r ++ [UInt8.ofNat (48 + u % 10)], ?_, h1, h2⟩
      conv => lhs; unfold Lib.decDigits
      rw [dif_neg h, e]
      rfl

theorem parse_digits (u : Nat) (h : u < 100000000000) (r : List UInt8) : Lib.parseUint10 0 (Lib.decDigits u ++ r) = Lib.parseUint10 u r := by
  induction u using Nat.strongRecOn generalizing r with
  | _ u ih =>
    by_cases h10 : u < 10
    · rw [Lib.decDigits_one h10]
      have e := digit_nat u h10
      show Lib.parseUint10 0 (UInt8.ofNat (48 + u) :: r) = _
      rw [Lib.parseUint10, e, if_pos (by omega), if_neg (by omega), if_neg (by omega)]
      congr 1
      omega
    · have e3 : Lib.decDigits u = Lib.decDigits (u / 10) ++ [UInt8.ofNat (48 + u % 10)] := by
        conv => lhs; unfold Lib.decDigits
        rw [dif_neg h10]
      have e := digit_nat (u % 10) (by omega)
      rw [e3, List.append_assoc, ih (u / 10) (by omega) (by omega)]
      show Lib.parseUint10 (u / 10) (UInt8.ofNat (48 + u % 10) :: r) = _
      rw [Lib.parseUint10, e, if_pos (by omega), if_neg (by omega), if_neg (by omega)]
      congr 1
      omega

theorem parse_mag (u : Nat) (h : u < 100000000000) : Lib.parseMag (Lib.decDigits u) = .ok u := by
  obtain ⟨c, r, e, -, -⟩ := digits_head u
  have hne : Lib.decDigits u ≠ [] := by rw [e]; simp
  unfold Lib.parseMag
  rw [if_neg hne]
  have := parse_digits u h []
  rw [List.append_nil] at this
  rw [this]
  rfl

theorem atoi_itoa (n : Int) (h0 : -10000000000 < n) (h1 : n < 10000000000) : atoiV (itoaB n) = n := by
  have hl : (itoaB n).data.toList = Lib.itoa n := by simp [itoaB]
  have key : Lib.atoiAll (Lib.itoa n) = .ok n := by
    unfold Lib.itoa
    by_cases hn : n < 0
    · rw [if_pos hn, Lib.atoiAll_minus, parse_mag _ (by omega)]
      simp only [Lib.signed]
      rw [if_neg (by omega)]
      congr 1
      omega
    · rw [if_neg hn]
      obtain ⟨c, r, e, g1, g2⟩ := digits_head n.toNat
      have hp := parse_mag n.toNat (by omega)
      rw [e] at hp ⊢
      rw [Lib.atoiAll_plain c r (by omega) (by omega), hp]
      simp only [Lib.signless]
      rw [if_neg (by omega)]
      congr 1
      omega
  unfold atoiV
  rw [hl, key]

theorem text_size {x : SymV} (h : validB x = true) : (textB x).size ≤ 100000 := by
  have h1 := valid_t h
  unfold textB
  rw [if_pos h]
  split
  · omega
  · rename_i h3
    obtain ⟨n1, n2⟩ := valid_n h h3
    have := itoaB_size x.n (by omega) (by omega)
    rw [ByteArray.size_append]
    omega

theorem guess_text {x : SymV} (h : validB x = true) : guessV (textB x) = x := by
  have hk : x.k = 1 ∨ x.k = 2 ∨ x.k = 3 := by
    have hv := h
    unfold validB at hv
    split at hv
    · exact .inl (by assumption)
    · split at hv
      · exact .inr (.inl (by assumption))
      · split at hv
        · exact .inr (.inr (by assumption))
        · cases hv
  rcases hk with h1 | h2 | h3
  · have hv := h
    unfold validB at hv
    rw [if_pos h1] at hv
    simp only [Bool.and_eq_true, decide_eq_true_eq] at hv
    obtain ⟨c, hc⟩ := list_one hv.1.1.1
    have hhd := hd_list hc
    have ht : textB x = x.t ++ itoaB x.n := by
      unfold textB
      rw [if_pos h, if_neg (by omega)]
    have hl : (textB x).data.toList = c :: Lib.itoa x.n := by rw [ht]; simp [hc, itoaB]
    have hhd' := hd_list hl
    have hsz : (textB x).size ≠ 0 := by rw [size_list, hl]; simp
    have hcap : capI (hd (textB x)) = true := by rw [hhd', ← hhd]; exact hv.1.1.2
    have e1 : (textB x).extract 0 1 = x.t := by
      refine str_ext' ?_
      rw [Lib.extract_data, hl, hc]
      simp
    have e2 : (textB x).extract 1 (textB x).size = itoaB x.n := by
      refine str_ext' ?_
      rw [Lib.extract_data, size_list, hl]
      simp [itoaB]
    unfold guessV
    rw [if_neg hsz, if_pos hcap, e1, e2, atoi_itoa x.n (by omega) (by omega), ← h1]
  · have hv := h
    unfold validB at hv
    rw [if_neg (by omega), if_pos h2] at hv
    simp only [Bool.and_eq_true, decide_eq_true_eq] at hv
    have ht0 : x.t = ⟨#[]⟩ := by
      refine str_ext' ?_
      exact List.length_eq_zero_iff.1 (by simpa using hv.1.1)
    have ht : textB x = itoaB x.n := by
      unfold textB
      rw [if_pos h, if_neg (by omega), ht0]
      refine str_ext' ?_
      simp
    have hl : ∃ c r, (textB x).data.toList = c :: r ∧ ((48 ≤ c.toNat ∧ c.toNat ≤ 57) ∨ c.toNat = 45) := by
      rw [ht]
      have : (itoaB x.n).data.toList = Lib.itoa x.n := by simp [itoaB]
      rw [this]
      unfold Lib.itoa
      split
      · exact ⟨45, _, rfl, .inr rfl⟩
      · obtain ⟨c, r, e, g1, g2⟩ := digits_head x.n.toNat
        exact ⟨c, r, e, .inl ⟨g1, g2⟩⟩
    obtain ⟨c, r, hl, hcr⟩ := hl
    have hhd := hd_list hl
    have hsz : (textB x).size ≠ 0 := by rw [size_list, hl]; simp
    have n1 : capI (hd (textB x)) = false := by rw [hhd]; simp [capI]; omega
    have n2 : smallI (hd (textB x)) = false := by rw [hhd]; simp [smallI]; omega
    unfold guessV
    rw [if_neg hsz, n1, n2, if_neg (by simp), if_neg (by simp), ht, atoi_itoa x.n (by omega) (by omega), ← ht0, ← h2]
  · have hv := h
    unfold validB at hv
    rw [if_neg (by omega), if_neg (by omega), if_pos h3] at hv
    simp only [Bool.and_eq_true, decide_eq_true_eq] at hv
    have ht : textB x = x.t := by
      unfold textB
      rw [if_pos h, if_pos h3]
    have hw := hv.2
    simp only [wordB, Bool.and_eq_true, decide_eq_true_eq] at hw
    have n2 : smallI (hd x.t) = true := hw.1.2
    have n1 : capI (hd x.t) = false := by
      have : 97 ≤ hd x.t ∧ hd x.t ≤ 122 := by simpa [smallI] using n2
      simp [capI]; omega
    unfold guessV
    rw [ht, if_neg (by omega), n1, n2, if_neg (by simp), if_pos rfl]
    obtain ⟨k, t, n⟩ := x
    simp only at h3 hv ⊢
    rw [h3, hv.1]

theorem parse_text {x : SymV} (h : validB x = true) : parseOk (textB x) = true ∧ parseV (textB x) = x := by
  have hg := guess_text h
  have h1 : parseOk (textB x) = true := by
    unfold parseOk
    rw [hg, h]
    simp
  refine ⟨h1, ?_⟩
  unfold parseV
  rw [if_pos h1, hg]

theorem text_uniq {x y : SymV} (hx : validB x = true) (hy : validB y = true) : ((textB x).toList == (textB y).toList) = same ⟨x.k, x.t, x.n⟩ ⟨y.k, y.t, y.n⟩ := by
  rw [Bool.eq_iff_iff, beq_iff_eq, same_iff]
  constructor
  · intro h
    have := toList_inj h
    have e1 := guess_text hx
    have e2 := guess_text hy
    rw [this, e2] at e1
    exact e1.symm
  · intro h
    have : x = y := h
    rw [this]

end Go.Proofs.YtlnnblfkigcipaaDoor
