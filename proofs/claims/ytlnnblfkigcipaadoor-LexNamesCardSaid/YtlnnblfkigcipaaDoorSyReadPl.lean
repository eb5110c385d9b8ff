/- What the statements' Read reads, plainly: a number's text is read as it, and nothing else. Conditions: none. -/
import Derived.Test.YtlnnblfkigcipaaDoorSyBackPl
namespace Go.Proofs.YtlnnblfkigcipaaDoor
open Go Go.RowKit

def digB (c : UInt8) : Bool := decide (48 ≤ c.toNat) && decide (c.toNat ≤ 57)
def digV (l : List UInt8) : Nat := l.foldl (fun n c => 10 * n + (c.toNat - 48)) 0

theorem digV_snoc (l : List UInt8) (c : UInt8) : digV (l ++ [c]) = 10 * digV l + (c.toNat - 48) := by simp [digV]

def negB (t : ByteArray) : Bool := hd t == 45
def restB (t : ByteArray) : ByteArray := if negB t then t.extract 1 t.size else t
def magOk (neg : Bool) (s : ByteArray) : Bool := decide (1 ≤ s.size) && decide (s.size ≤ 10) && !(hd s == 48 && (decide (1 < s.size) || neg)) && s.data.toList.all digB
def readOk (t : ByteArray) : Bool := magOk (negB t) (restB t)
def readV (t : ByteArray) : Int := if readOk t then (if negB t then -(digV (restB t).data.toList : Int) else (digV (restB t).data.toList : Int)) else 0

theorem digV_lt : ∀ (k : Nat) (l : List UInt8), l.length = k → l.all digB = true → digV l < 10 ^ k := by
  intro k
  induction k with
  | zero => intro l h _; rw [List.length_eq_zero_iff.1 h]; decide
  | succ k ih =>
    intro l h ha
    rcases List.eq_nil_or_concat l with rfl | ⟨m, c, rfl⟩
    · simp at h
    · rw [List.concat_eq_append] at h ha ⊢
      rw [digV_snoc]
      simp only [List.length_append, List.length_singleton, List.all_append, List.all_cons, List.all_nil, Bool.and_true, Bool.and_eq_true, digB, decide_eq_true_eq] at h ha
      have := ih m (by omega) (by simpa [digB] using ha.1)
      rw [Nat.pow_succ]
      omega

/-- Digits with no 0 ahead are a number's. -/
theorem dec_val : ∀ (k : Nat) (l : List UInt8), l.length = k → l ≠ [] → l.all digB = true → (∀ c r, l = c :: r → c.toNat = 48 → r = []) → Lib.decDigits (digV l) = l ∧ ((∀ c r, l = c :: r → c.toNat ≠ 48) → 1 ≤ digV l) := by
  intro k
  induction k with
  | zero => intro l h hne; exact absurd (List.length_eq_zero_iff.1 h) hne
  | succ k ih =>
    intro l h _ ha h0
    rcases List.eq_nil_or_concat l with rfl | ⟨m, c, rfl⟩
    · simp at h
    · rw [List.concat_eq_append] at h ha h0 ⊢
      have hc : 48 ≤ c.toNat ∧ c.toNat ≤ 57 := by
        simp only [List.all_append, List.all_cons, List.all_nil, Bool.and_true, Bool.and_eq_true, digB, decide_eq_true_eq] at ha
        exact ha.2
      have hcc : UInt8.ofNat (48 + (c.toNat - 48)) = c := by
        rw [show 48 + (c.toNat - 48) = c.toNat by omega]
        exact UInt8.ofNat_toNat
      cases m with
      | nil =>
        simp only [List.nil_append]
        have e : digV [c] = c.toNat - 48 := by simp [digV]
        refine ⟨?_, fun hn => ?_⟩
        · rw [e, Lib.decDigits_one (by omega), hcc]
        · rw [e]
          have := hn c [] rfl
          omega
      | cons b r =>
        have hm : (b :: r).all digB = true := by
          rw [List.all_append] at ha
          simp only [Bool.and_eq_true] at ha
          exact ha.1
        have hb : b.toNat ≠ 48 := by
          intro e
          have := h0 b (r ++ [c]) rfl e
          simp at this
        obtain ⟨i1, i2⟩ := ih (b :: r) (by simp at h ⊢; omega) (by simp) hm (fun c' r' e e' => by cases e; exact absurd e' hb)
        have i3 := i2 (fun c' r' e => by cases e; exact hb)
        refine ⟨?_, fun _ => ?_⟩
        · rw [digV_snoc]
          conv => lhs; unfold Lib.decDigits
          rw [dif_neg (by omega), show (10 * digV (b :: r) + (c.toNat - 48)) / 10 = digV (b :: r) by omega, show (10 * digV (b :: r) + (c.toNat - 48)) % 10 = c.toNat - 48 by omega, i1, hcc]
        · rw [digV_snoc]; omega

theorem dec_all (u : Nat) : (Lib.decDigits u).all digB = true ∧ digV (Lib.decDigits u) = u ∧ (1 ≤ u → ∀ c r, Lib.decDigits u = c :: r → c.toNat ≠ 48) := by
  induction u using Nat.strongRecOn with
  | _ u ih =>
    by_cases h : u < 10
    · have e := digit_nat u h
      rw [Lib.decDigits_one h]
      refine ⟨?_, ?_, fun h1 c r ec => ?_⟩
      · simp [digB, e]; omega
      · simp [digV]; omega
      · cases ec
        rw [e]; omega
    · obtain ⟨i1, i2, i3⟩ := ih (u / 10) (by omega)
      have e := digit_nat (u % 10) (by omega)
      have e3 : Lib.decDigits u = Lib.decDigits (u / 10) ++ [UInt8.ofNat (48 + u % 10)] := by
        conv => lhs; unfold Lib.decDigits
        rw [dif_neg h]
      rw [e3]
      refine ⟨?_, ?_, fun h1 c r ec => ?_⟩
      · rw [List.all_append, i1]
        simp [digB, e]; omega
      · rw [digV_snoc, i2, e]; omega
      · obtain ⟨c', r', e', -, -⟩ := digits_head (u / 10)
        have := i3 (by omega) c' r' e'
        rw [e'] at ec
        cases ec
        exact this

/-- What is read is a number whose text it is. -/
theorem read_sound {t : ByteArray} (h : readOk t = true) : itoaB (readV t) = t ∧ -10000000000 < readV t ∧ readV t < 10000000000 := by
  have hr := h
  unfold readOk magOk at hr
  simp only [Bool.and_eq_true, decide_eq_true_eq, Bool.not_eq_true', Bool.and_eq_false_iff, Bool.or_eq_false_iff, beq_eq_false_iff_ne, decide_eq_false_iff_not] at hr
  obtain ⟨⟨⟨l1, l2⟩, l3⟩, l4⟩ := hr
  have hlen : (restB t).data.toList.length = (restB t).size := (size_list _).symm
  have hne : (restB t).data.toList ≠ [] := by intro e; rw [e] at hlen; simp at hlen; omega
  have hlt := digV_lt _ _ rfl l4
  have hlt2 : digV (restB t).data.toList < 10000000000 := by
    have : 10 ^ (restB t).data.toList.length ≤ 10 ^ 10 := Nat.pow_le_pow_right (by decide) (by omega)
    omega
  obtain ⟨d1, d2⟩ := dec_val _ _ rfl hne l4 (fun c r e e0 => by
    have hh := hd_list e
    rcases l3 with l3 | ⟨l3, -⟩
    · rw [hh] at l3; omega
    · have := congrArg List.length e
      simp only [List.length_cons] at this
      exact List.length_eq_zero_iff.1 (by omega))
  unfold readV
  rw [if_pos h]
  cases hn : negB t
  · rw [if_neg (by simp)]
    refine ⟨?_, by omega, by omega⟩
    have e : restB t = t := by unfold restB; rw [hn, if_neg (by simp)]
    rw [e] at d1 ⊢
    refine str_ext' ?_
    have : (itoaB (digV t.data.toList : Int)).data.toList = Lib.itoa (digV t.data.toList : Int) := by simp [itoaB]
    rw [this, Lib.itoa, if_neg (by omega)]
    exact d1
  · rw [if_pos rfl]
    refine ⟨?_, by omega, by omega⟩
    have h45 : hd t = 45 := by simpa [negB] using hn
    have hd1 : 1 ≤ digV (restB t).data.toList := d2 (fun c r e e0 => by
      have hh := hd_list e
      rcases l3 with l3 | ⟨-, l3⟩
      · rw [hh] at l3; omega
      · rw [hn] at l3; cases l3)
    obtain ⟨c, r, hl⟩ : ∃ c r, t.data.toList = c :: r := by
      cases hl : t.data.toList with
      | nil =>
        have : t.size = 0 := by rw [size_list, hl]; rfl
        unfold hd at h45
        rw [dif_neg (by omega)] at h45
        cases h45
      | cons c r => exact ⟨c, r, rfl⟩
    have hc := hd_list hl
    have hc45 : c = 45 := by
      have : c.toNat = 45 := by omega
      exact UInt8.toNat_inj.1 this
    have er : (restB t).data.toList = r := by
      unfold restB
      rw [hn, if_pos rfl, Lib.extract_data, size_list, hl]
      simp
    refine str_ext' ?_
    have : (itoaB (-(digV (restB t).data.toList : Int))).data.toList = Lib.itoa (-(digV (restB t).data.toList : Int)) := by simp [itoaB]
    rw [this, Lib.itoa, if_pos (by omega), show (-(digV (restB t).data.toList : Int)).natAbs = digV (restB t).data.toList by omega, d1, hl, er, hc45]

/-- A number's text is read as it. -/
theorem read_itoa (n : Int) (h0 : -10000000000 < n) (h1 : n < 10000000000) : readOk (itoaB n) = true ∧ readV (itoaB n) = n := by
  have hl : (itoaB n).data.toList = Lib.itoa n := by simp [itoaB]
  have len10 : ∀ u : Nat, u < 10000000000 → (Lib.decDigits u).length ≤ 10 := by
    intro u hu
    rw [Lib.decDigits_length]
    by_cases h : 11 ≤ Lib.nDigits u
    · exfalso
      have key : ∀ (k u : Nat), k + 1 ≤ Lib.nDigits u → 1 ≤ k → 10 ^ k ≤ u := by
        intro k
        induction k with
        | zero => intro u _ h; omega
        | succ k ih =>
          intro u hk _
          by_cases hu : u < 10
          · rw [Lib.nDigits_small hu] at hk; omega
          · rw [Lib.nDigits_big hu] at hk
            rcases Nat.eq_zero_or_pos k with rfl | hp
            · simpa using by omega
            · have := ih (u / 10) (by omega) hp
              rw [Nat.pow_succ]; omega
      have := key 10 u (by omega) (by omega)
      omega
    · omega
  by_cases hn : n < 0
  · obtain ⟨k, rfl⟩ : ∃ k : Nat, n = -(k : Int) := ⟨n.natAbs, by omega⟩
    have hit : Lib.itoa (-(k : Int)) = 45 :: Lib.decDigits k := by rw [Lib.itoa, if_pos hn, show (-(k : Int)).natAbs = k by omega]
    rw [hit] at hl
    have hneg : negB (itoaB (-(k : Int))) = true := by unfold negB; rw [hd_list hl]; rfl
    have hr : (restB (itoaB (-(k : Int)))).data.toList = Lib.decDigits k := by
      unfold restB
      rw [hneg, if_pos rfl, Lib.extract_data, size_list, hl]
      simp
    obtain ⟨a1, a2, a3⟩ := dec_all k
    obtain ⟨c, r, e, -, -⟩ := digits_head k
    have hh : hd (restB (itoaB (-(k : Int)))) = (c.toNat : Int) := hd_list (hr.trans e)
    have hc := a3 (by omega) c r e
    have hlen := len10 k (by omega)
    have hok : readOk (itoaB (-(k : Int))) = true := by
      unfold readOk magOk
      have h1 : 1 ≤ (restB (itoaB (-(k : Int)))).size := by rw [size_list, hr, e]; simp
      have h2 : (restB (itoaB (-(k : Int)))).size ≤ 10 := by rw [size_list, hr]; exact hlen
      rw [hr, a1, hh]
      have h3 : ((c.toNat : Int) == 48) = false := by simp; omega
      simp [h1, h2, h3]
    refine ⟨hok, ?_⟩
    unfold readV
    rw [if_pos hok, hneg, if_pos rfl, hr, a2]
  · obtain ⟨k, rfl⟩ : ∃ k : Nat, n = (k : Int) := ⟨n.natAbs, by omega⟩
    have hit : Lib.itoa (k : Int) = Lib.decDigits k := by rw [Lib.itoa, if_neg hn]; rfl
    rw [hit] at hl
    obtain ⟨a1, a2, a3⟩ := dec_all k
    obtain ⟨c, r, e, g1, g2⟩ := digits_head k
    have hh : hd (itoaB (k : Int)) = (c.toNat : Int) := hd_list (hl.trans e)
    have hneg : negB (itoaB (k : Int)) = false := by unfold negB; rw [hh]; simp; omega
    have hr : restB (itoaB (k : Int)) = itoaB (k : Int) := by unfold restB; rw [hneg, if_neg (by simp)]
    have hlen := len10 k (by omega)
    have hok : readOk (itoaB (k : Int)) = true := by
      unfold readOk magOk
      rw [hneg, hr]
      have h1 : 1 ≤ (itoaB (k : Int)).size := by rw [size_list, hl, e]; simp
      have h2 : (itoaB (k : Int)).size ≤ 10 := by rw [size_list, hl]; exact hlen
      rw [hl, a1, hh]
      by_cases hk : 1 ≤ k
      · have hc := a3 hk c r e
        have h3 : ((c.toNat : Int) == 48) = false := by simp; omega
        simp [h1, h2, h3]
      · have hk0 : k = 0 := by omega
        have h4 : (itoaB (k : Int)).size = 1 := by rw [size_list, hl, hk0, Lib.decDigits_one (by omega)]; rfl
        rw [h4]
        simp
    refine ⟨hok, ?_⟩
    unfold readV
    rw [if_pos hok, hneg, if_neg (by simp), hr, hl, a2]

end Go.Proofs.YtlnnblfkigcipaaDoor
