/- The statements' own Parse answers what the program's does. Conditions: none. -/
import Derived.Test.YtlnnblfkigcipaaDoorSyReadPl
import Derived.Lib.IndexBytes
namespace Go.Proofs.YtlnnblfkigcipaaDoor
open Go Go.RowKit

/-- A text's second byte. -/
def hd1 (t : ByteArray) : Int := if h : 1 < t.size then (t[1].toNat : Int) else 0

theorem hd1_list {t : ByteArray} {c d : UInt8} {r : List UInt8} (h : t.data.toList = c :: d :: r) : hd1 t = (d.toNat : Int) := by
  obtain ⟨⟨l⟩⟩ := t
  simp at h
  subst h
  rfl

def refB (t : ByteArray) : Bool := decide (1 < t.size) && capI (hd t) && !(hd1 t == 45)
def refS (t : ByteArray) : SymV := if refB t then ⟨1, t.extract 0 1, readV (t.extract 1 t.size)⟩ else ⟨2, ⟨#[]⟩, readV t⟩
def refO (t : ByteArray) : Bool := (if refB t then readOk (t.extract 1 t.size) else readOk t) && validB (refS t)

theorem parse_no {t : ByteArray} (h : parseOk t = false) : parseV t = ⟨0, ⟨#[]⟩, 0⟩ := by unfold parseV; rw [h, if_neg (by simp)]

theorem word_parse {t : ByteArray} (h : wordB t = true) : parseOk t = true ∧ parseV t = ⟨3, t, 0⟩ := by
  have hv : validB ⟨3, t, 0⟩ = true := by simp [validB, h]
  have ht : textB ⟨3, t, 0⟩ = t := by unfold textB; rw [if_pos hv, if_pos rfl]
  have := parse_text hv
  rwa [ht] at this

theorem cat_list (a b : ByteArray) : (a ++ b).data.toList = a.data.toList ++ b.data.toList := by simp

theorem ext_cat (t : ByteArray) : t.extract 0 1 ++ t.extract 1 t.size = t := by
  refine str_ext' ?_
  have h1 : (t.extract 0 1).data.toList = t.data.toList.take 1 := by rw [Lib.extract_data]; rfl
  have h2 : (t.extract 1 t.size).data.toList = t.data.toList.drop 1 := Lib.extract_to_end t 1
  rw [cat_list, h1, h2]
  exact List.take_append_drop 1 _

theorem textB_num {k n : Int} {s : ByteArray} (hv : validB ⟨k, s, n⟩ = true) (hk : ¬ k = 3) : textB ⟨k, s, n⟩ = s ++ itoaB n := by
  unfold textB
  rw [if_pos hv]
  exact if_neg hk

theorem ref_yes {t : ByteArray} (h : refO t = true) : parseOk t = true ∧ parseV t = refS t := by
  unfold refO at h
  simp only [Bool.and_eq_true] at h
  obtain ⟨h1, hv⟩ := h
  have ht : textB (refS t) = t := by
    cases hb : refB t
    · rw [hb, if_neg (by simp)] at h1
      have e : refS t = ⟨2, ⟨#[]⟩, readV t⟩ := by unfold refS; rw [hb, if_neg (by simp)]
      rw [e] at hv ⊢
      rw [textB_num hv (by decide), (read_sound h1).1]
      refine str_ext' ?_
      simp
    · rw [hb, if_pos rfl] at h1
      have e : refS t = ⟨1, t.extract 0 1, readV (t.extract 1 t.size)⟩ := by unfold refS; rw [hb, if_pos rfl]
      rw [e] at hv ⊢
      rw [textB_num hv (by decide), (read_sound h1).1]
      exact ext_cat t
  have := parse_text hv
  rwa [ht] at this

theorem ref_no {t : ByteArray} (hw : wordB t = false) (h : refO t = false) : parseOk t = false := by
  rw [← Bool.not_eq_true]
  intro hp
  have hp' := hp
  unfold parseOk at hp'
  simp only [Bool.and_eq_true, beq_iff_eq] at hp'
  obtain ⟨hv, ht⟩ := hp'
  have ht := toList_inj ht
  generalize guessV t = x at hv ht
  subst ht
  have hk : x.k = 1 ∨ x.k = 2 ∨ x.k = 3 := by
    have hv' := hv
    unfold validB at hv'
    split at hv'
    · exact .inl (by assumption)
    · split at hv'
      · exact .inr (.inl (by assumption))
      · split at hv'
        · exact .inr (.inr (by assumption))
        · cases hv'
  rcases hk with h1 | h2 | h3
  · have hv' := hv
    unfold validB at hv'
    rw [if_pos h1] at hv'
    simp only [Bool.and_eq_true, decide_eq_true_eq] at hv'
    obtain ⟨c, hc⟩ := list_one hv'.1.1.1
    have hhd := hd_list hc
    have htx : textB x = x.t ++ itoaB x.n := by
      unfold textB
      rw [if_pos hv, if_neg (by omega)]
    obtain ⟨k, hk⟩ : ∃ k : Nat, x.n = (k : Int) := ⟨x.n.toNat, by omega⟩
    obtain ⟨d, r, e, g1, g2⟩ := digits_head k
    have hit : Lib.itoa x.n = d :: r := by rw [hk, Lib.itoa, if_neg (by omega)]; exact e
    have hl : (textB x).data.toList = c :: d :: r := by rw [htx]; simp [hc, itoaB, hit]
    have hhd' := hd_list hl
    have hhd1 := hd1_list hl
    have hsz : 1 < (textB x).size := by rw [size_list, hl]; simp
    have hcap : capI (hd (textB x)) = true := by rw [hhd', ← hhd]; exact hv'.1.1.2
    have hB : refB (textB x) = true := by
      unfold refB
      rw [hcap, hhd1]
      have : ((d.toNat : Int) == 45) = false := by simp; omega
      simp [hsz, this]
    have e1 : (textB x).extract 0 1 = x.t := by
      refine str_ext' ?_
      rw [Lib.extract_data, hl, hc]
      simp
    have e2 : (textB x).extract 1 (textB x).size = itoaB x.n := by
      refine str_ext' ?_
      rw [Lib.extract_data, size_list, hl]
      simp [itoaB, hit]
    obtain ⟨r1, r2⟩ := read_itoa x.n (by omega) (by omega)
    have hS : refS (textB x) = x := by
      unfold refS
      rw [hB, if_pos rfl, e1, e2, r2, ← h1]
    have : refO (textB x) = true := by
      unfold refO
      rw [hS, hB, if_pos rfl, e2, r1, hv]
      rfl
    rw [this] at h
    cases h
  · have hv' := hv
    unfold validB at hv'
    rw [if_neg (by omega), if_pos h2] at hv'
    simp only [Bool.and_eq_true, decide_eq_true_eq] at hv'
    have ht0 : x.t = ⟨#[]⟩ := by
      refine str_ext' ?_
      exact List.length_eq_zero_iff.1 (by simpa using hv'.1.1)
    have htx : textB x = itoaB x.n := by
      unfold textB
      rw [if_pos hv, if_neg (by omega), ht0]
      refine str_ext' ?_
      simp
    have hl : ∃ c r, (textB x).data.toList = c :: r ∧ ((48 ≤ c.toNat ∧ c.toNat ≤ 57) ∨ c.toNat = 45) := by
      rw [htx]
      have : (itoaB x.n).data.toList = Lib.itoa x.n := by simp [itoaB]
      rw [this]
      unfold Lib.itoa
      split
      · exact ⟨45, _, rfl, .inr rfl⟩
      · obtain ⟨c, r, e, g1, g2⟩ := digits_head x.n.toNat
        exact ⟨c, r, e, .inl ⟨g1, g2⟩⟩
    obtain ⟨c, r, hl, hcr⟩ := hl
    have hhd := hd_list hl
    have hB : refB (textB x) = false := by
      have : capI (hd (textB x)) = false := by rw [hhd]; simp [capI]; omega
      unfold refB
      rw [this]
      simp
    obtain ⟨r1, r2⟩ := read_itoa x.n (by omega) (by omega)
    have hS : refS (textB x) = x := by
      unfold refS
      rw [hB, if_neg (by simp), htx, r2, ← h2, ← ht0]
    have : refO (textB x) = true := by
      unfold refO
      rw [hS, hB, if_neg (by simp), htx, r1, hv]
      rfl
    rw [this] at h
    cases h
  · have hv' := hv
    unfold validB at hv'
    rw [if_neg (by omega), if_neg (by omega), if_pos h3] at hv'
    simp only [Bool.and_eq_true, decide_eq_true_eq] at hv'
    have htx : textB x = x.t := by
      unfold textB
      rw [if_pos hv, if_pos h3]
    rw [htx, hv'.2] at hw
    cases hw

end Go.Proofs.YtlnnblfkigcipaaDoor
