/- What the program's span, wordSize, numSize, varSize, signSize, measure answer. Conditions: the text is not too long; the table of signs lies as the program lays it. -/
import Derived.Test.YtlnnblfkigcipaaDoorLxPl
import Derived.Test.YtlnnblfkigcipaaDoorShelf
import Derived.Shelf.Strings.SlTrimAscii
import Derived.Lib.IndexBytes
namespace Go.Proofs.YtlnnblfkigcipaaDoor
open Go Go.RowKit

theorem trim_T (s cs : ByteArray) (w : World) (hcs : cs.size < 4294967281) (ha : cs.data.toList.all (fun b => decide (b.toNat < 128)) = true) :
    Calls Tryd.prog 42 #[.string s, .string cs] w fun e w' => e = .returned (.string ⟨(Lib.trimLeftS s.data.toList cs.data.toList).toArray⟩) ∧ Below w.heap.size w w' :=
  Any.strings_TrimLeft_laid Tryd.lays161 (by kernel_rfl) s cs w hcs (ascii_of_all ha)

theorem idx_neg (l : List UInt8) (c : UInt8) : (-1 ≤ Lib.indexByte l c) ∧ (Lib.indexByte l c < 0 ↔ l.contains c = false) := by
  induction l with
  | nil => simp [Lib.indexByte]
  | cons b r ih =>
    obtain ⟨h1, h2⟩ := ih
    unfold Lib.indexByte
    by_cases hb : b == c
    · have : b = c := by simpa using hb
      subst this
      simp
    · have hne : ¬ c = b := by intro e; subst e; simp at hb
      rw [if_neg hb]
      by_cases h3 : Lib.indexByte r c = -1
      · rw [if_pos (by simp [h3])]
        have := h2.1 (by omega)
        refine ⟨by omega, ?_⟩
        simp at this
        simp [hne, this]
      · rw [if_neg (by simpa using h3)]
        have h4 : ¬ Lib.indexByte r c < 0 := by omega
        have h5 : ¬ r.contains c = false := fun h => h4 (h2.2 h)
        refine ⟨by omega, ⟨fun h => by omega, fun h => ?_⟩⟩
        exfalso; apply h5
        simp at h ⊢
        exact h.2

theorem str_empty {t : ByteArray} (h : t.data.toList = []) : t.toList = [] ∧ t.toList.isEmpty = true ∧ t.size = 0 := by
  have h1 : t.toList = [] := by rw [ByteArray.toList_eq]; exact h
  exact ⟨h1, by rw [h1]; rfl, by have := size_list t; rw [h] at this; exact this⟩

theorem str_cons {t : ByteArray} {c : UInt8} {r : List UInt8} (h : t.data.toList = c :: r) : t.toList.isEmpty = false ∧ ¬ t.toList = [] ∧ 0 < t.size ∧ ∀ h : 0 < t.size, t[0] = c := by
  have h1 : t.toList = c :: r := by rw [ByteArray.toList_eq]; exact h
  have h2 : 0 < t.size := by rw [size_list, h]; simp
  refine ⟨by rw [h1]; rfl, by rw [h1]; simp, h2, fun _ => ?_⟩
  obtain ⟨⟨l⟩⟩ := t
  simp at h
  subst h
  rfl

set_option maxRecDepth 100000 in
theorem span_T (w : World) (t cs : ByteArray) (p : UInt8 → Bool) (hm : t.size ≤ 100000) (hp : ∀ c, cs.data.toList.contains c = p c) (hcs : cs.size < 4294967281) (ha : cs.data.toList.all (fun b => decide (b.toNat < 128)) = true) :
    Calls Tryd.prog 33 #[.string t, .string cs] w fun e w' => e = .returned (.int .i64 ((t.data.toList.takeWhile p).length : Nat)) ∧ Below w.heap.size w w' := by
  have k := fun w => trim_T t cs w hcs ha
  have hl := span_len t.data.toList cs.data.toList p hp
  obtain ⟨u, hu⟩ : ∃ u : ByteArray, u = ⟨(Lib.trimLeftS t.data.toList cs.data.toList).toArray⟩ := ⟨_, rfl⟩
  have hus : u.size = (Lib.trimLeftS t.data.toList cs.data.toList).length := by rw [hu, size_list]
  rw [← hus, ← size_list] at hl
  rw [← hu] at k
  clear hu hus hp ha hcs
  generalize (t.data.toList.takeWhile p).length = n at hl ⊢
  have f1 : (t.size : Int) - (u.size : Int) = (n : Int) := by omega
  go_enter Tryd.func33, Tryd.ntmps33
  go_wp2_with fail
  refine (k _).mono ?_
  rintro e w' ⟨rfl, hB⟩
  go_wp2_with fail
  go_ret
  exact ⟨rfl, hB⟩

theorem small_idx (c : UInt8) : (Lib.indexByte smallS.data.toList c < 0) ↔ smallC c = false := by rw [(idx_neg _ _).2, small_set]

theorem span_le (l : List UInt8) (p : UInt8 → Bool) : (l.takeWhile p).length ≤ l.length := takeWhile_le p l

set_option maxRecDepth 100000 in
theorem word_size (w : World) (t : ByteArray) (hm : t.size ≤ 100000) :
    Calls Tryd.prog 36 #[.string t] w fun e w' => e = .returned (.int .i64 (wordN t.data.toList : Nat)) ∧ Below w.heap.size w w' := by
  have k := fun w => span_T w t innerS innC hm inner_set (by decide) (by decide +kernel)
  have k2 := fun c w => Tryd.strings_IndexByte smallS c w
  unfold smallS innerS at *
  cases hl : t.data.toList with
  | nil =>
    obtain ⟨e1, e2, e3⟩ := str_empty hl
    rw [hl] at k
    clear hl hm
    go_enter Tryd.func36, Tryd.ntmps36
    go_wp2_with fail
    go_ret
    exact ⟨rfl, Below.refl _ _⟩
  | cons c r =>
    obtain ⟨e1, e2, e3, e4⟩ := str_cons hl
    have e5 := e4 e3
    have k3 := small_idx c
    unfold smallS at k3
    have hw : (wordN (c :: r) : Int) = if smallC c then (((c :: r).takeWhile innC).length : Int) else 0 := by simp only [wordN]; split <;> rfl
    rw [hl] at k
    have Hw := Lib.hid hw
    clear hl hw e4
    subst e5
    have k4 := k2 (t[0].toNat : Int)
    simp only [Int.toNat_natCast, Nat.toUInt8_eq, UInt8.ofNat_toNat] at k4
    generalize Lib.indexByte _ t[0] = ix at k3 k4
    generalize smallC t[0] = sc at k3 Hw
    cases sc
    · have f1 : ix < 0 := k3.2 rfl
      clear k3
      go_enter Tryd.func36, Tryd.ntmps36
      go_wp2_with fail
      refine (k4 _).mono ?_
      rintro e w' ⟨rfl, rfl⟩
      go_wp2_with fail
      go_ret
      exact ⟨by rw [Hw.out]; rfl, Below.refl _ _⟩
    · have f1 : ¬ ix < 0 := fun h => by have := k3.1 h; cases this
      clear k3
      go_enter Tryd.func36, Tryd.ntmps36
      go_wp2_with fail
      refine (k4 _).mono ?_
      rintro e w' ⟨rfl, rfl⟩
      go_wp2_with fail
      refine (k _).mono ?_
      rintro e w' ⟨rfl, hB⟩
      go_wp2_with fail
      go_ret
      exact ⟨by rw [Hw.out]; rfl, hB⟩

theorem num_eq (l : List UInt8) : numN l = if ((Lib.trimPrefix l [45]).takeWhile digB).length = 0 then 0 else l.length - (Lib.trimPrefix l [45]).length + ((Lib.trimPrefix l [45]).takeWhile digB).length := by
  cases l with
  | nil => rfl
  | cons c r =>
    by_cases h : c = 45
    · subst h
      have e : Lib.trimPrefix ((45 : UInt8) :: r) [45] = r := by simp [Lib.trimPrefix, Lib.hasPrefix]
      rw [e]
      simp only [numN, beq_self_eq_true, if_true, List.length_cons]
      split
      · rfl
      · omega
    · have e : Lib.trimPrefix (c :: r) [45] = c :: r := by
        have : ¬ (45 : UInt8) = c := fun e => h e.symm
        simp [Lib.trimPrefix, Lib.hasPrefix, this]
      have h2 : (c == 45) = false := by simpa using h
      rw [e]
      simp only [numN, h2]
      split
      · rename_i h3; simp at h3
      · simp

theorem trim_len (l p : List UInt8) : (Lib.trimPrefix l p).length ≤ l.length := by
  unfold Lib.trimPrefix; split <;> simp

set_option maxRecDepth 100000 in
theorem num_size (w : World) (t : ByteArray) (hm : t.size ≤ 100000) :
    Calls Tryd.prog 37 #[.string t] w fun e w' => e = .returned (.int .i64 (numN t.data.toList : Nat)) ∧ Below w.heap.size w w' := by
  have k1 := fun w => Tryd.strings_TrimPrefix t ⟨#[45]⟩ w
  have hn := num_eq t.data.toList
  have hle := trim_len t.data.toList [45]
  obtain ⟨u, hu⟩ : ∃ u : ByteArray, u = ⟨(Lib.trimPrefix t.data.toList [45]).toArray⟩ := ⟨_, rfl⟩
  have hud : u.data.toList = Lib.trimPrefix t.data.toList [45] := by rw [hu]
  have hus : u.size = (Lib.trimPrefix t.data.toList [45]).length := by rw [size_list, hud]
  have k2 := fun w => span_T w u digitS digB (by rw [← size_list] at hle; omega) digit_set (by decide) (by decide +kernel)
  rw [← hus, ← size_list] at hle
  rw [← hud, ← size_list, ← size_list] at hn
  change ∀ w, Calls _ _ _ w fun e w' => e = .returned (.string ⟨(Lib.trimPrefix t.data.toList [45]).toArray⟩) ∧ w' = w at k1
  rw [← hu] at k1
  unfold digitS at k2
  clear hu hud hus
  have hd := span_le u.data.toList digB
  rw [← size_list] at hd
  generalize (u.data.toList.takeWhile digB).length = n at k2 hn hd
  generalize numN t.data.toList = m at hn ⊢
  by_cases h0 : n = 0
  · subst h0
    rw [if_pos rfl] at hn
    subst hn
    go_enter Tryd.func37, Tryd.ntmps37
    go_wp2_with fail
    refine (k1 _).mono ?_
    rintro e w' ⟨rfl, rfl⟩
    go_wp2_with fail
    refine (k2 _).mono ?_
    rintro e w' ⟨rfl, hB⟩
    go_wp2_with fail
    go_ret
    exact ⟨rfl, hB⟩
  · rw [if_neg h0] at hn
    have f1 : ((n : Int) = 0) = False := eq_false (by omega)
    have f2 : ((n : Int) == 0) = false := by simpa using h0
    have f3 : (t.size : Int) - (u.size : Int) + (n : Int) = (m : Int) := by omega
    go_enter Tryd.func37, Tryd.ntmps37
    go_wp2_with fail
    refine (k1 _).mono ?_
    rintro e w' ⟨rfl, rfl⟩
    go_wp2_with fail
    refine (k2 _).mono ?_
    rintro e w' ⟨rfl, hB⟩
    go_wp2_with fail
    go_ret
    exact ⟨by first | rfl | (simp; omega), hB⟩

theorem var_eq (l : List UInt8) : varN l = if Lib.hasPrefix l [60] && decide (wordN (Lib.trimPrefix l [60]) ≠ 0) && Lib.hasPrefix ((Lib.trimPrefix l [60]).drop (wordN (Lib.trimPrefix l [60]))) [62] then wordN (Lib.trimPrefix l [60]) + 2 else 0 := by
  cases l with
  | nil => rfl
  | cons c r =>
    by_cases h : c = 60
    · subst h
      have e : Lib.trimPrefix ((60 : UInt8) :: r) [60] = r := by simp [Lib.trimPrefix, Lib.hasPrefix]
      have e2 : Lib.hasPrefix ((60 : UInt8) :: r) [60] = true := by simp [Lib.hasPrefix]
      have e3 : ∀ m : List UInt8, (m.head? == some 62) = Lib.hasPrefix m [62] := by
        intro m
        cases m with
        | nil => rfl
        | cons a b =>
          by_cases ha : a = 62
          · subst ha; rfl
          · have ha' : ¬ (62 : UInt8) = a := fun e => ha e.symm
            have h1 : (a == 62) = false := by simpa using ha
            have h2 : ((62 : UInt8) == a) = false := by simpa using ha'
            show (some a == some 62) = ((62 : UInt8) == a && true)
            rw [h2]
            exact h1
      rw [e, e2]
      simp only [varN, beq_self_eq_true, Bool.true_and, e3]
    · have e2 : Lib.hasPrefix (c :: r) [60] = false := by
        have : ¬ (60 : UInt8) = c := fun e => h e.symm
        simp [Lib.hasPrefix, List.isPrefixOf, this]
      have h2 : (c == 60) = false := by simpa using h
      rw [e2]
      simp only [varN, h2]
      simp

set_option maxRecDepth 100000 in
theorem var_size (w : World) (t : ByteArray) (hm : t.size ≤ 100000) :
    Calls Tryd.prog 38 #[.string t] w fun e w' => e = .returned (.int .i64 (varN t.data.toList : Nat)) ∧ Below w.heap.size w w' := by
  have k1 := fun w => Tryd.strings_CutPrefix t ⟨#[60]⟩ w
  have hn := var_eq t.data.toList
  have hle := trim_len t.data.toList [60]
  obtain ⟨u, hu⟩ : ∃ u : ByteArray, u = ⟨(Lib.trimPrefix t.data.toList [60]).toArray⟩ := ⟨_, rfl⟩
  have hud : u.data.toList = Lib.trimPrefix t.data.toList [60] := by rw [hu]
  have hus : u.size = (Lib.trimPrefix t.data.toList [60]).length := by rw [size_list, hud]
  rw [← hus, ← size_list] at hle
  have k2 := fun w => word_size w u (by omega)
  have k3 := fun w => Tryd.strings_HasPrefix (u.extract (wordN u.data.toList) u.size) ⟨#[62]⟩ w
  rw [← hud] at hn
  change ∀ w, Calls _ _ _ w fun e w' => e = .returned (.tuple #[.string ⟨(Lib.trimPrefix t.data.toList [60]).toArray⟩, .bool (Lib.hasPrefix t.data.toList [60])]) ∧ w' = w at k1
  change ∀ w, Calls _ _ _ w fun e w' => e = .returned (.bool (Lib.hasPrefix (u.extract (wordN u.data.toList) u.size).data.toList [62])) ∧ w' = w at k3
  rw [Lib.extract_to_end] at k3
  rw [← hu] at k1
  clear hu hud hus
  have hwl := word_le u.data.toList
  rw [← size_list] at hwl
  generalize wordN u.data.toList = n at k2 k3 hn hwl
  generalize Lib.hasPrefix t.data.toList [60] = b1 at k1 hn
  generalize Lib.hasPrefix (u.data.toList.drop n) [62] = b2 at k3 hn
  generalize varN t.data.toList = m at hn ⊢
  have Hle := Lib.hid hle
  cases b1
  · obtain rfl : m = 0 := by simpa using hn
    clear hn
    go_enter Tryd.func38, Tryd.ntmps38
    go_wp2_with fail
    refine (k1 _).mono ?_
    rintro e w' ⟨rfl, rfl⟩
    go_wp2_with fail
    go_ret
    exact ⟨rfl, Below.refl _ _⟩
  · by_cases h0 : n = 0
    · subst h0
      obtain rfl : m = 0 := by simpa using hn
      clear hn
      clear k3
      go_enter Tryd.func38, Tryd.ntmps38
      go_wp2_with fail
      refine (k1 _).mono ?_
      rintro e w' ⟨rfl, rfl⟩
      go_wp2_with fail
      refine (k2 _).mono ?_
      rintro e w' ⟨rfl, hB⟩
      go_wp2_with fail
      go_ret
      exact ⟨rfl, hB⟩
    · have f1 : ((n : Int) = 0) = False := eq_false (by omega)
      have f2 : ((n : Int) == 0) = false := by simpa using h0
      have f4 : ((n : Int) ≤ (u.size : Int)) = True := eq_true (by omega)
      have f5 : (0 ≤ (n : Int)) = True := eq_true (by omega)
      cases b2
      · obtain rfl : m = 0 := by simpa using hn
        clear hn
        go_enter Tryd.func38, Tryd.ntmps38
        go_wp2_with fail
        refine (k1 _).mono ?_
        rintro e w' ⟨rfl, rfl⟩
        go_wp2_with fail
        refine (k2 _).mono ?_
        rintro e w' ⟨rfl, hB⟩
        go_wp2_with fail
        refine (k3 _).mono ?_
        rintro e w2 ⟨rfl, rfl⟩
        go_wp2_with fail
        go_ret
        exact ⟨rfl, hB⟩
      · have hm2 : m = n + 2 := by simpa [h0] using hn
        have Hm2 := Lib.hid hm2
        clear hm2 hn
        go_enter Tryd.func38, Tryd.ntmps38
        go_wp2_with fail
        refine (k1 _).mono ?_
        rintro e w' ⟨rfl, rfl⟩
        go_wp2_with fail
        refine (k2 _).mono ?_
        rintro e w' ⟨rfl, hB⟩
        go_wp2_with fail
        refine (k3 _).mono ?_
        rintro e w2 ⟨rfl, rfl⟩
        go_wp2_with fail
        go_ret
        refine ⟨?_, hB⟩
        rw [Hm2.out]
        first | rfl | (simp; omega)

end Go.Proofs.YtlnnblfkigcipaaDoor
