/- What the program's next answers. Conditions: the text is not too long; the tables lie as the program lays them. -/
import Derived.Test.YtlnnblfkigcipaaDoorLxFitS
import Derived.Test.YtlnnblfkigcipaaDoorBoxSK
namespace Go.Proofs.YtlnnblfkigcipaaDoor
open Go Go.RowKit

/-- What the program's variables hold. -/
def EnvX (w : World) : Prop := Env w ∧ SignsAt w

theorem EnvX.below {w w' : World} (h : EnvX w) (hB : Below w.heap.size w w') : EnvX w' := ⟨h.1.below hB, h.2.below hB⟩

def nextV (N : Nat) (l : List UInt8) : SymV := if skipM false l = [] then ⟨5, ⟨#[]⟩, N⟩ else tokL (skipM false l) (N - (skipM false l).length)
def nextN (N : Nat) (l : List UInt8) : Nat := if skipM false l = [] then N else N - (skipM false l).length + (measL (skipM false l)).2

theorem whole_eq (t : ByteArray) (p n : Nat) : t.extract p (p + n) = wholeL (t.data.toList.drop p) n := by
  refine str_ext' ?_
  rw [Lib.extract_data]
  simp [wholeL]

theorem whole_size (l : List UInt8) (n : Nat) (h : n ≤ l.length) : (wholeL l n).size = n := by rw [size_list]; simp [wholeL]; omega

theorem name_eq (l : List UInt8) (n : Nat) (h : n ≤ l.length) : (wholeL l n).extract 1 (n - 1) = nameL l n := by
  refine str_ext' ?_
  rw [Lib.extract_data]
  have : (wholeL l n).data.toList = l.take n := by simp [wholeL]
  rw [this]
  simp only [nameL]
  rw [List.drop_take, List.drop_take, List.take_take]
  congr 1
  omega

/-- A word's bounds. -/
theorem word_fits (l : List UInt8) (n : Nat) (hn : n = wordN l) (h0 : n ≠ 0) : wordB (wholeL l n) = decide (n ≤ 32) := by
  cases l with
  | nil => exact absurd hn h0
  | cons c r =>
    simp only [wordN] at hn
    by_cases hc : smallC c = true
    · rw [if_pos hc] at hn
      have hw : (wholeL (c :: r) n).data.toList = (c :: r).takeWhile innC := by
        simp only [wholeL]
        rw [hn]
        exact (takeWhile_take innC (c :: r)).symm
      have hs : (wholeL (c :: r) n).size = n := whole_size _ _ (by rw [hn]; exact takeWhile_le _ _)
      have hi := (small_inn c hc).1
      have hh : hd (wholeL (c :: r) n) = (c.toNat : Int) := hd_list (r := r.takeWhile innC) (by rw [hw]; simp [hi])
      unfold wordB
      rw [hs, hh]
      have h1 : smallI (c.toNat : Int) = true := hc
      have h2 : innerAll (wholeL (c :: r) n) = true := by
        unfold innerAll
        rw [hw]
        exact List.all_takeWhile
      have h3 : 0 < n := by omega
      simp [h1, h2, h3]
    · rw [if_neg hc] at hn
      exact absurd hn h0

theorem var_head {l : List UInt8} (h : varN l ≠ 0) : ∃ r, l = 60 :: r ∧ wordN r ≠ 0 ∧ varN l = wordN r + 2 ∧ (r.drop (wordN r)).head? = some 62 := by
  cases l with
  | nil => exact absurd rfl h
  | cons c r =>
    simp only [varN] at h ⊢
    split at h
    · rename_i hc
      rw [if_pos hc]
      simp only [Bool.and_eq_true, beq_iff_eq, decide_eq_true_eq] at hc
      obtain ⟨⟨h1, h2⟩, h3⟩ := hc
      exact ⟨r, by rw [h1], h2, rfl, h3⟩
    · exact absurd rfl h

theorem meas_cases (l : List UInt8) : ((measL l).1 = 1 ∧ (measL l).2 = wordN l ∧ wordN l ≠ 0) ∨ ((measL l).1 = 2 ∧ (measL l).2 = numN l ∧ numN l ≠ 0 ∧ wordN l = 0) ∨ ((measL l).1 = 3 ∧ (measL l).2 = varN l ∧ varN l ≠ 0 ∧ wordN l = 0 ∧ numN l = 0) ∨
    ((measL l).1 = 4 ∧ (measL l).2 = signIn signsL l ∧ signIn signsL l ≠ 0 ∧ wordN l = 0 ∧ numN l = 0 ∧ varN l = 0) ∨ ((measL l).1 = 6 ∧ (measL l).2 = 1 ∧ wordN l = 0 ∧ numN l = 0 ∧ varN l = 0 ∧ signIn signsL l = 0) := by
  unfold measL
  by_cases h1 : wordN l = 0
  · by_cases h2 : numN l = 0
    · by_cases h3 : varN l = 0
      · by_cases h4 : signIn signsL l = 0
        · simp [h1, h2, h3, h4]
        · simp [h1, h2, h3, h4]
      · simp [h1, h2, h3]
    · simp [h1, h2]
  · simp [h1]

theorem num_head {l : List UInt8} (h : numN l ≠ 0) : ∃ c r, l = c :: r ∧ (c = 45 ∨ digB c = true) := by
  cases l with
  | nil => exact absurd rfl h
  | cons c r =>
    refine ⟨c, r, rfl, ?_⟩
    simp only [numN] at h
    by_cases hc : c == 45
    · exact .inl (by simpa using hc)
    · rw [if_neg hc] at h
      refine .inr ?_
      by_cases hd : digB c = true
      · exact hd
      · simp [hd] at h

theorem num_parse (l : List UInt8) (n : Nat) (h : numN l ≠ 0) (hn : n ≠ 0) : parseOk (wholeL l n) = numOk (wholeL l n) := by
  obtain ⟨c, r, rfl, hc⟩ := num_head h
  have hh : hd (wholeL (c :: r) n) = (c.toNat : Int) := by
    cases n with
    | zero => exact absurd rfl hn
    | succ n => exact hd_list (r := r.take n) (by simp [wholeL])
  have hcn : c.toNat = 45 ∨ (48 ≤ c.toNat ∧ c.toNat ≤ 57) := by
    rcases hc with rfl | hc
    · exact .inl rfl
    · exact .inr (by simpa [digB] using hc)
  generalize wholeL (c :: r) n = t at hh ⊢
  have hw : wordB t = false := by
    have : smallI (hd t) = false := by rw [hh]; simp [smallI]; omega
    simp [wordB, this]
  have hB : refB t = false := by
    have : capI (hd t) = false := by rw [hh]; simp [capI]; omega
    simp [refB, this]
  have hO : refO t = numOk t := by
    unfold refO refS
    rw [hB, if_neg (by simp), if_neg (by simp)]
    have e0 : (({ data := #[] } : ByteArray) = ByteArray.empty) := rfl
    simp [numOk, validB, Bool.and_assoc, e0]
  cases h1 : refO t
  · rw [← hO, h1]; exact ref_no hw h1
  · rw [← hO, h1]; exact (ref_yes h1).1

theorem fits_ok (l : List UInt8) : okL (measL l).1 l (measL l).2 = fitsB (measL l).1 (if (measL l).1 = 3 then nameL l (measL l).2 else wholeL l (measL l).2) := by
  rcases meas_cases l with ⟨h1, h2, h3⟩ | ⟨h1, h2, h3⟩ | ⟨h1, h2, h3, -⟩ | ⟨h1, h2, h3⟩ | ⟨h1, h2, h3⟩
  · rw [h1, h2]
    have := word_fits l _ rfl h3
    simp [okL, fitsB, this]
  · rw [h1, h2]
    have := num_parse l _ h3.1 h3.1
    simp [okL, fitsB, this]
  · rw [h1, h2]
    obtain ⟨r, rfl, h4, h5, -⟩ := var_head h3
    have e : nameL (60 :: r) (varN (60 :: r)) = wholeL r (wordN r) := by
      rw [h5]
      simp [nameL, wholeL]
    have := word_fits r _ rfl h4
    rw [if_pos rfl, e]
    simp [okL, fitsB, this, h5]
  · rw [h1]; simp [okL, fitsB]
  · rw [h1]; simp [okL, fitsB]

set_option maxRecDepth 100000 in
set_option maxHeartbeats 1600000 in
theorem next_end (w : World) (t : ByteArray) (i : Nat) (hm : t.size ≤ 100000) (hi : i ≤ t.size) (hE : EnvX w) (hq : skipM false (t.data.toList.drop i) = []) :
    Calls Tryd.prog 22 #[.string t, .int .i64 i] w fun e w' => e = .returned (.tuple #[.agg #[.int .i64 5, .string ⟨#[]⟩, .int .i64 t.size], .int .i64 t.size]) ∧ Below w.heap.size w w' := by
  have hB0 : Below w.heap.size w (w.alloc (.cells #[.int .i64 0, .string ⟨#[]⟩, .int .i64 0] 30)) := (Below.refl _ w).alloc (Nat.le_refl _) _
  have hb0 := heap_alloc_new w (.cells #[.int .i64 0, .string ⟨#[]⟩, .int .i64 0] 30)
  have k1 := skip_T (w.alloc (.cells #[.int .i64 0, .string ⟨#[]⟩, .int .i64 0] 30)) t i hm hi
  rw [hq] at k1
  simp only [List.length_nil, Nat.sub_zero] at k1
  clear hq
  go_enter Tryd.func22, Tryd.ntmps22
  go_wp2_with fail
  generalize (w.alloc (.cells #[.int .i64 0, .string ⟨#[]⟩, .int .i64 0] 30)) = W0 at hB0 hb0 k1 ⊢
  refine k1.mono ?_
  rintro e w1 ⟨rfl, hB1⟩
  have hb1 := (hB1.block _ (lt_of_block hb0)).trans hb0
  have hC1 := hB0.trans (hB1.mono hB0.size)
  obtain ⟨z0, z1, z2, z3, z4, z5⟩ := K.zero_cells hb1
  have Hb1 := Lib.hid hb1
  clear hb1 hb0
  go_wp2_with fail
  have hm2 := K.mem_sto w1 w.heap.size ⟨5, ⟨#[]⟩, t.size⟩ Hb1.out
  have hB5 := K.below_but hC1 (K.but_sto w1 w.heap.size ⟨5, ⟨#[]⟩, t.size⟩) (Nat.le_refl _) hC1.size
  dsimp only at hm2 hB5
  generalize (((w1.setCell ⟨w.heap.size, 0, none⟩ _).setCell ⟨w.heap.size, 1, none⟩ _).setCell ⟨w.heap.size, 2, none⟩ _) = W at hm2 hB5 ⊢
  exact bodyPost_ret (v := .tuple #[.agg #[.int .i64 5, .string ⟨#[]⟩, .int .i64 t.size], .int .i64 t.size]) (by simp [results, Tryd.results22, go_sem, hm2]) rfl ⟨rfl, hB5⟩

set_option maxRecDepth 100000 in
set_option maxHeartbeats 3200000 in
theorem next_tok (w : World) (t : ByteArray) (i p n : Nat) (q : List UInt8) (kd : Int) (hm : t.size ≤ 100000) (hi : i ≤ t.size) (hE : EnvX w) (hq : skipM false (t.data.toList.drop i) = q) (hp : t.size - q.length = p) (hpl : p < t.size) (hqd : t.data.toList.drop p = q)
    (hk : (measL q).1 = kd) (hn : (measL q).2 = n) (hn1 : 1 ≤ n) (hn2 : p + n ≤ t.size) (h3 : kd = 3 → 2 ≤ n) :
    Calls Tryd.prog 22 #[.string t, .int .i64 i] w fun e w' => e = .returned (.tuple #[.agg #[.int .i64 (tokL q p).k, .string (tokL q p).t, .int .i64 (tokL q p).n], .int .i64 (p + n : Nat)]) ∧ Below w.heap.size w w' := by
  have hB0 : Below w.heap.size w (w.alloc (.cells #[.int .i64 0, .string ⟨#[]⟩, .int .i64 0] 30)) := (Below.refl _ w).alloc (Nat.le_refl _) _
  have hb0 := heap_alloc_new w (.cells #[.int .i64 0, .string ⟨#[]⟩, .int .i64 0] 30)
  have k1 := skip_T (w.alloc (.cells #[.int .i64 0, .string ⟨#[]⟩, .int .i64 0] 30)) t i hm hi
  rw [hq, hp] at k1
  have hxs : t.extract p t.size = wholeL q (t.size - p) := by rw [show t.size = p + (t.size - p) by omega, whole_eq, hqd]; congr 1; omega
  have hxl : (t.extract p t.size).data.toList = q := by rw [Lib.extract_to_end, hqd]
  have k2 := fun w h => meas_T w (t.extract p t.size) (by rw [size_list, hxl, ← hqd, List.length_drop, ← size_list]; omega) h
  rw [hxl, hk, hn] at k2
  have hwh : t.extract p (p + n) = wholeL q n := by rw [whole_eq, hqd]
  have hql : n ≤ q.length := by rw [← hqd, List.length_drop, ← size_list]; omega
  have hws := whole_size q n hql
  have hnm := name_eq q n hql
  have hfo := fits_ok q
  have htk : tokL q p = if okL (measL q).1 q (measL q).2 then (if (measL q).1 = 3 then ⟨3, nameL q (measL q).2, p⟩ else ⟨(measL q).1, wholeL q (measL q).2, p⟩) else ⟨6, wholeL q (measL q).2, p⟩ := rfl
  rw [hk, hn] at hfo htk
  have hns : (nameL q n).size ≤ 100000 := by rw [← hnm]; simp [ByteArray.size_extract]; omega
  have hws2 : (wholeL q n).size ≤ 100000 := by omega
  generalize wholeL q n = wh at hwh hws hnm hfo htk hws2
  generalize nameL q n = nm at hnm hfo htk hns
  generalize okL kd q n = ok at hfo htk
  generalize tokL q p = tk at htk ⊢
  clear hq hp hxs hxl hqd hk hn hql
  obtain ⟨e, he⟩ : ∃ e, e = p + n := ⟨_, rfl⟩
  rw [← he] at hwh ⊢
  have f1 : (p : Int) + (n : Int) = (e : Int) := by omega
  have f2 : ((p : Int) = (t.size : Int)) = False := eq_false (by omega)
  have f3 : ((p : Int) == (t.size : Int)) = false := by simp; omega
  have g1 : ((p : Int) ≤ (t.size : Int)) = True := eq_true (by omega)
  have g2 : ((e : Int) ≤ (t.size : Int)) = True := eq_true (by omega)
  have g3 : ((p : Int) ≤ (e : Int)) = True := eq_true (by omega)
  have g4 : e ≤ t.size := by omega
  have g5 : p ≤ e := by omega
  have g6 : p ≤ t.size := by omega
  have He := Lib.hid he
  clear he hpl hn2
  go_enter Tryd.func22, Tryd.ntmps22
  go_wp2_with fail
  generalize (w.alloc (.cells #[.int .i64 0, .string ⟨#[]⟩, .int .i64 0] 30)) = W0 at hB0 hb0 k1 ⊢
  refine k1.mono ?_
  rintro e' w1 ⟨rfl, hB1⟩
  have hb1 := (hB1.block _ (lt_of_block hb0)).trans hb0
  have hC1 := hB0.trans (hB1.mono hB0.size)
  clear hb0
  go_wp2_with fail
  refine (k2 _ (hE.2.below hC1)).mono ?_
  rintro e' w2 ⟨rfl, hB2⟩
  have hb2 := (hB2.block _ (lt_of_block hb1)).trans hb1
  have hC2 := hC1.trans (hB2.mono hC1.size)
  have hE2 := hE.below hC2
  have l2 := lt_of_block hb2
  clear hb1 k1 k2
  by_cases hK : kd = 3
  · subst hK
    have hn2 := h3 rfl
    obtain ⟨n1, hn1'⟩ : ∃ n1, n = n1 + 1 := ⟨n - 1, by omega⟩
    have f5 : (n : Int) - 1 = (n1 : Int) := by omega
    have f6 : 1 ≤ n1 := by omega
    have f7 : n1 ≤ wh.size := by omega
    rw [if_pos rfl] at hfo htk
    rw [show n - 1 = n1 by omega] at hnm
    have f8 : ((n1 : Int) ≤ (wh.size : Int)) = True := eq_true (by omega)
    have f9 : (1 ≤ (n1 : Int)) = True := eq_true (by omega)
    clear h3 hn2 hn1' hn1
    have hBn : Below w2.heap.size w2 (w2.alloc (.cells #[.int .i64 3, .string nm, .int .i64 p] 30)) := (Below.refl _ w2).alloc (Nat.le_refl _) _
    have hxn := heap_alloc_new w2 (.cells #[.int .i64 3, .string nm, .int .i64 p] 30)
    have hbn := (hBn.block _ l2).trans hb2
    have Hbn := Lib.hid hbn
    clear hb2 hbn
    go_wp2_with fail
    generalize (w2.alloc (.cells #[.int .i64 3, .string nm, .int .i64 p] 30)) = W3 at hBn hxn Hbn ⊢
    have hC3 := hC2.trans (hBn.mono hC2.size)
    have hne : ¬ w2.heap.size = w.heap.size := by omega
    have hne2 : ¬ w.heap.size = w2.heap.size := by omega
    refine (fits_T W3 ⟨3, nm, p⟩ hns (hE2.below hBn).1).mono ?_
    dsimp only
    rw [← hfo]
    rintro e' w4 ⟨rfl, hB4⟩
    have hx4 := (hB4.block _ (lt_of_block hxn)).trans hxn
    have hb4 := (hB4.block _ (lt_of_block Hbn.out)).trans Hbn.out
    have hC4 := hC3.trans (hB4.mono hC3.size)
    obtain ⟨y0, y1, y2, y3, y4⟩ : w4.cell? ⟨w2.heap.size, 0, none⟩ = some (.int .i64 3) ∧ w4.cell? ⟨w2.heap.size, 1, none⟩ = some (.string nm) ∧ w4.cell? ⟨w2.heap.size, 2, none⟩ = some (.int .i64 p) ∧ w4.frozen? ⟨w2.heap.size, 0, none⟩ = false ∧ w4.frozen? ⟨w2.heap.size, 1, none⟩ = false := by simp [World.cell?, World.frozen?, hx4]
    obtain ⟨z0, z1, z2, z3, z4, z5⟩ := K.zero_cells hb4
    have Hb4 := Lib.hid hb4
    have Htk := Lib.hid htk
    clear hb4 hx4 hxn htk hfo
    cases ok
    · have hb5 : ((w4.setCell ⟨w2.heap.size, 0, none⟩ (.int .i64 6)).setCell ⟨w2.heap.size, 1, none⟩ (.string wh)).heap[w.heap.size]? = some (.cells #[.int .i64 0, .string ⟨#[]⟩, .int .i64 0] 30 (0, 0)) :=
        (Below.heap_setCell _ _ _ _ (by show w.heap.size ≠ w2.heap.size; omega)).trans ((Below.heap_setCell _ _ _ _ (by show w.heap.size ≠ w2.heap.size; omega)).trans Hb4.out)
      have hC5 : Below w.heap.size w ((w4.setCell ⟨w2.heap.size, 0, none⟩ (.int .i64 6)).setCell ⟨w2.heap.size, 1, none⟩ (.string wh)) := (hC4.setCell (by show w.heap.size ≤ w2.heap.size; omega) _).setCell (by show w.heap.size ≤ w2.heap.size; omega) _
      have hm2 := K.mem_sto _ w.heap.size ⟨6, wh, p⟩ hb5
      have hB6 := K.below_but hC5 (K.but_sto _ w.heap.size ⟨6, wh, p⟩) (Nat.le_refl _) hC5.size
      have Hm2 := Lib.hid hm2
      clear hb5 hm2
      go_wp2_with fail
      have hm2 := Hm2.out
      generalize (World.setCell (World.setCell (World.setCell _ ⟨w.heap.size, 0, none⟩ _) ⟨w.heap.size, 1, none⟩ _) ⟨w.heap.size, 2, none⟩ _) = W at hm2 hB6 ⊢
      exact bodyPost_ret (v := .tuple #[.agg #[.int .i64 6, .string wh, .int .i64 p], .int .i64 e]) (by simp [results, Tryd.results22, go_sem, hm2]) rfl ⟨by rw [Htk.out, He.out]; rfl, hB6⟩
    · have hm2 := K.mem_sto w4 w.heap.size ⟨3, nm, p⟩ Hb4.out
      have hB6 := K.below_but hC4 (K.but_sto w4 w.heap.size ⟨3, nm, p⟩) (Nat.le_refl _) hC4.size
      have Hm2 := Lib.hid hm2
      clear hm2
      go_wp2_with fail
      have hm2 := Hm2.out
      generalize (World.setCell (World.setCell (World.setCell _ ⟨w.heap.size, 0, none⟩ _) ⟨w.heap.size, 1, none⟩ _) ⟨w.heap.size, 2, none⟩ _) = W at hm2 hB6 ⊢
      exact bodyPost_ret (v := .tuple #[.agg #[.int .i64 3, .string nm, .int .i64 p], .int .i64 e]) (by simp [results, Tryd.results22, go_sem, hm2]) rfl ⟨by rw [Htk.out, He.out]; rfl, hB6⟩
  · have b3 : (kd == 3) = false := by simpa using hK
    rw [if_neg hK] at hfo htk
    have hBn : Below w2.heap.size w2 (w2.alloc (.cells #[.int .i64 kd, .string wh, .int .i64 p] 30)) := (Below.refl _ w2).alloc (Nat.le_refl _) _
    have hxn := heap_alloc_new w2 (.cells #[.int .i64 kd, .string wh, .int .i64 p] 30)
    have hbn := (hBn.block _ l2).trans hb2
    have Hbn := Lib.hid hbn
    clear hK hb2 hbn
    go_wp2_with fail
    generalize (w2.alloc (.cells #[.int .i64 kd, .string wh, .int .i64 p] 30)) = W3 at hBn hxn Hbn ⊢
    have hC3 := hC2.trans (hBn.mono hC2.size)
    obtain ⟨x0, x1, x2⟩ : W3.cell? ⟨w2.heap.size, 0, none⟩ = some (.int .i64 kd) ∧ W3.cell? ⟨w2.heap.size, 1, none⟩ = some (.string wh) ∧ W3.cell? ⟨w2.heap.size, 2, none⟩ = some (.int .i64 p) := by simp [World.cell?, hxn]
    have hne : ¬ w2.heap.size = w.heap.size := by omega
    have hne2 : ¬ w.heap.size = w2.heap.size := by omega
    refine (fits_T W3 ⟨kd, wh, p⟩ hws2 (hE2.below hBn).1).mono ?_
    dsimp only
    rw [← hfo]
    rintro e' w4 ⟨rfl, hB4⟩
    have hx4 := (hB4.block _ (lt_of_block hxn)).trans hxn
    have hb4 := (hB4.block _ (lt_of_block Hbn.out)).trans Hbn.out
    have hC4 := hC3.trans (hB4.mono hC3.size)
    obtain ⟨y0, y1, y2, y3, y4⟩ : w4.cell? ⟨w2.heap.size, 0, none⟩ = some (.int .i64 kd) ∧ w4.cell? ⟨w2.heap.size, 1, none⟩ = some (.string wh) ∧ w4.cell? ⟨w2.heap.size, 2, none⟩ = some (.int .i64 p) ∧ w4.frozen? ⟨w2.heap.size, 0, none⟩ = false ∧ w4.frozen? ⟨w2.heap.size, 1, none⟩ = false := by simp [World.cell?, World.frozen?, hx4]
    obtain ⟨z0, z1, z2, z3, z4, z5⟩ := K.zero_cells hb4
    have Hb4 := Lib.hid hb4
    have Htk := Lib.hid htk
    clear hb4 hx4 hxn htk hfo
    cases ok
    · have hb5 : ((w4.setCell ⟨w2.heap.size, 0, none⟩ (.int .i64 6)).setCell ⟨w2.heap.size, 1, none⟩ (.string wh)).heap[w.heap.size]? = some (.cells #[.int .i64 0, .string ⟨#[]⟩, .int .i64 0] 30 (0, 0)) :=
        (Below.heap_setCell _ _ _ _ (by show w.heap.size ≠ w2.heap.size; omega)).trans ((Below.heap_setCell _ _ _ _ (by show w.heap.size ≠ w2.heap.size; omega)).trans Hb4.out)
      have hC5 : Below w.heap.size w ((w4.setCell ⟨w2.heap.size, 0, none⟩ (.int .i64 6)).setCell ⟨w2.heap.size, 1, none⟩ (.string wh)) := (hC4.setCell (by show w.heap.size ≤ w2.heap.size; omega) _).setCell (by show w.heap.size ≤ w2.heap.size; omega) _
      have hm2 := K.mem_sto _ w.heap.size ⟨6, wh, p⟩ hb5
      have hB6 := K.below_but hC5 (K.but_sto _ w.heap.size ⟨6, wh, p⟩) (Nat.le_refl _) hC5.size
      have Hm2 := Lib.hid hm2
      clear hb5 hm2
      go_wp2_with fail
      have hm2 := Hm2.out
      generalize (World.setCell (World.setCell (World.setCell _ ⟨w.heap.size, 0, none⟩ _) ⟨w.heap.size, 1, none⟩ _) ⟨w.heap.size, 2, none⟩ _) = W at hm2 hB6 ⊢
      exact bodyPost_ret (v := .tuple #[.agg #[.int .i64 6, .string wh, .int .i64 p], .int .i64 e]) (by simp [results, Tryd.results22, go_sem, hm2]) rfl ⟨by rw [Htk.out, He.out]; rfl, hB6⟩
    · have hm2 := K.mem_sto w4 w.heap.size ⟨kd, wh, p⟩ Hb4.out
      have hB6 := K.below_but hC4 (K.but_sto w4 w.heap.size ⟨kd, wh, p⟩) (Nat.le_refl _) hC4.size
      have Hm2 := Lib.hid hm2
      clear hm2
      go_wp2_with fail
      have hm2 := Hm2.out
      generalize (World.setCell (World.setCell (World.setCell _ ⟨w.heap.size, 0, none⟩ _) ⟨w.heap.size, 1, none⟩ _) ⟨w.heap.size, 2, none⟩ _) = W at hm2 hB6 ⊢
      exact bodyPost_ret (v := .tuple #[.agg #[.int .i64 kd, .string wh, .int .i64 p], .int .i64 e]) (by simp [results, Tryd.results22, go_sem, hm2]) rfl ⟨by rw [Htk.out, He.out]; rfl, hB6⟩

end Go.Proofs.YtlnnblfkigcipaaDoor
