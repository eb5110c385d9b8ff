/- What the statements' own Part, Word, digits answer. Conditions: none. -/
import Derived.Test.YtimeamehmefgnaaDoorSymTxS
import Derived.Laws.BytesArg
namespace Go.Proofs.YtimeamehmefgnaaDoor
open Go Go.RowKit

theorem part_T (w : World) (c : Int) : Calls Tryd.prog 28 #[.int .u8 c] w fun e w' => e = .returned (.bool (innerI c)) ∧ w = w' := by
  go_enter Tryd.func28, Tryd.ntmps28
  go_wp2_with fail
  all_goals go_ret
  all_goals refine ⟨ret_b ?_, rfl⟩
  all_goals (rw [Bool.eq_iff_iff]; simp [innerI, smallI] <;> omega)

/-- A text of one byte. -/
def byteS (z : Int) : ByteArray := ⟨#[UInt8.ofNat z.toNat]⟩

theorem conv_one (w : World) (z : Int) : (convert 75 9 (.slice (some ⟨w.heap.size, 0, none⟩) 1 1)).run Tryd.prog (w.alloc (.cells #[.int .u8 z] 5)) = .ok (.string (byteS z)) (w.alloc (.cells #[.int .u8 z] 5)) := by
  have h := run_convert_bytes_arg (P := Tryd.prog) (w.alloc (.cells #[.int .u8 z] 5)) 75 5 Tryd.underlying75 Tryd.underlying5 w.heap.size 0 1 1 [z] rfl (fun i hi => by
    obtain rfl : i = 0 := by omega
    exact cell_of_one (heap_alloc_new w _)) 9 Tryd.underlying9
  exact h

theorem add_one (z : Int) (d : ByteArray) (hd : d.size ≤ 1000) (w : World) : (Op.stringOp .add (byteS z) d).run Tryd.prog w = .ok (.string (byteS z ++ d)) w :=
  run_string_add_sum w _ _ (by have : (byteS z).size = 1 := rfl; omega)

theorem byteS_list (z : Int) (d : ByteArray) : (byteS z ++ d).data.toList = UInt8.ofNat z.toNat :: d.data.toList := by simp [byteS]
theorem byteS_size (z : Int) (d : ByteArray) : (byteS z ++ d).size = d.size + 1 := by
  rw [ByteArray.size_append]
  show 1 + d.size = _
  omega

theorem str_ext {a b : ByteArray} (h : a.data.toList = b.data.toList) : a = b := by
  cases a; cases b; simp_all

theorem nDigits_le (m : Nat) (h : m ≤ 4294967296) : Lib.nDigits m ≤ 20 := Lib.nDigits_le20 m (by omega)

set_option maxRecDepth 100000 in
set_option maxHeartbeats 400000 in
theorem digits_T (w : World) (n : Nat) (hn : n ≤ 4294967296) : Calls Tryd.prog 37 #[.int .i64 n] w fun e w' => e = .returned (.string ⟨(Lib.decDigits n).toArray⟩) ∧ Below w.heap.size w w' := by
  have hc1 := conv_one
  have hbig := Lib.hid hn
  have hnd := nDigits_le n hn
  clear hn
  go_enter Tryd.func37, Tryd.ntmps37
  go_wp2_with fail
  go_loopg [0, 3] n (fun k nv sv wr => ∃ (m : Nat) (d : ByteArray), nv = .int .i64 m ∧ sv = .string d ∧ Hid (m ≤ 4294967296) ∧ Hid (k = m) ∧ Hid (Lib.decDigits m ++ d.data.toList = Lib.decDigits n ∧ d.size + Lib.nDigits m = Lib.nDigits n) ∧ Below w.heap.size w wr)
  case atStart => exact ⟨n, ⟨#[]⟩, rfl, rfl, hbig, Lib.hid rfl, Lib.hid ⟨List.append_nil _, Nat.zero_add _⟩, Below.refl _ _⟩
  case round =>
    obtain ⟨m, d, rfl, rfl, hm, Hk, Hd, hB⟩ := hrel
    have hd : d.size ≤ 1000 := by have := Hd.out.2; omega
    have hadd := fun z => add_one z d hd
    have hm9 : (m : Int) ≤ 4294967296 := by have := hm.out; omega
    by_cases hlt : 9 < m
    · have hlti : (9 : Int) < (m : Int) := by omega
      have hB2 : Below wr.heap.size wr (wr.alloc (.cells #[.int .u8 (48 + (m : Int) % 10)] 5)) := (Below.refl _ wr).alloc (Nat.le_refl _) _
      have Hlt := Lib.hid hlt
      clear hlt
      go_wp2_with fail
      go_roundg (m / 10)
      case measure => rw [Hk.out]; have := Hlt.out; omega
      case rel =>
        have h9 := Hlt.out
        obtain ⟨e1, e2⟩ := Hd.out
        refine ⟨m / 10, _, by go_num, rfl, Lib.hid (by have := hm.out; omega), Lib.hid rfl, Lib.hid ⟨?_, ?_⟩, hB.trans (hB2.mono hB.size)⟩
        · have e3 : Lib.decDigits m = Lib.decDigits (m / 10) ++ [UInt8.ofNat (48 + m % 10)] := by
            conv => lhs; unfold Lib.decDigits
            rw [dif_neg (by omega)]
          have : ((48 : Int) + (m : Int) % 10).toNat = 48 + m % 10 := by omega
          rw [byteS_list, ← e1, e3, List.append_assoc, this]
          rfl
        · rw [byteS_size]
          have := Lib.nDigits_big (show ¬ m < 10 by omega)
          omega
    · have hlti : ¬ (9 : Int) < (m : Int) := by omega
      have hlti2 : (m : Int) ≤ 9 := by omega
      have hB2 : Below wr.heap.size wr (wr.alloc (.cells #[.int .u8 (48 + (m : Int))] 5)) := (Below.refl _ wr).alloc (Nat.le_refl _) _
      have Hlt := Lib.hid hlt
      clear hlt
      go_wp2_with fail
      go_ret
      obtain ⟨e1, e2⟩ := Hd.out
      have h9 := Hlt.out
      refine ⟨?_, hB.trans (hB2.mono hB.size)⟩
      have : byteS (48 + (m : Int)) ++ d = ⟨(Lib.decDigits n).toArray⟩ := by
        refine str_ext ?_
        rw [byteS_list, ← e1, Lib.decDigits_one (by omega)]
        have : ((48 : Int) + (m : Int)).toNat = 48 + m := by omega
        rw [this]
        rfl
      rw [← this]; rfl

theorem itoaB_neg (n : Nat) (h : 1 ≤ n) : itoaB (-(n : Int)) = ⟨#[45]⟩ ++ ⟨(Lib.decDigits n).toArray⟩ := by
  unfold itoaB
  rw [Lib.itoa, if_pos (by omega)]
  have : (-(n : Int)).natAbs = n := by omega
  rw [this]
  refine str_ext ?_
  simp

theorem itoaB_pos (n : Nat) : itoaB (n : Int) = ⟨(Lib.decDigits n).toArray⟩ := by
  unfold itoaB
  rw [Lib.itoa, if_neg (by omega)]
  rfl

set_option maxRecDepth 100000 in
theorem number_T (w : World) (n : Int) (h0 : -4294967296 ≤ n) (h1 : n ≤ 4294967296) : Calls Tryd.prog 22 #[.int .i64 n] w fun e w' => e = .returned (.string (itoaB n)) ∧ Below w.heap.size w w' := by
  by_cases hn : n < 0
  · obtain ⟨k, rfl⟩ : ∃ k : Nat, n = -(k : Int) := ⟨n.natAbs, by omega⟩
    have hk : 1 ≤ k := by omega
    have hdk := digits_T w k (by omega)
    rw [itoaB_neg k hk]
    have hsz : (⟨(Lib.decDigits k).toArray⟩ : ByteArray).size ≤ 20 := by
      have := nDigits_le k (by omega)
      have e := Lib.decDigits_length k
      show (Lib.decDigits k).toArray.size ≤ 20
      simp; omega
    have hadd : ∀ w, (Op.stringOp .add ⟨#[45]⟩ ⟨(Lib.decDigits k).toArray⟩).run Tryd.prog w = .ok (.string (⟨#[45]⟩ ++ ⟨(Lib.decDigits k).toArray⟩)) w := fun w => run_string_add_sum w _ _ (by have : (⟨#[45]⟩ : ByteArray).size = 1 := rfl; omega)
    generalize (⟨(Lib.decDigits k).toArray⟩ : ByteArray) = d at hdk hadd ⊢
    have hneg : -(k : Int) < 0 := hn
    have hkk : (k : Int) ≤ 4294967296 := by omega
    clear hn h0 h1 hsz
    go_enter Tryd.func22, Tryd.ntmps22
    go_wp2_with fail
    refine hdk.mono ?_
    rintro e w1 ⟨rfl, hB⟩
    go_wp2_with fail
    go_ret
    exact ⟨rfl, hB⟩
  · obtain ⟨k, rfl⟩ : ∃ k : Nat, n = (k : Int) := ⟨n.natAbs, by omega⟩
    have hdk := digits_T w k (by omega)
    rw [itoaB_pos k]
    clear h0 h1
    go_enter Tryd.func22, Tryd.ntmps22
    go_wp2_with fail
    refine hdk.mono ?_
    rintro e w1 ⟨rfl, hB⟩
    go_wp2_with fail
    go_ret
    exact ⟨rfl, hB⟩

set_option maxHeartbeats 400000 in
theorem refword_T (w : World) (t : ByteArray) (hm : t.size ≤ maxLen) : Calls Tryd.prog 15 #[.string t] w fun e w' => e = .returned (.bool (wordB t)) ∧ w = w' := by
  unfold maxLen at hm
  by_cases h0 : t.size = 0
  · have f0 : ((t.size : Int) < 1) = True := eq_true (by omega)
    have H0 := Lib.hid h0
    clear h0
    go_enter Tryd.func15, Tryd.ntmps15
    go_wp2_with fail
    go_ret
    exact ⟨ret_b (by simp [wordB, H0.out]), rfl⟩
  · have hpos : 0 < t.size := by omega
    have hposi : (0 : Int) < (t.size : Int) := by omega
    have f0 : ((t.size : Int) < 1) = False := eq_false (by omega)
    by_cases h32 : t.size ≤ 32
    · have f1 : ((32 : Int) < (t.size : Int)) = False := eq_false (by omega)
      have hs := Lib.hid (hd_pos hpos)
      obtain ⟨c, hcc⟩ : ∃ c : Int, hd t = c := ⟨_, rfl⟩
      have Hc := Lib.hid hcc
      have hc' : ((t[0].toNat : Nat) : Int) = c := hs.out.symm.trans hcc
      have Hc' := Lib.hid hc'
      clear hcc hc'
      cases hsm : smallI ((t[0].toNat : Nat) : Int)
      · have hsm' : ((t[0].toNat : Nat) : Int) < 97 ∨ 122 < ((t[0].toNat : Nat) : Int) := by
          simp only [smallI, Bool.and_eq_false_iff, decide_eq_false_iff_not] at hsm; omega
        have Hsm := Lib.hid hsm
        clear hsm
        rcases hsm' with hsm' | hsm'
        · go_enter Tryd.func15, Tryd.ntmps15
          go_wp2_with fail
          go_ret
          exact ⟨ret_b (by simp [wordB, hs.out, Hsm.out]), rfl⟩
        · have hsm2 : (((t[0].toNat : Nat) : Int) < 97) = False := eq_false (by omega)
          go_enter Tryd.func15, Tryd.ntmps15
          go_wp2_with fail
          go_ret
          exact ⟨ret_b (by simp [wordB, hs.out, Hsm.out]), rfl⟩
      · have hsm' : 97 ≤ ((t[0].toNat : Nat) : Int) ∧ ((t[0].toNat : Nat) : Int) ≤ 122 := by
          simpa [smallI] using hsm
        have g1 : (((t[0].toNat : Nat) : Int) < 97) = False := eq_false (by omega)
        have g2 : ((122 : Int) < ((t[0].toNat : Nat) : Int)) = False := eq_false (by omega)
        have Hsm := Lib.hid hsm
        clear hsm hsm'
        go_enter Tryd.func15, Tryd.ntmps15
        go_wp2_with fail
        go_loopg [3] (t.size - 0) (fun k i wr => ∃ j : Nat, i = .int .i64 j ∧ j ≤ t.size ∧ Hid (k = t.size - j) ∧ Hid ((t.data.toList.take j).all (fun c => innerI (c.toNat : Int)) = true) ∧ w = wr)
        case atStart => exact ⟨0, rfl, by omega, Lib.hid rfl, Lib.hid rfl, rfl⟩
        case round =>
          obtain ⟨j, rfl, hj, Hk, Hall, rfl⟩ := hrel
          by_cases hlt : j < t.size
          · have Hts := Lib.hid (take_succ t j hlt)
            cases hin : innerI ((t[j].toNat : Nat) : Int)
            · go_wp2_with fail
              refine (part_T _ _).mono ?_
              rintro e w' ⟨rfl, rfl⟩
              go_wp2_with fail
              go_ret
              refine ⟨ret_b ?_, rfl⟩
              have : innerAll t = false := by
                unfold innerAll
                rw [List.all_eq_false]
                exact ⟨t.data.toList[j]'(by simpa using hlt), List.getElem_mem _, by show ¬ innerI ((t[j].toNat : Nat) : Int) = true; rw [hin]; simp⟩
              simp [wordB, this]
            · go_wp2_with fail
              refine (part_T _ _).mono ?_
              rintro e w' ⟨rfl, rfl⟩
              go_wp2_with fail
              go_roundg (t.size - (j + 1))
              case measure => rw [Hk.out]; omega
              case rel => exact ⟨j + 1, by go_num, by omega, Lib.hid rfl, Lib.hid (by rw [Hts.out, List.all_append, Hall.out]; simp [hin]), rfl⟩
          · obtain rfl : j = t.size := by omega
            go_wp2_with fail
            go_ret
            refine ⟨ret_b ?_, rfl⟩
            have h1 := Hall.out
            rw [List.take_of_length_le (by simp)] at h1
            simp [wordB, innerAll, h1, hpos, h32, hs.out, Hsm.out]
    · have f1 : ((32 : Int) < (t.size : Int)) = True := eq_true (by omega)
      go_enter Tryd.func15, Tryd.ntmps15
      go_wp2_with fail
      go_ret
      exact ⟨ret_b (by simp [wordB, h32]), rfl⟩

set_option maxHeartbeats 800000 in
theorem refvalid_T (w : World) (x : SymV) (hm : x.t.size ≤ maxLen) : Calls Tryd.prog 9 #[.agg #[.int .i64 x.k, .string x.t, .int .i64 x.n]] w fun e w' => e = .returned (.bool (validB x)) ∧ Below w.heap.size w w' := by
  have hB := Lib.hid (box1_S w x)
  by_cases k1 : x.k = 1
  · have b1 : (x.k == 1) = true := by simp [k1]
    have Hk := Lib.hid k1
    clear k1
    by_cases hz : x.t.size = 1
    · have hpos : 0 < x.t.size := by omega
      have z1 : ((x.t.size : Int) == 1) = true := by simp [hz]
      have Hz := Lib.hid hz
      have Hs := Lib.hid (hd_pos hpos)
      clear hz
      go_enter Tryd.func9, Tryd.ntmps9
      go_wp2_with fail
      all_goals go_ret
      all_goals refine ⟨ret_b ?_, hB.out⟩
      all_goals (rw [Bool.eq_iff_iff]; simp [validB, Hk.out, Hz.out, Hs.out, capI] <;> omega)
    · have z1 : ((x.t.size : Int) == 1) = false := by simp; omega
      have Hz := Lib.hid hz
      clear hz
      go_enter Tryd.func9, Tryd.ntmps9
      go_wp2_with fail
      go_ret
      exact ⟨ret_b (by simp [validB, Hk.out, Hz.out]), hB.out⟩
  · have b1 : (x.k == 1) = false := by simp [k1]
    have Hk := Lib.hid k1
    clear k1
    by_cases k2 : x.k = 2
    · have b2 : (x.k == 2) = true := by simp [k2]
      have Hk2 := Lib.hid k2
      clear k2
      by_cases h0 : x.t.size = 0
      · have e0 : x.t.toList = [] := by rw [ByteArray.toList_eq]; exact List.length_eq_zero_iff.1 (by simpa using h0)
        have e1 : x.t.toList.isEmpty = true := by rw [e0]; rfl
        have H0 := Lib.hid h0
        clear h0
        go_enter Tryd.func9, Tryd.ntmps9
        go_wp2_with fail
        all_goals go_ret
        · have h : -2147483647 ≤ x.n := by assumption
          exact ⟨ret_b (by simp [validB, Hk.out, Hk2.out, H0.out, h]), hB.out⟩
        · have h : x.n < -2147483647 := by assumption
          exact ⟨ret_b (by simp [validB, Hk.out, Hk2.out, Int.not_le.2 h]), hB.out⟩
      · have e1 : x.t.toList.isEmpty = false := by
          rw [ByteArray.toList_eq]
          cases hl : x.t.data.toList with
          | nil => exfalso; apply h0; have := congrArg List.length hl; simpa using this
          | cons _ _ => rfl
        have e2 : ¬ x.t.toList = [] := by intro h; rw [h] at e1; cases e1
        have H0 := Lib.hid h0
        clear h0
        go_enter Tryd.func9, Tryd.ntmps9
        go_wp2_with fail
        go_ret
        exact ⟨ret_b (by simp [validB, Hk.out, Hk2.out, H0.out]), hB.out⟩
    · have b2 : (x.k == 2) = false := by simp [k2]
      have Hk2 := Lib.hid k2
      clear k2
      by_cases k3 : x.k = 3
      · have b3 : (x.k == 3) = true := by simp [k3]
        have Hk3 := Lib.hid k3
        clear k3
        by_cases hn : x.n = 0
        · have n1 : (x.n == 0) = true := by simp [hn]
          have Hn := Lib.hid hn
          clear hn
          go_enter Tryd.func9, Tryd.ntmps9
          go_wp2_with fail
          refine (refword_T _ _ hm).mono ?_
          rintro e w' ⟨rfl, rfl⟩
          go_wp2_with fail
          go_ret
          exact ⟨ret_b (by simp [validB, Hk.out, Hk2.out, Hk3.out, Hn.out]), hB.out⟩
        · have n1 : (x.n == 0) = false := by simp [hn]
          have Hn := Lib.hid hn
          clear hn
          go_enter Tryd.func9, Tryd.ntmps9
          go_wp2_with fail
          go_ret
          exact ⟨ret_b (by simp [validB, Hk.out, Hk2.out, Hk3.out, Hn.out]), hB.out⟩
      · have b3 : (x.k == 3) = false := by simp [k3]
        have Hk3 := Lib.hid k3
        clear k3
        go_enter Tryd.func9, Tryd.ntmps9
        go_wp2_with fail
        go_ret
        exact ⟨ret_b (by simp [validB, Hk.out, Hk2.out, Hk3.out]), hB.out⟩

set_option maxHeartbeats 800000 in
theorem reftext_T (w : World) (x : SymV) (hm : x.t.size ≤ maxLen - 100) : Calls Tryd.prog 11 #[.agg #[.int .i64 x.k, .string x.t, .int .i64 x.n]] w fun e w' => e = .returned (.string (textB x)) ∧ Below w.heap.size w w' := by
  have hB0 := box1_S w x
  have hb0 := heap_alloc_new w (.cells #[.int .i64 x.k, .string x.t, .int .i64 x.n] 23)
  cases hv : validB x
  · go_enter Tryd.func11, Tryd.ntmps11
    go_wp2_with fail
    generalize (w.alloc (.cells #[.int .i64 x.k, .string x.t, .int .i64 x.n] 23)) = W0 at hB0 hb0 ⊢
    refine (refvalid_T W0 x (by omega)).mono ?_
    rw [hv]
    rintro e w1 ⟨rfl, hB1⟩
    go_wp2_with fail
    go_ret
    exact ⟨by simp [textB, hv], hB0.trans (hB1.mono hB0.size)⟩
  · have Hv := Lib.hid hv
    have hk : x.k = 1 ∨ x.k = 2 ∨ x.k = 3 := by
      unfold validB at hv
      split at hv
      · exact .inl (by assumption)
      · split at hv
        · exact .inr (.inl (by assumption))
        · split at hv
          · exact .inr (.inr (by assumption))
          · cases hv
    rcases hk with h1 | h2 | h3
    · have b1 : (x.k == 1) = true := by simp [h1]
      have h3 : ¬ x.k = 3 := by omega
      obtain ⟨n1, n2⟩ := valid_n hv h3
      have hz1 := itoaB_size x.n (by omega) (by omega)
      have hz2 := valid_t hv
      have hz5 : ∀ w, (Op.stringOp .add x.t (itoaB x.n)).run Tryd.prog w = .ok (.string (x.t ++ itoaB x.n)) w := fun w => run_string_add_sum w _ _ (by omega)
      have H3 := Lib.hid h3
      clear h1 h3 hv
      go_enter Tryd.func11, Tryd.ntmps11
      go_wp2_with fail
      generalize (w.alloc (.cells #[.int .i64 x.k, .string x.t, .int .i64 x.n] 23)) = W0 at hB0 hb0 ⊢
      refine (refvalid_T W0 x (by omega)).mono ?_
      rw [Hv.out]
      rintro e w1 ⟨rfl, hB1⟩
      have hC1 := hB0.trans (hB1.mono hB0.size)
      have hb1 := (hB1.block _ (lt_of_block hb0)).trans hb0
      have hmem : ∀ W, Below w1.heap.size w1 W → W.cell? ⟨w.heap.size, 0, none⟩ = some (.int .i64 x.k) ∧ W.cell? ⟨w.heap.size, 1, none⟩ = some (.string x.t) ∧ W.cell? ⟨w.heap.size, 2, none⟩ = some (.int .i64 x.n) := by
        intro W hB
        have := (hB.block _ (lt_of_block hb1)).trans hb1
        simp [World.cell?, this]
      have Hmem := Lib.hid hmem
      obtain ⟨c0, c1, c2⟩ := hmem _ (Below.refl _ _)
      clear hb0 hb1 hmem
      go_wp2_with fail
      go_region_held3 (fun W => W.cell? ⟨w.heap.size, 1, none⟩ = some (.string x.t) ∧ W.cell? ⟨w.heap.size, 2, none⟩ = some (.int .i64 x.n))
        (first | go_keep | assumption)
        (first
          | ((with_reducible refine (number_T w1.drew x.n (by omega) (by omega)).mono ?_); rintro e w2 ⟨rfl, hB2⟩; have hC2 := (Below.refl _ w1).drew.trans hB2; have hm2 := Hmem.out w2 hC2; obtain ⟨-, d1, d2⟩ := hm2)
          | fail "no arm")
      go_wp2_with fail
      go_ret
      exact ⟨by simp [textB, Hv.out, H3.out], hC1.trans (hC2.mono hC1.size)⟩
    · have b1 : (x.k == 1) = false := by simp [h2]
      have b2 : (x.k == 2) = true := by simp [h2]
      have h3 : ¬ x.k = 3 := by omega
      obtain ⟨n1, n2⟩ := valid_n hv h3
      have ht0 : x.t = ⟨#[]⟩ := by
        unfold validB at hv
        rw [if_neg (by omega), if_pos h2] at hv
        simp only [Bool.and_eq_true, decide_eq_true_eq] at hv
        refine str_ext ?_
        exact List.length_eq_zero_iff.1 (by simpa using hv.1.1)
      have H3 := Lib.hid h3
      have Ht0 := Lib.hid ht0
      clear h2 h3 hv ht0
      go_enter Tryd.func11, Tryd.ntmps11
      go_wp2_with fail
      generalize (w.alloc (.cells #[.int .i64 x.k, .string x.t, .int .i64 x.n] 23)) = W0 at hB0 hb0 ⊢
      refine (refvalid_T W0 x (by omega)).mono ?_
      rw [Hv.out]
      rintro e w1 ⟨rfl, hB1⟩
      have hC1 := hB0.trans (hB1.mono hB0.size)
      have hb1 := (hB1.block _ (lt_of_block hb0)).trans hb0
      have c0 : w1.cell? ⟨w.heap.size, 0, none⟩ = some (.int .i64 x.k) := by simp [World.cell?, hb1]
      have c2 : w1.cell? ⟨w.heap.size, 2, none⟩ = some (.int .i64 x.n) := by simp [World.cell?, hb1]
      clear hb0 hb1
      go_wp2_with fail
      refine (number_T w1 x.n (by omega) (by omega)).mono ?_
      rintro e w2 ⟨rfl, hB2⟩
      go_wp2_with fail
      go_ret
      refine ⟨?_, hC1.trans (hB2.mono hC1.size)⟩
      have : textB x = itoaB x.n := by
        unfold textB
        rw [if_pos Hv.out, if_neg H3.out, Ht0.out]
        refine str_ext ?_
        simp
      rw [this]; rfl
    · have b1 : (x.k == 1) = false := by simp [h3]
      have b2 : (x.k == 2) = false := by simp [h3]
      have H3 := Lib.hid h3
      clear h3 hv
      go_enter Tryd.func11, Tryd.ntmps11
      go_wp2_with fail
      generalize (w.alloc (.cells #[.int .i64 x.k, .string x.t, .int .i64 x.n] 23)) = W0 at hB0 hb0 ⊢
      refine (refvalid_T W0 x (by omega)).mono ?_
      rw [Hv.out]
      rintro e w1 ⟨rfl, hB1⟩
      have hb1 := (hB1.block _ (lt_of_block hb0)).trans hb0
      have c0 : w1.cell? ⟨w.heap.size, 0, none⟩ = some (.int .i64 x.k) := by simp [World.cell?, hb1]
      have c1 : w1.cell? ⟨w.heap.size, 1, none⟩ = some (.string x.t) := by simp [World.cell?, hb1]
      clear hb0 hb1
      go_wp2_with fail
      go_ret
      exact ⟨by simp [textB, Hv.out, H3.out], hB0.trans (hB1.mono hB0.size)⟩

end Go.Proofs.YtimeamehmefgnaaDoor
