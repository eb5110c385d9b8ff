/- What the statements' own one answers, at a sign and at what is none. Conditions: the text is not too long. -/
import Derived.Test.YtlnnblfkigcipaaDoorRfVarR
import Derived.Test.YtlnnblfkigcipaaDoorLxSg
namespace Go.Proofs.YtlnnblfkigcipaaDoor
open Go Go.RowKit

theorem meas_sig (l : List UInt8) (h1 : wordN l = 0) (h2 : numN l = 0) (h3 : varN l = 0) : ∃ (kd : Int) (n : Nat), measL l = (kd, n) ∧ (signIn signsL l ≠ 0 → kd = 4 ∧ n = signIn signsL l) ∧ (signIn signsL l = 0 → kd = 6 ∧ n = 1) := by
  unfold measL
  rw [if_neg (by simpa using h1), if_neg (by simpa using h2), if_neg (by simpa using h3)]
  by_cases h : signIn signsL l = 0
  · exact ⟨6, 1, by simp [h], fun h' => absurd h h', fun _ => ⟨rfl, rfl⟩⟩
  · exact ⟨4, _, by rw [if_pos h], fun _ => ⟨rfl, rfl⟩, fun h' => absurd h' h⟩

theorem drewN_drewN (w : World) (a b : Nat) : (w.drewN a).drewN b = w.drewN (a + b) := by simp [World.drewN, Nat.add_assoc]

theorem below_drwN {B : Nat} {w W : World} {d : Nat} (h : Below B w W) : Below B w (W.drewN d) := ⟨h.os, h.tape, h.output, h.size, h.block⟩

theorem prefix_eq (t : ByteArray) (i : Nat) (s : ByteArray) (h : i + s.size ≤ t.size) (q : List UInt8) (hq : t.data.toList.drop i = q) : Lib.hasPrefix q s.data.toList = ((t.extract i (i + s.size)).toList == s.toList) := by
  have e : (t.extract i (i + s.size)).toList = q.take s.data.toList.length := by
    rw [ByteArray.toList_eq, Lib.extract_data, hq, size_list]
    congr 1
    omega
  rw [e, ByteArray.toList_eq, Bool.eq_iff_iff]
  unfold Lib.hasPrefix
  rw [List.isPrefixOf_iff_prefix, List.prefix_iff_eq_take]
  simp only [beq_iff_eq]
  exact eq_comm

theorem sig_cells_at {W : World} {g : Nat} (h : W.heap[g]? = some (.cells #[.string ⟨#[45, 45, 62]⟩, .string ⟨#[60, 61, 62]⟩, .string ⟨#[60, 60]⟩, .string ⟨#[62, 62]⟩, .string ⟨#[60, 62]⟩, .string ⟨#[60, 61]⟩, .string ⟨#[62, 61]⟩, .string ⟨#[40]⟩, .string ⟨#[41]⟩, .string ⟨#[123]⟩, .string ⟨#[125]⟩, .string ⟨#[94]⟩, .string ⟨#[43]⟩, .string ⟨#[45]⟩, .string ⟨#[33]⟩, .string ⟨#[126]⟩, .string ⟨#[60]⟩, .string ⟨#[62]⟩, .string ⟨#[61]⟩, .string ⟨#[42]⟩] 9 (0, 0))) : ∀ j, j < 20 → ∃ s : ByteArray, signsL.drop j = s.data.toList :: signsL.drop (j + 1) ∧ 1 ≤ s.size ∧ s.size ≤ 3 ∧ ∀ d, (W.drewN d).cell? ⟨g, j, none⟩ = some (.string s) := by
  intro j hj
  have hc : j = 0 ∨ j = 1 ∨ j = 2 ∨ j = 3 ∨ j = 4 ∨ j = 5 ∨ j = 6 ∨ j = 7 ∨ j = 8 ∨ j = 9 ∨ j = 10 ∨ j = 11 ∨ j = 12 ∨ j = 13 ∨ j = 14 ∨ j = 15 ∨ j = 16 ∨ j = 17 ∨ j = 18 ∨ j = 19 := by omega
  have k : ∀ (j d : Nat) (v : Value), (#[.string ⟨#[45, 45, 62]⟩, .string ⟨#[60, 61, 62]⟩, .string ⟨#[60, 60]⟩, .string ⟨#[62, 62]⟩, .string ⟨#[60, 62]⟩, .string ⟨#[60, 61]⟩, .string ⟨#[62, 61]⟩, .string ⟨#[40]⟩, .string ⟨#[41]⟩, .string ⟨#[123]⟩, .string ⟨#[125]⟩, .string ⟨#[94]⟩, .string ⟨#[43]⟩, .string ⟨#[45]⟩, .string ⟨#[33]⟩, .string ⟨#[126]⟩, .string ⟨#[60]⟩, .string ⟨#[62]⟩, .string ⟨#[61]⟩, .string ⟨#[42]⟩] : Array Value)[j]? = some v → (W.drewN d).cell? ⟨g, j, none⟩ = some v := by
    intro j d v hv
    show (match W.heap[g]? with | some (.cells c _ _) => if (none : Option Nat).isSome then none else c[j]? | _ => none) = some v
    rw [h]
    exact hv
  clear hj
  rcases hc with rfl | rfl | rfl | rfl | rfl | rfl | rfl | rfl | rfl | rfl | rfl | rfl | rfl | rfl | rfl | rfl | rfl | rfl | rfl | rfl
  · exact ⟨⟨#[45, 45, 62]⟩, rfl, by decide, by decide, fun d => k _ d _ rfl⟩
  · exact ⟨⟨#[60, 61, 62]⟩, rfl, by decide, by decide, fun d => k _ d _ rfl⟩
  · exact ⟨⟨#[60, 60]⟩, rfl, by decide, by decide, fun d => k _ d _ rfl⟩
  · exact ⟨⟨#[62, 62]⟩, rfl, by decide, by decide, fun d => k _ d _ rfl⟩
  · exact ⟨⟨#[60, 62]⟩, rfl, by decide, by decide, fun d => k _ d _ rfl⟩
  · exact ⟨⟨#[60, 61]⟩, rfl, by decide, by decide, fun d => k _ d _ rfl⟩
  · exact ⟨⟨#[62, 61]⟩, rfl, by decide, by decide, fun d => k _ d _ rfl⟩
  · exact ⟨⟨#[40]⟩, rfl, by decide, by decide, fun d => k _ d _ rfl⟩
  · exact ⟨⟨#[41]⟩, rfl, by decide, by decide, fun d => k _ d _ rfl⟩
  · exact ⟨⟨#[123]⟩, rfl, by decide, by decide, fun d => k _ d _ rfl⟩
  · exact ⟨⟨#[125]⟩, rfl, by decide, by decide, fun d => k _ d _ rfl⟩
  · exact ⟨⟨#[94]⟩, rfl, by decide, by decide, fun d => k _ d _ rfl⟩
  · exact ⟨⟨#[43]⟩, rfl, by decide, by decide, fun d => k _ d _ rfl⟩
  · exact ⟨⟨#[45]⟩, rfl, by decide, by decide, fun d => k _ d _ rfl⟩
  · exact ⟨⟨#[33]⟩, rfl, by decide, by decide, fun d => k _ d _ rfl⟩
  · exact ⟨⟨#[126]⟩, rfl, by decide, by decide, fun d => k _ d _ rfl⟩
  · exact ⟨⟨#[60]⟩, rfl, by decide, by decide, fun d => k _ d _ rfl⟩
  · exact ⟨⟨#[62]⟩, rfl, by decide, by decide, fun d => k _ d _ rfl⟩
  · exact ⟨⟨#[61]⟩, rfl, by decide, by decide, fun d => k _ d _ rfl⟩
  · exact ⟨⟨#[42]⟩, rfl, by decide, by decide, fun d => k _ d _ rfl⟩

set_option maxRecDepth 100000 in
set_option maxHeartbeats 6400000 in
theorem one_sig1 (w : World) (t : ByteArray) (i : Nat) (hm : t.size ≤ 100000) (hi : i < t.size) (hw : wordN (t.data.toList.drop i) = 0) (hn0 : numN (t.data.toList.drop i) = 0) (hv0 : varN (t.data.toList.drop i) = 0)
    (hsm : smallI ((t[i].toNat : Nat) : Int) = false) (hdg : digI ((t[i].toNat : Nat) : Int) = false) (b45 : (((t[i].toNat : Nat) : Int) == 45) = false) (b60 : (((t[i].toNat : Nat) : Int) == 60) = false) :
    Calls Tryd.prog 20 #[.string t, .int .i64 i] w fun e w' => e = OneA (t.data.toList.drop i) i ∧ Below w.heap.size w w' := by
  have hB0 : Below w.heap.size w (w.alloc (.cells #[.int .i64 0, .string ⟨#[]⟩, .int .i64 0] 46)) := (Below.refl _ w).alloc (Nat.le_refl _) _
  have hb0 := heap_alloc_new w (.cells #[.int .i64 0, .string ⟨#[]⟩, .int .i64 0] 46)
  obtain ⟨kd, n, hmc, hM0, hM1⟩ := meas_sig (t.data.toList.drop i) hw hn0 hv0
  have hnl := meas_le (t.data.toList.drop i) (by intro h; have := congrArg List.length h; rw [List.length_drop, ← size_list] at this; simp at this; omega)
  have htk : OneA (t.data.toList.drop i) i = .returned (.tuple #[.agg #[.int .i64 kd, .string (wholeL (t.data.toList.drop i) n), .int .i64 i], .int .i64 (i + n : Nat)]) := by
    unfold OneA tokL
    rw [hmc]
    by_cases h : signIn signsL (t.data.toList.drop i) = 0
    · obtain ⟨rfl, rfl⟩ := hM1 h
      simp [okL]
    · obtain ⟨rfl, rfl⟩ := hM0 h
      simp [okL]
  rw [htk]
  rw [hmc, List.length_drop, ← size_list] at hnl
  have hwh : t.extract i (i + n) = wholeL (t.data.toList.drop i) n := whole_eq t i n
  obtain ⟨q, hqd⟩ : ∃ q, t.data.toList.drop i = q := ⟨_, rfl⟩
  rw [hqd] at hwh hM0 hM1 htk ⊢
  obtain ⟨M, hM⟩ : ∃ M, M = signIn signsL q := ⟨_, rfl⟩
  rw [← hM] at hM0 hM1
  have HM : Hid (M = signIn (signsL.drop 0) q) := Lib.hid hM
  have Hn1 : Hid (1 ≤ n) := Lib.hid (by by_cases h : M = 0; · have := (hM1 h).2; omega
                                        · have := (hM0 h).2; omega)
  generalize wholeL q n = wh at hwh ⊢
  obtain ⟨e, he⟩ : ∃ e, e = i + n := ⟨_, rfl⟩
  rw [← he] at hwh ⊢
  obtain ⟨rest, hrest⟩ : ∃ rest, rest = t.size - i := ⟨_, rfl⟩
  have f1 : (t.size : Int) - (i : Int) = (rest : Int) := by omega
  obtain ⟨l1, hl1⟩ : ∃ l1, l1 = i + 1 := ⟨_, rfl⟩
  have f2 : (i : Int) + 1 = (l1 : Int) := by omega
  have g1 : l1 ≤ t.size := by omega
  have g2 : i ≤ l1 := by omega
  have g3 : rest ≤ 100000 := by omega
  have HM0 := Lib.hid hM0
  have HM1 := Lib.hid hM1
  have Hl1 := Lib.hid hl1
  have Hrest := Lib.hid hrest
  have He := Lib.hid he
  have Hsm := Lib.hid hsm
  have Hdg := Lib.hid hdg
  clear hM0 hM1 htk hmc hM hsm hdg hw hn0 hv0 hnl hl1 he hrest
  go_enter Tryd.func20, Tryd.ntmps20
  go_wp2_with fail
  generalize (w.alloc (.cells #[.int .i64 0, .string ⟨#[]⟩, .int .i64 0] 46)) = W0 at hB0 hb0 ⊢
  refine (rsmall_T _ _).mono ?_
  rw [Hsm.out]
  rintro e' w' ⟨rfl, rfl⟩
  go_wp2_with fail
  refine (rdigit_T _ _).mono ?_
  rw [Hdg.out]
  rintro e' w' ⟨rfl, rfl⟩
  go_wp2_with fail
  have hbA := heap_alloc_new W0 (.cells #[.string ⟨#[45, 45, 62]⟩, .string ⟨#[60, 61, 62]⟩, .string ⟨#[60, 60]⟩, .string ⟨#[62, 62]⟩, .string ⟨#[60, 62]⟩, .string ⟨#[60, 61]⟩, .string ⟨#[62, 61]⟩, .string ⟨#[40]⟩, .string ⟨#[41]⟩, .string ⟨#[123]⟩, .string ⟨#[125]⟩, .string ⟨#[94]⟩, .string ⟨#[43]⟩, .string ⟨#[45]⟩, .string ⟨#[33]⟩, .string ⟨#[126]⟩, .string ⟨#[60]⟩, .string ⟨#[62]⟩, .string ⟨#[61]⟩, .string ⟨#[42]⟩] 9)
  have hBA : Below W0.heap.size W0 (W0.alloc (.cells #[.string ⟨#[45, 45, 62]⟩, .string ⟨#[60, 61, 62]⟩, .string ⟨#[60, 60]⟩, .string ⟨#[62, 62]⟩, .string ⟨#[60, 62]⟩, .string ⟨#[60, 61]⟩, .string ⟨#[62, 61]⟩, .string ⟨#[40]⟩, .string ⟨#[41]⟩, .string ⟨#[123]⟩, .string ⟨#[125]⟩, .string ⟨#[94]⟩, .string ⟨#[43]⟩, .string ⟨#[45]⟩, .string ⟨#[33]⟩, .string ⟨#[126]⟩, .string ⟨#[60]⟩, .string ⟨#[62]⟩, .string ⟨#[61]⟩, .string ⟨#[42]⟩] 9)) := (Below.refl _ W0).alloc (Nat.le_refl _) _
  have hb1 := (hBA.block _ (lt_of_block hb0)).trans hb0
  generalize (W0.alloc (.cells #[.string ⟨#[45, 45, 62]⟩, .string ⟨#[60, 61, 62]⟩, .string ⟨#[60, 60]⟩, .string ⟨#[62, 62]⟩, .string ⟨#[60, 62]⟩, .string ⟨#[60, 61]⟩, .string ⟨#[62, 61]⟩, .string ⟨#[40]⟩, .string ⟨#[41]⟩, .string ⟨#[123]⟩, .string ⟨#[125]⟩, .string ⟨#[94]⟩, .string ⟨#[43]⟩, .string ⟨#[45]⟩, .string ⟨#[33]⟩, .string ⟨#[126]⟩, .string ⟨#[60]⟩, .string ⟨#[62]⟩, .string ⟨#[61]⟩, .string ⟨#[42]⟩] 9)) = W1 at hbA hBA hb1 ⊢
  have hC1 := hB0.trans (hBA.mono hB0.size)
  have hcell := Lib.hid (sig_cells_at hbA)
  have hlb := lt_of_block hb0
  clear hbA hb0
  go_loopg [13, 14] (20 - 0) (fun k jv nv wr => ∃ j d : Nat, jv = .int .i64 j ∧ j ≤ 20 ∧ Hid (k = 20 - j) ∧ Hid (M = signIn (signsL.drop j) q) ∧ Hid (wr = W1.drewN d))
  case atStart => exact ⟨0, 0, rfl, by omega, Lib.hid rfl, HM, Lib.hid rfl⟩
  case round =>
    obtain ⟨j, d, rfl, hj, Hk, Hm, Hw⟩ := hrel
    by_cases hlt : j < 20
    · obtain ⟨s, hds, hs1, hs3, hcl⟩ := hcell.out j hlt
      have c0 : wr.cell? ⟨W0.heap.size, j, none⟩ = some (.string s) := by rw [Hw.out]; exact hcl d
      have c1 : ∀ n, (wr.drewN n).cell? ⟨W0.heap.size, j, none⟩ = some (.string s) := by intro n; rw [Hw.out]; exact hcl 0
      have hst := sign_step j _ hds q
      rw [← Hm.out] at hst
      have hsl := size_list s
      rw [← hsl] at hst
      have hj20 : ((j : Int) < 20) = True := eq_true (by omega)
      by_cases hroom : s.size ≤ rest
      · obtain ⟨e2, he2⟩ : ∃ e2, e2 = i + s.size := ⟨_, rfl⟩
        have f5 : (i : Int) + (s.size : Int) = (e2 : Int) := by omega
        have f6 : ((s.size : Int) ≤ (rest : Int)) = True := eq_true (by omega)
        have f7 : (s.size ≤ rest) = True := eq_true hroom
        have h7 : e2 ≤ t.size := by have := Hrest.out; omega
        have h8 : i ≤ e2 := by omega
        have hpx := prefix_eq t i s (by have := Hrest.out; omega) q hqd
        rw [← he2] at hpx
        rw [hpx] at hst
        have He2 := Lib.hid he2
        clear hpx hsl hds hcl he2 hroom
        cases hb : (t.extract i e2).toList == s.toList
        · rw [hb, if_neg (by simp)] at hst
          have Hst := Lib.hid hst
          clear hst
          have hb2 : ((t.extract i e2).toList = s.toList) = False := eq_false (by simpa using hb)
          go_wp2_with fail
          go_big_quiet (fail)
          go_wp2_with fail
          go_roundg (20 - (j + 1))
          case measure => rw [Hk.out]; omega
          case rel => exact ⟨j + 1, _, by go_num, by omega, Lib.hid rfl, Hst, Lib.hid (by rw [Hw.out]; exact drewN_drewN _ _ _)⟩
        · rw [hb, if_pos rfl] at hst
          have hMs : M ≠ 0 := by omega
          obtain ⟨rfl, hnM⟩ := HM0.out hMs
          have hee : e = e2 := by rw [He.out, He2.out, hnM, hst]
          have hws : s = wh := by
            have h1 := toList_inj (by simpa using hb : (t.extract i e2).toList = s.toList)
            rw [← hwh, hee, h1]
          have hb2 : ((t.extract i e2).toList = s.toList) = True := eq_true (by simpa using hb)
          have Hee := Lib.hid hee
          have Hws := Lib.hid hws
          have hbr : ∀ d, (wr.drewN d).heap[w.heap.size]? = some (.cells #[.int .i64 0, .string ⟨#[]⟩, .int .i64 0] 46 (0, 0)) := by intro d; rw [Hw.out]; exact hb1
          have hm2 := Lib.hid (fun d => R.mem_sto _ w.heap.size ⟨4, s, i⟩ (hbr d))
          have hCr : ∀ d, Below w.heap.size w (wr.drewN d) := fun d => by rw [Hw.out]; exact below_drwN (below_drwN hC1)
          have hB6 := Lib.hid (fun d => R.below_but (hCr d) (R.but_sto _ w.heap.size ⟨4, s, i⟩) (Nat.le_refl _) (hCr d).size)
          obtain ⟨z0, z1, z2, z3, z4, z5⟩ := R.zero_cells (show wr.heap[w.heap.size]? = _ from hbr 0)
          clear hst hMs hnM hee hws hwh hbr hCr
          go_wp2_with fail
          go_big_quiet (fail)
          go_wp2_with fail
          have hm3 := hm2.out
          refine bodyPost_ret (v := .tuple #[.agg #[.int .i64 4, .string s, .int .i64 i], .int .i64 e2]) ?_ rfl ⟨by rw [Hws.out, Hee.out], hB6.out _⟩
          simp [results, Tryd.results20, go_sem, hm3]
      · have hpx : Lib.hasPrefix q s.data.toList = false := by
          cases h : Lib.hasPrefix q s.data.toList
          · rfl
          · have h1 := (List.isPrefixOf_iff_prefix.1 h).length_le
            have h2 := congrArg List.length hqd
            rw [List.length_drop, ← size_list] at h2
            have := Hrest.out
            omega
        rw [hpx, if_neg (by simp)] at hst
        have Hst := Lib.hid hst
        have f6 : ((s.size : Int) ≤ (rest : Int)) = False := eq_false (by omega)
        have f7 : (s.size ≤ rest) = False := eq_false hroom
        clear hpx hsl hds hcl hroom hst
        go_wp2_with fail
        go_big_quiet (fail)
        go_wp2_with fail
        go_roundg (20 - (j + 1))
        case measure => rw [Hk.out]; omega
        case rel => exact ⟨j + 1, _, by go_num, by omega, Lib.hid rfl, Hst, Lib.hid (by rw [Hw.out]; exact drewN_drewN _ _ _)⟩
    · obtain rfl : j = 20 := by omega
      have hMs : M = 0 := Hm.out
      obtain ⟨rfl, hnM⟩ := HM1.out hMs
      have hee : e = l1 := by rw [He.out, Hl1.out, hnM]
      subst hee
      have hbr : wr.heap[w.heap.size]? = some (.cells #[.int .i64 0, .string ⟨#[]⟩, .int .i64 0] 46 (0, 0)) := by rw [Hw.out]; exact hb1
      have hCr : Below w.heap.size w wr := by rw [Hw.out]; exact below_drwN hC1
      have hm2 := R.mem_sto wr w.heap.size ⟨6, wh, i⟩ hbr
      have hB6 := R.below_but hCr (R.but_sto wr w.heap.size ⟨6, wh, i⟩) (Nat.le_refl _) hCr.size
      obtain ⟨z0, z1, z2, z3, z4, z5⟩ := R.zero_cells hbr
      have Hm2 := Lib.hid hm2
      clear hm2 hMs hnM hbr hCr hb1
      go_wp2_with fail
      have hm2 := Hm2.out
      generalize (World.setCell (World.setCell (World.setCell _ ⟨w.heap.size, 0, none⟩ _) ⟨w.heap.size, 1, none⟩ _) ⟨w.heap.size, 2, none⟩ _) = W at hm2 hB6 ⊢
      exact bodyPost_ret (v := .tuple #[.agg #[.int .i64 6, .string wh, .int .i64 i], .int .i64 e]) (by simp [results, Tryd.results20, go_sem, hm2]) rfl ⟨rfl, hB6⟩

set_option maxRecDepth 100000 in
set_option maxHeartbeats 6400000 in
theorem one_sig2 (w : World) (t : ByteArray) (i : Nat) (hm : t.size ≤ 100000) (hi : i < t.size) (hw : wordN (t.data.toList.drop i) = 0) (hn0 : numN (t.data.toList.drop i) = 0) (hv0 : varN (t.data.toList.drop i) = 0)
    (hsm : smallI ((t[i].toNat : Nat) : Int) = false) (hdg : digI ((t[i].toNat : Nat) : Int) = false) (b45 : (((t[i].toNat : Nat) : Int) == 45) = true) (b60 : (((t[i].toNat : Nat) : Int) == 60) = false) (hx : i + 1 = t.size) :
    Calls Tryd.prog 20 #[.string t, .int .i64 i] w fun e w' => e = OneA (t.data.toList.drop i) i ∧ Below w.heap.size w w' := by
  have hB0 : Below w.heap.size w (w.alloc (.cells #[.int .i64 0, .string ⟨#[]⟩, .int .i64 0] 46)) := (Below.refl _ w).alloc (Nat.le_refl _) _
  have hb0 := heap_alloc_new w (.cells #[.int .i64 0, .string ⟨#[]⟩, .int .i64 0] 46)
  obtain ⟨kd, n, hmc, hM0, hM1⟩ := meas_sig (t.data.toList.drop i) hw hn0 hv0
  have hnl := meas_le (t.data.toList.drop i) (by intro h; have := congrArg List.length h; rw [List.length_drop, ← size_list] at this; simp at this; omega)
  have htk : OneA (t.data.toList.drop i) i = .returned (.tuple #[.agg #[.int .i64 kd, .string (wholeL (t.data.toList.drop i) n), .int .i64 i], .int .i64 (i + n : Nat)]) := by
    unfold OneA tokL
    rw [hmc]
    by_cases h : signIn signsL (t.data.toList.drop i) = 0
    · obtain ⟨rfl, rfl⟩ := hM1 h
      simp [okL]
    · obtain ⟨rfl, rfl⟩ := hM0 h
      simp [okL]
  rw [htk]
  rw [hmc, List.length_drop, ← size_list] at hnl
  have hwh : t.extract i (i + n) = wholeL (t.data.toList.drop i) n := whole_eq t i n
  obtain ⟨q, hqd⟩ : ∃ q, t.data.toList.drop i = q := ⟨_, rfl⟩
  rw [hqd] at hwh hM0 hM1 htk ⊢
  obtain ⟨M, hM⟩ : ∃ M, M = signIn signsL q := ⟨_, rfl⟩
  rw [← hM] at hM0 hM1
  have HM : Hid (M = signIn (signsL.drop 0) q) := Lib.hid hM
  have Hn1 : Hid (1 ≤ n) := Lib.hid (by by_cases h : M = 0; · have := (hM1 h).2; omega
                                        · have := (hM0 h).2; omega)
  generalize wholeL q n = wh at hwh ⊢
  obtain ⟨e, he⟩ : ∃ e, e = i + n := ⟨_, rfl⟩
  rw [← he] at hwh ⊢
  obtain ⟨rest, hrest⟩ : ∃ rest, rest = t.size - i := ⟨_, rfl⟩
  have f1 : (t.size : Int) - (i : Int) = (rest : Int) := by omega
  obtain ⟨l1, hl1⟩ : ∃ l1, l1 = i + 1 := ⟨_, rfl⟩
  have f2 : (i : Int) + 1 = (l1 : Int) := by omega
  have g1 : l1 ≤ t.size := by omega
  have g2 : i ≤ l1 := by omega
  have g3 : rest ≤ 100000 := by omega
  have HM0 := Lib.hid hM0
  have HM1 := Lib.hid hM1
  have Hl1 := Lib.hid hl1
  have Hrest := Lib.hid hrest
  have He := Lib.hid he
  have Hsm := Lib.hid hsm
  have Hdg := Lib.hid hdg
  have h9 : l1 = t.size := by omega
  have f9 : ((l1 : Int) < (t.size : Int)) = False := eq_false (by omega)
  clear h9
  clear hM0 hM1 htk hmc hM hsm hdg hw hn0 hv0 hnl hl1 he hrest
  go_enter Tryd.func20, Tryd.ntmps20
  go_wp2_with fail
  generalize (w.alloc (.cells #[.int .i64 0, .string ⟨#[]⟩, .int .i64 0] 46)) = W0 at hB0 hb0 ⊢
  refine (rsmall_T _ _).mono ?_
  rw [Hsm.out]
  rintro e' w' ⟨rfl, rfl⟩
  go_wp2_with fail
  refine (rdigit_T _ _).mono ?_
  rw [Hdg.out]
  rintro e' w' ⟨rfl, rfl⟩
  go_wp2_with fail
  have hbA := heap_alloc_new W0 (.cells #[.string ⟨#[45, 45, 62]⟩, .string ⟨#[60, 61, 62]⟩, .string ⟨#[60, 60]⟩, .string ⟨#[62, 62]⟩, .string ⟨#[60, 62]⟩, .string ⟨#[60, 61]⟩, .string ⟨#[62, 61]⟩, .string ⟨#[40]⟩, .string ⟨#[41]⟩, .string ⟨#[123]⟩, .string ⟨#[125]⟩, .string ⟨#[94]⟩, .string ⟨#[43]⟩, .string ⟨#[45]⟩, .string ⟨#[33]⟩, .string ⟨#[126]⟩, .string ⟨#[60]⟩, .string ⟨#[62]⟩, .string ⟨#[61]⟩, .string ⟨#[42]⟩] 9)
  have hBA : Below W0.heap.size W0 (W0.alloc (.cells #[.string ⟨#[45, 45, 62]⟩, .string ⟨#[60, 61, 62]⟩, .string ⟨#[60, 60]⟩, .string ⟨#[62, 62]⟩, .string ⟨#[60, 62]⟩, .string ⟨#[60, 61]⟩, .string ⟨#[62, 61]⟩, .string ⟨#[40]⟩, .string ⟨#[41]⟩, .string ⟨#[123]⟩, .string ⟨#[125]⟩, .string ⟨#[94]⟩, .string ⟨#[43]⟩, .string ⟨#[45]⟩, .string ⟨#[33]⟩, .string ⟨#[126]⟩, .string ⟨#[60]⟩, .string ⟨#[62]⟩, .string ⟨#[61]⟩, .string ⟨#[42]⟩] 9)) := (Below.refl _ W0).alloc (Nat.le_refl _) _
  have hb1 := (hBA.block _ (lt_of_block hb0)).trans hb0
  generalize (W0.alloc (.cells #[.string ⟨#[45, 45, 62]⟩, .string ⟨#[60, 61, 62]⟩, .string ⟨#[60, 60]⟩, .string ⟨#[62, 62]⟩, .string ⟨#[60, 62]⟩, .string ⟨#[60, 61]⟩, .string ⟨#[62, 61]⟩, .string ⟨#[40]⟩, .string ⟨#[41]⟩, .string ⟨#[123]⟩, .string ⟨#[125]⟩, .string ⟨#[94]⟩, .string ⟨#[43]⟩, .string ⟨#[45]⟩, .string ⟨#[33]⟩, .string ⟨#[126]⟩, .string ⟨#[60]⟩, .string ⟨#[62]⟩, .string ⟨#[61]⟩, .string ⟨#[42]⟩] 9)) = W1 at hbA hBA hb1 ⊢
  have hC1 := hB0.trans (hBA.mono hB0.size)
  have hcell := Lib.hid (sig_cells_at hbA)
  have hlb := lt_of_block hb0
  clear hbA hb0
  go_loopg [13, 14] (20 - 0) (fun k jv nv wr => ∃ j d : Nat, jv = .int .i64 j ∧ j ≤ 20 ∧ Hid (k = 20 - j) ∧ Hid (M = signIn (signsL.drop j) q) ∧ Hid (wr = W1.drewN d))
  case atStart => exact ⟨0, 0, rfl, by omega, Lib.hid rfl, HM, Lib.hid rfl⟩
  case round =>
    obtain ⟨j, d, rfl, hj, Hk, Hm, Hw⟩ := hrel
    by_cases hlt : j < 20
    · obtain ⟨s, hds, hs1, hs3, hcl⟩ := hcell.out j hlt
      have c0 : wr.cell? ⟨W0.heap.size, j, none⟩ = some (.string s) := by rw [Hw.out]; exact hcl d
      have c1 : ∀ n, (wr.drewN n).cell? ⟨W0.heap.size, j, none⟩ = some (.string s) := by intro n; rw [Hw.out]; exact hcl 0
      have hst := sign_step j _ hds q
      rw [← Hm.out] at hst
      have hsl := size_list s
      rw [← hsl] at hst
      have hj20 : ((j : Int) < 20) = True := eq_true (by omega)
      by_cases hroom : s.size ≤ rest
      · obtain ⟨e2, he2⟩ : ∃ e2, e2 = i + s.size := ⟨_, rfl⟩
        have f5 : (i : Int) + (s.size : Int) = (e2 : Int) := by omega
        have f6 : ((s.size : Int) ≤ (rest : Int)) = True := eq_true (by omega)
        have f7 : (s.size ≤ rest) = True := eq_true hroom
        have h7 : e2 ≤ t.size := by have := Hrest.out; omega
        have h8 : i ≤ e2 := by omega
        have hpx := prefix_eq t i s (by have := Hrest.out; omega) q hqd
        rw [← he2] at hpx
        rw [hpx] at hst
        have He2 := Lib.hid he2
        clear hpx hsl hds hcl he2 hroom
        cases hb : (t.extract i e2).toList == s.toList
        · rw [hb, if_neg (by simp)] at hst
          have Hst := Lib.hid hst
          clear hst
          have hb2 : ((t.extract i e2).toList = s.toList) = False := eq_false (by simpa using hb)
          go_wp2_with fail
          go_big_quiet (fail)
          go_wp2_with fail
          go_roundg (20 - (j + 1))
          case measure => rw [Hk.out]; omega
          case rel => exact ⟨j + 1, _, by go_num, by omega, Lib.hid rfl, Hst, Lib.hid (by rw [Hw.out]; exact drewN_drewN _ _ _)⟩
        · rw [hb, if_pos rfl] at hst
          have hMs : M ≠ 0 := by omega
          obtain ⟨rfl, hnM⟩ := HM0.out hMs
          have hee : e = e2 := by rw [He.out, He2.out, hnM, hst]
          have hws : s = wh := by
            have h1 := toList_inj (by simpa using hb : (t.extract i e2).toList = s.toList)
            rw [← hwh, hee, h1]
          have hb2 : ((t.extract i e2).toList = s.toList) = True := eq_true (by simpa using hb)
          have Hee := Lib.hid hee
          have Hws := Lib.hid hws
          have hbr : ∀ d, (wr.drewN d).heap[w.heap.size]? = some (.cells #[.int .i64 0, .string ⟨#[]⟩, .int .i64 0] 46 (0, 0)) := by intro d; rw [Hw.out]; exact hb1
          have hm2 := Lib.hid (fun d => R.mem_sto _ w.heap.size ⟨4, s, i⟩ (hbr d))
          have hCr : ∀ d, Below w.heap.size w (wr.drewN d) := fun d => by rw [Hw.out]; exact below_drwN (below_drwN hC1)
          have hB6 := Lib.hid (fun d => R.below_but (hCr d) (R.but_sto _ w.heap.size ⟨4, s, i⟩) (Nat.le_refl _) (hCr d).size)
          obtain ⟨z0, z1, z2, z3, z4, z5⟩ := R.zero_cells (show wr.heap[w.heap.size]? = _ from hbr 0)
          clear hst hMs hnM hee hws hwh hbr hCr
          go_wp2_with fail
          go_big_quiet (fail)
          go_wp2_with fail
          have hm3 := hm2.out
          refine bodyPost_ret (v := .tuple #[.agg #[.int .i64 4, .string s, .int .i64 i], .int .i64 e2]) ?_ rfl ⟨by rw [Hws.out, Hee.out], hB6.out _⟩
          simp [results, Tryd.results20, go_sem, hm3]
      · have hpx : Lib.hasPrefix q s.data.toList = false := by
          cases h : Lib.hasPrefix q s.data.toList
          · rfl
          · have h1 := (List.isPrefixOf_iff_prefix.1 h).length_le
            have h2 := congrArg List.length hqd
            rw [List.length_drop, ← size_list] at h2
            have := Hrest.out
            omega
        rw [hpx, if_neg (by simp)] at hst
        have Hst := Lib.hid hst
        have f6 : ((s.size : Int) ≤ (rest : Int)) = False := eq_false (by omega)
        have f7 : (s.size ≤ rest) = False := eq_false hroom
        clear hpx hsl hds hcl hroom hst
        go_wp2_with fail
        go_big_quiet (fail)
        go_wp2_with fail
        go_roundg (20 - (j + 1))
        case measure => rw [Hk.out]; omega
        case rel => exact ⟨j + 1, _, by go_num, by omega, Lib.hid rfl, Hst, Lib.hid (by rw [Hw.out]; exact drewN_drewN _ _ _)⟩
    · obtain rfl : j = 20 := by omega
      have hMs : M = 0 := Hm.out
      obtain ⟨rfl, hnM⟩ := HM1.out hMs
      have hee : e = l1 := by rw [He.out, Hl1.out, hnM]
      subst hee
      have hbr : wr.heap[w.heap.size]? = some (.cells #[.int .i64 0, .string ⟨#[]⟩, .int .i64 0] 46 (0, 0)) := by rw [Hw.out]; exact hb1
      have hCr : Below w.heap.size w wr := by rw [Hw.out]; exact below_drwN hC1
      have hm2 := R.mem_sto wr w.heap.size ⟨6, wh, i⟩ hbr
      have hB6 := R.below_but hCr (R.but_sto wr w.heap.size ⟨6, wh, i⟩) (Nat.le_refl _) hCr.size
      obtain ⟨z0, z1, z2, z3, z4, z5⟩ := R.zero_cells hbr
      have Hm2 := Lib.hid hm2
      clear hm2 hMs hnM hbr hCr hb1
      go_wp2_with fail
      have hm2 := Hm2.out
      generalize (World.setCell (World.setCell (World.setCell _ ⟨w.heap.size, 0, none⟩ _) ⟨w.heap.size, 1, none⟩ _) ⟨w.heap.size, 2, none⟩ _) = W at hm2 hB6 ⊢
      exact bodyPost_ret (v := .tuple #[.agg #[.int .i64 6, .string wh, .int .i64 i], .int .i64 e]) (by simp [results, Tryd.results20, go_sem, hm2]) rfl ⟨rfl, hB6⟩

set_option maxRecDepth 100000 in
set_option maxHeartbeats 6400000 in
theorem one_sig3 (w : World) (t : ByteArray) (i : Nat) (hm : t.size ≤ 100000) (hi : i < t.size) (hw : wordN (t.data.toList.drop i) = 0) (hn0 : numN (t.data.toList.drop i) = 0) (hv0 : varN (t.data.toList.drop i) = 0)
    (hsm : smallI ((t[i].toNat : Nat) : Int) = false) (hdg : digI ((t[i].toNat : Nat) : Int) = false) (b45 : (((t[i].toNat : Nat) : Int) == 45) = true) (b60 : (((t[i].toNat : Nat) : Int) == 60) = false) (hx : ∃ h : i + 1 < t.size, digI ((t[i + 1].toNat : Nat) : Int) = false) :
    Calls Tryd.prog 20 #[.string t, .int .i64 i] w fun e w' => e = OneA (t.data.toList.drop i) i ∧ Below w.heap.size w w' := by
  have hB0 : Below w.heap.size w (w.alloc (.cells #[.int .i64 0, .string ⟨#[]⟩, .int .i64 0] 46)) := (Below.refl _ w).alloc (Nat.le_refl _) _
  have hb0 := heap_alloc_new w (.cells #[.int .i64 0, .string ⟨#[]⟩, .int .i64 0] 46)
  obtain ⟨kd, n, hmc, hM0, hM1⟩ := meas_sig (t.data.toList.drop i) hw hn0 hv0
  have hnl := meas_le (t.data.toList.drop i) (by intro h; have := congrArg List.length h; rw [List.length_drop, ← size_list] at this; simp at this; omega)
  have htk : OneA (t.data.toList.drop i) i = .returned (.tuple #[.agg #[.int .i64 kd, .string (wholeL (t.data.toList.drop i) n), .int .i64 i], .int .i64 (i + n : Nat)]) := by
    unfold OneA tokL
    rw [hmc]
    by_cases h : signIn signsL (t.data.toList.drop i) = 0
    · obtain ⟨rfl, rfl⟩ := hM1 h
      simp [okL]
    · obtain ⟨rfl, rfl⟩ := hM0 h
      simp [okL]
  rw [htk]
  rw [hmc, List.length_drop, ← size_list] at hnl
  have hwh : t.extract i (i + n) = wholeL (t.data.toList.drop i) n := whole_eq t i n
  obtain ⟨q, hqd⟩ : ∃ q, t.data.toList.drop i = q := ⟨_, rfl⟩
  rw [hqd] at hwh hM0 hM1 htk ⊢
  obtain ⟨M, hM⟩ : ∃ M, M = signIn signsL q := ⟨_, rfl⟩
  rw [← hM] at hM0 hM1
  have HM : Hid (M = signIn (signsL.drop 0) q) := Lib.hid hM
  have Hn1 : Hid (1 ≤ n) := Lib.hid (by by_cases h : M = 0; · have := (hM1 h).2; omega
                                        · have := (hM0 h).2; omega)
  generalize wholeL q n = wh at hwh ⊢
  obtain ⟨e, he⟩ : ∃ e, e = i + n := ⟨_, rfl⟩
  rw [← he] at hwh ⊢
  obtain ⟨rest, hrest⟩ : ∃ rest, rest = t.size - i := ⟨_, rfl⟩
  have f1 : (t.size : Int) - (i : Int) = (rest : Int) := by omega
  obtain ⟨l1, hl1⟩ : ∃ l1, l1 = i + 1 := ⟨_, rfl⟩
  have f2 : (i : Int) + 1 = (l1 : Int) := by omega
  have g1 : l1 ≤ t.size := by omega
  have g2 : i ≤ l1 := by omega
  have g3 : rest ≤ 100000 := by omega
  have HM0 := Lib.hid hM0
  have HM1 := Lib.hid hM1
  have Hl1 := Lib.hid hl1
  have Hrest := Lib.hid hrest
  have He := Lib.hid he
  have Hsm := Lib.hid hsm
  have Hdg := Lib.hid hdg
  obtain ⟨hlt1, hx⟩ : ∃ h : l1 < t.size, digI ((t[l1].toNat : Nat) : Int) = false := by subst hl1; exact hx
  have Hx := Lib.hid hx
  clear hx
  clear hM0 hM1 htk hmc hM hsm hdg hw hn0 hv0 hnl hl1 he hrest
  go_enter Tryd.func20, Tryd.ntmps20
  go_wp2_with fail
  generalize (w.alloc (.cells #[.int .i64 0, .string ⟨#[]⟩, .int .i64 0] 46)) = W0 at hB0 hb0 ⊢
  refine (rsmall_T _ _).mono ?_
  rw [Hsm.out]
  rintro e' w' ⟨rfl, rfl⟩
  go_wp2_with fail
  refine (rdigit_T _ _).mono ?_
  rw [Hdg.out]
  rintro e' w' ⟨rfl, rfl⟩
  go_wp2_with fail
  refine (rdigit_T _ _).mono ?_
  rw [Hx.out]
  rintro e' w' ⟨rfl, rfl⟩
  go_wp2_with fail
  have hbA := heap_alloc_new W0 (.cells #[.string ⟨#[45, 45, 62]⟩, .string ⟨#[60, 61, 62]⟩, .string ⟨#[60, 60]⟩, .string ⟨#[62, 62]⟩, .string ⟨#[60, 62]⟩, .string ⟨#[60, 61]⟩, .string ⟨#[62, 61]⟩, .string ⟨#[40]⟩, .string ⟨#[41]⟩, .string ⟨#[123]⟩, .string ⟨#[125]⟩, .string ⟨#[94]⟩, .string ⟨#[43]⟩, .string ⟨#[45]⟩, .string ⟨#[33]⟩, .string ⟨#[126]⟩, .string ⟨#[60]⟩, .string ⟨#[62]⟩, .string ⟨#[61]⟩, .string ⟨#[42]⟩] 9)
  have hBA : Below W0.heap.size W0 (W0.alloc (.cells #[.string ⟨#[45, 45, 62]⟩, .string ⟨#[60, 61, 62]⟩, .string ⟨#[60, 60]⟩, .string ⟨#[62, 62]⟩, .string ⟨#[60, 62]⟩, .string ⟨#[60, 61]⟩, .string ⟨#[62, 61]⟩, .string ⟨#[40]⟩, .string ⟨#[41]⟩, .string ⟨#[123]⟩, .string ⟨#[125]⟩, .string ⟨#[94]⟩, .string ⟨#[43]⟩, .string ⟨#[45]⟩, .string ⟨#[33]⟩, .string ⟨#[126]⟩, .string ⟨#[60]⟩, .string ⟨#[62]⟩, .string ⟨#[61]⟩, .string ⟨#[42]⟩] 9)) := (Below.refl _ W0).alloc (Nat.le_refl _) _
  have hb1 := (hBA.block _ (lt_of_block hb0)).trans hb0
  generalize (W0.alloc (.cells #[.string ⟨#[45, 45, 62]⟩, .string ⟨#[60, 61, 62]⟩, .string ⟨#[60, 60]⟩, .string ⟨#[62, 62]⟩, .string ⟨#[60, 62]⟩, .string ⟨#[60, 61]⟩, .string ⟨#[62, 61]⟩, .string ⟨#[40]⟩, .string ⟨#[41]⟩, .string ⟨#[123]⟩, .string ⟨#[125]⟩, .string ⟨#[94]⟩, .string ⟨#[43]⟩, .string ⟨#[45]⟩, .string ⟨#[33]⟩, .string ⟨#[126]⟩, .string ⟨#[60]⟩, .string ⟨#[62]⟩, .string ⟨#[61]⟩, .string ⟨#[42]⟩] 9)) = W1 at hbA hBA hb1 ⊢
  have hC1 := hB0.trans (hBA.mono hB0.size)
  have hcell := Lib.hid (sig_cells_at hbA)
  have hlb := lt_of_block hb0
  clear hbA hb0
  go_loopg [13, 14] (20 - 0) (fun k jv nv wr => ∃ j d : Nat, jv = .int .i64 j ∧ j ≤ 20 ∧ Hid (k = 20 - j) ∧ Hid (M = signIn (signsL.drop j) q) ∧ Hid (wr = W1.drewN d))
  case atStart => exact ⟨0, 0, rfl, by omega, Lib.hid rfl, HM, Lib.hid rfl⟩
  case round =>
    obtain ⟨j, d, rfl, hj, Hk, Hm, Hw⟩ := hrel
    by_cases hlt : j < 20
    · obtain ⟨s, hds, hs1, hs3, hcl⟩ := hcell.out j hlt
      have c0 : wr.cell? ⟨W0.heap.size, j, none⟩ = some (.string s) := by rw [Hw.out]; exact hcl d
      have c1 : ∀ n, (wr.drewN n).cell? ⟨W0.heap.size, j, none⟩ = some (.string s) := by intro n; rw [Hw.out]; exact hcl 0
      have hst := sign_step j _ hds q
      rw [← Hm.out] at hst
      have hsl := size_list s
      rw [← hsl] at hst
      have hj20 : ((j : Int) < 20) = True := eq_true (by omega)
      by_cases hroom : s.size ≤ rest
      · obtain ⟨e2, he2⟩ : ∃ e2, e2 = i + s.size := ⟨_, rfl⟩
        have f5 : (i : Int) + (s.size : Int) = (e2 : Int) := by omega
        have f6 : ((s.size : Int) ≤ (rest : Int)) = True := eq_true (by omega)
        have f7 : (s.size ≤ rest) = True := eq_true hroom
        have h7 : e2 ≤ t.size := by have := Hrest.out; omega
        have h8 : i ≤ e2 := by omega
        have hpx := prefix_eq t i s (by have := Hrest.out; omega) q hqd
        rw [← he2] at hpx
        rw [hpx] at hst
        have He2 := Lib.hid he2
        clear hpx hsl hds hcl he2 hroom
        cases hb : (t.extract i e2).toList == s.toList
        · rw [hb, if_neg (by simp)] at hst
          have Hst := Lib.hid hst
          clear hst
          have hb2 : ((t.extract i e2).toList = s.toList) = False := eq_false (by simpa using hb)
          go_wp2_with fail
          go_big_quiet (fail)
          go_wp2_with fail
          go_roundg (20 - (j + 1))
          case measure => rw [Hk.out]; omega
          case rel => exact ⟨j + 1, _, by go_num, by omega, Lib.hid rfl, Hst, Lib.hid (by rw [Hw.out]; exact drewN_drewN _ _ _)⟩
        · rw [hb, if_pos rfl] at hst
          have hMs : M ≠ 0 := by omega
          obtain ⟨rfl, hnM⟩ := HM0.out hMs
          have hee : e = e2 := by rw [He.out, He2.out, hnM, hst]
          have hws : s = wh := by
            have h1 := toList_inj (by simpa using hb : (t.extract i e2).toList = s.toList)
            rw [← hwh, hee, h1]
          have hb2 : ((t.extract i e2).toList = s.toList) = True := eq_true (by simpa using hb)
          have Hee := Lib.hid hee
          have Hws := Lib.hid hws
          have hbr : ∀ d, (wr.drewN d).heap[w.heap.size]? = some (.cells #[.int .i64 0, .string ⟨#[]⟩, .int .i64 0] 46 (0, 0)) := by intro d; rw [Hw.out]; exact hb1
          have hm2 := Lib.hid (fun d => R.mem_sto _ w.heap.size ⟨4, s, i⟩ (hbr d))
          have hCr : ∀ d, Below w.heap.size w (wr.drewN d) := fun d => by rw [Hw.out]; exact below_drwN (below_drwN hC1)
          have hB6 := Lib.hid (fun d => R.below_but (hCr d) (R.but_sto _ w.heap.size ⟨4, s, i⟩) (Nat.le_refl _) (hCr d).size)
          obtain ⟨z0, z1, z2, z3, z4, z5⟩ := R.zero_cells (show wr.heap[w.heap.size]? = _ from hbr 0)
          clear hst hMs hnM hee hws hwh hbr hCr
          go_wp2_with fail
          go_big_quiet (fail)
          go_wp2_with fail
          have hm3 := hm2.out
          refine bodyPost_ret (v := .tuple #[.agg #[.int .i64 4, .string s, .int .i64 i], .int .i64 e2]) ?_ rfl ⟨by rw [Hws.out, Hee.out], hB6.out _⟩
          simp [results, Tryd.results20, go_sem, hm3]
      · have hpx : Lib.hasPrefix q s.data.toList = false := by
          cases h : Lib.hasPrefix q s.data.toList
          · rfl
          · have h1 := (List.isPrefixOf_iff_prefix.1 h).length_le
            have h2 := congrArg List.length hqd
            rw [List.length_drop, ← size_list] at h2
            have := Hrest.out
            omega
        rw [hpx, if_neg (by simp)] at hst
        have Hst := Lib.hid hst
        have f6 : ((s.size : Int) ≤ (rest : Int)) = False := eq_false (by omega)
        have f7 : (s.size ≤ rest) = False := eq_false hroom
        clear hpx hsl hds hcl hroom hst
        go_wp2_with fail
        go_big_quiet (fail)
        go_wp2_with fail
        go_roundg (20 - (j + 1))
        case measure => rw [Hk.out]; omega
        case rel => exact ⟨j + 1, _, by go_num, by omega, Lib.hid rfl, Hst, Lib.hid (by rw [Hw.out]; exact drewN_drewN _ _ _)⟩
    · obtain rfl : j = 20 := by omega
      have hMs : M = 0 := Hm.out
      obtain ⟨rfl, hnM⟩ := HM1.out hMs
      have hee : e = l1 := by rw [He.out, Hl1.out, hnM]
      subst hee
      have hbr : wr.heap[w.heap.size]? = some (.cells #[.int .i64 0, .string ⟨#[]⟩, .int .i64 0] 46 (0, 0)) := by rw [Hw.out]; exact hb1
      have hCr : Below w.heap.size w wr := by rw [Hw.out]; exact below_drwN hC1
      have hm2 := R.mem_sto wr w.heap.size ⟨6, wh, i⟩ hbr
      have hB6 := R.below_but hCr (R.but_sto wr w.heap.size ⟨6, wh, i⟩) (Nat.le_refl _) hCr.size
      obtain ⟨z0, z1, z2, z3, z4, z5⟩ := R.zero_cells hbr
      have Hm2 := Lib.hid hm2
      clear hm2 hMs hnM hbr hCr hb1
      go_wp2_with fail
      have hm2 := Hm2.out
      generalize (World.setCell (World.setCell (World.setCell _ ⟨w.heap.size, 0, none⟩ _) ⟨w.heap.size, 1, none⟩ _) ⟨w.heap.size, 2, none⟩ _) = W at hm2 hB6 ⊢
      exact bodyPost_ret (v := .tuple #[.agg #[.int .i64 6, .string wh, .int .i64 i], .int .i64 e]) (by simp [results, Tryd.results20, go_sem, hm2]) rfl ⟨rfl, hB6⟩

set_option maxRecDepth 100000 in
set_option maxHeartbeats 6400000 in
theorem one_sig4 (w : World) (t : ByteArray) (i : Nat) (hm : t.size ≤ 100000) (hi : i < t.size) (hw : wordN (t.data.toList.drop i) = 0) (hn0 : numN (t.data.toList.drop i) = 0) (hv0 : varN (t.data.toList.drop i) = 0)
    (hsm : smallI ((t[i].toNat : Nat) : Int) = false) (hdg : digI ((t[i].toNat : Nat) : Int) = false) (b45 : (((t[i].toNat : Nat) : Int) == 45) = false) (b60 : (((t[i].toNat : Nat) : Int) == 60) = true) (hx : i + 1 = t.size) :
    Calls Tryd.prog 20 #[.string t, .int .i64 i] w fun e w' => e = OneA (t.data.toList.drop i) i ∧ Below w.heap.size w w' := by
  have hB0 : Below w.heap.size w (w.alloc (.cells #[.int .i64 0, .string ⟨#[]⟩, .int .i64 0] 46)) := (Below.refl _ w).alloc (Nat.le_refl _) _
  have hb0 := heap_alloc_new w (.cells #[.int .i64 0, .string ⟨#[]⟩, .int .i64 0] 46)
  obtain ⟨kd, n, hmc, hM0, hM1⟩ := meas_sig (t.data.toList.drop i) hw hn0 hv0
  have hnl := meas_le (t.data.toList.drop i) (by intro h; have := congrArg List.length h; rw [List.length_drop, ← size_list] at this; simp at this; omega)
  have htk : OneA (t.data.toList.drop i) i = .returned (.tuple #[.agg #[.int .i64 kd, .string (wholeL (t.data.toList.drop i) n), .int .i64 i], .int .i64 (i + n : Nat)]) := by
    unfold OneA tokL
    rw [hmc]
    by_cases h : signIn signsL (t.data.toList.drop i) = 0
    · obtain ⟨rfl, rfl⟩ := hM1 h
      simp [okL]
    · obtain ⟨rfl, rfl⟩ := hM0 h
      simp [okL]
  rw [htk]
  rw [hmc, List.length_drop, ← size_list] at hnl
  have hwh : t.extract i (i + n) = wholeL (t.data.toList.drop i) n := whole_eq t i n
  obtain ⟨q, hqd⟩ : ∃ q, t.data.toList.drop i = q := ⟨_, rfl⟩
  rw [hqd] at hwh hM0 hM1 htk ⊢
  obtain ⟨M, hM⟩ : ∃ M, M = signIn signsL q := ⟨_, rfl⟩
  rw [← hM] at hM0 hM1
  have HM : Hid (M = signIn (signsL.drop 0) q) := Lib.hid hM
  have Hn1 : Hid (1 ≤ n) := Lib.hid (by by_cases h : M = 0; · have := (hM1 h).2; omega
                                        · have := (hM0 h).2; omega)
  generalize wholeL q n = wh at hwh ⊢
  obtain ⟨e, he⟩ : ∃ e, e = i + n := ⟨_, rfl⟩
  rw [← he] at hwh ⊢
  obtain ⟨rest, hrest⟩ : ∃ rest, rest = t.size - i := ⟨_, rfl⟩
  have f1 : (t.size : Int) - (i : Int) = (rest : Int) := by omega
  obtain ⟨l1, hl1⟩ : ∃ l1, l1 = i + 1 := ⟨_, rfl⟩
  have f2 : (i : Int) + 1 = (l1 : Int) := by omega
  have g1 : l1 ≤ t.size := by omega
  have g2 : i ≤ l1 := by omega
  have g3 : rest ≤ 100000 := by omega
  have HM0 := Lib.hid hM0
  have HM1 := Lib.hid hM1
  have Hl1 := Lib.hid hl1
  have Hrest := Lib.hid hrest
  have He := Lib.hid he
  have Hsm := Lib.hid hsm
  have Hdg := Lib.hid hdg
  have h9 : l1 = t.size := by omega
  have f9 : ((l1 : Int) < (t.size : Int)) = False := eq_false (by omega)
  clear h9
  clear hM0 hM1 htk hmc hM hsm hdg hw hn0 hv0 hnl hl1 he hrest
  go_enter Tryd.func20, Tryd.ntmps20
  go_wp2_with fail
  generalize (w.alloc (.cells #[.int .i64 0, .string ⟨#[]⟩, .int .i64 0] 46)) = W0 at hB0 hb0 ⊢
  refine (rsmall_T _ _).mono ?_
  rw [Hsm.out]
  rintro e' w' ⟨rfl, rfl⟩
  go_wp2_with fail
  refine (rdigit_T _ _).mono ?_
  rw [Hdg.out]
  rintro e' w' ⟨rfl, rfl⟩
  go_wp2_with fail
  have hbA := heap_alloc_new W0 (.cells #[.string ⟨#[45, 45, 62]⟩, .string ⟨#[60, 61, 62]⟩, .string ⟨#[60, 60]⟩, .string ⟨#[62, 62]⟩, .string ⟨#[60, 62]⟩, .string ⟨#[60, 61]⟩, .string ⟨#[62, 61]⟩, .string ⟨#[40]⟩, .string ⟨#[41]⟩, .string ⟨#[123]⟩, .string ⟨#[125]⟩, .string ⟨#[94]⟩, .string ⟨#[43]⟩, .string ⟨#[45]⟩, .string ⟨#[33]⟩, .string ⟨#[126]⟩, .string ⟨#[60]⟩, .string ⟨#[62]⟩, .string ⟨#[61]⟩, .string ⟨#[42]⟩] 9)
  have hBA : Below W0.heap.size W0 (W0.alloc (.cells #[.string ⟨#[45, 45, 62]⟩, .string ⟨#[60, 61, 62]⟩, .string ⟨#[60, 60]⟩, .string ⟨#[62, 62]⟩, .string ⟨#[60, 62]⟩, .string ⟨#[60, 61]⟩, .string ⟨#[62, 61]⟩, .string ⟨#[40]⟩, .string ⟨#[41]⟩, .string ⟨#[123]⟩, .string ⟨#[125]⟩, .string ⟨#[94]⟩, .string ⟨#[43]⟩, .string ⟨#[45]⟩, .string ⟨#[33]⟩, .string ⟨#[126]⟩, .string ⟨#[60]⟩, .string ⟨#[62]⟩, .string ⟨#[61]⟩, .string ⟨#[42]⟩] 9)) := (Below.refl _ W0).alloc (Nat.le_refl _) _
  have hb1 := (hBA.block _ (lt_of_block hb0)).trans hb0
  generalize (W0.alloc (.cells #[.string ⟨#[45, 45, 62]⟩, .string ⟨#[60, 61, 62]⟩, .string ⟨#[60, 60]⟩, .string ⟨#[62, 62]⟩, .string ⟨#[60, 62]⟩, .string ⟨#[60, 61]⟩, .string ⟨#[62, 61]⟩, .string ⟨#[40]⟩, .string ⟨#[41]⟩, .string ⟨#[123]⟩, .string ⟨#[125]⟩, .string ⟨#[94]⟩, .string ⟨#[43]⟩, .string ⟨#[45]⟩, .string ⟨#[33]⟩, .string ⟨#[126]⟩, .string ⟨#[60]⟩, .string ⟨#[62]⟩, .string ⟨#[61]⟩, .string ⟨#[42]⟩] 9)) = W1 at hbA hBA hb1 ⊢
  have hC1 := hB0.trans (hBA.mono hB0.size)
  have hcell := Lib.hid (sig_cells_at hbA)
  have hlb := lt_of_block hb0
  clear hbA hb0
  go_loopg [13, 14] (20 - 0) (fun k jv nv wr => ∃ j d : Nat, jv = .int .i64 j ∧ j ≤ 20 ∧ Hid (k = 20 - j) ∧ Hid (M = signIn (signsL.drop j) q) ∧ Hid (wr = W1.drewN d))
  case atStart => exact ⟨0, 0, rfl, by omega, Lib.hid rfl, HM, Lib.hid rfl⟩
  case round =>
    obtain ⟨j, d, rfl, hj, Hk, Hm, Hw⟩ := hrel
    by_cases hlt : j < 20
    · obtain ⟨s, hds, hs1, hs3, hcl⟩ := hcell.out j hlt
      have c0 : wr.cell? ⟨W0.heap.size, j, none⟩ = some (.string s) := by rw [Hw.out]; exact hcl d
      have c1 : ∀ n, (wr.drewN n).cell? ⟨W0.heap.size, j, none⟩ = some (.string s) := by intro n; rw [Hw.out]; exact hcl 0
      have hst := sign_step j _ hds q
      rw [← Hm.out] at hst
      have hsl := size_list s
      rw [← hsl] at hst
      have hj20 : ((j : Int) < 20) = True := eq_true (by omega)
      by_cases hroom : s.size ≤ rest
      · obtain ⟨e2, he2⟩ : ∃ e2, e2 = i + s.size := ⟨_, rfl⟩
        have f5 : (i : Int) + (s.size : Int) = (e2 : Int) := by omega
        have f6 : ((s.size : Int) ≤ (rest : Int)) = True := eq_true (by omega)
        have f7 : (s.size ≤ rest) = True := eq_true hroom
        have h7 : e2 ≤ t.size := by have := Hrest.out; omega
        have h8 : i ≤ e2 := by omega
        have hpx := prefix_eq t i s (by have := Hrest.out; omega) q hqd
        rw [← he2] at hpx
        rw [hpx] at hst
        have He2 := Lib.hid he2
        clear hpx hsl hds hcl he2 hroom
        cases hb : (t.extract i e2).toList == s.toList
        · rw [hb, if_neg (by simp)] at hst
          have Hst := Lib.hid hst
          clear hst
          have hb2 : ((t.extract i e2).toList = s.toList) = False := eq_false (by simpa using hb)
          go_wp2_with fail
          go_big_quiet (fail)
          go_wp2_with fail
          go_roundg (20 - (j + 1))
          case measure => rw [Hk.out]; omega
          case rel => exact ⟨j + 1, _, by go_num, by omega, Lib.hid rfl, Hst, Lib.hid (by rw [Hw.out]; exact drewN_drewN _ _ _)⟩
        · rw [hb, if_pos rfl] at hst
          have hMs : M ≠ 0 := by omega
          obtain ⟨rfl, hnM⟩ := HM0.out hMs
          have hee : e = e2 := by rw [He.out, He2.out, hnM, hst]
          have hws : s = wh := by
            have h1 := toList_inj (by simpa using hb : (t.extract i e2).toList = s.toList)
            rw [← hwh, hee, h1]
          have hb2 : ((t.extract i e2).toList = s.toList) = True := eq_true (by simpa using hb)
          have Hee := Lib.hid hee
          have Hws := Lib.hid hws
          have hbr : ∀ d, (wr.drewN d).heap[w.heap.size]? = some (.cells #[.int .i64 0, .string ⟨#[]⟩, .int .i64 0] 46 (0, 0)) := by intro d; rw [Hw.out]; exact hb1
          have hm2 := Lib.hid (fun d => R.mem_sto _ w.heap.size ⟨4, s, i⟩ (hbr d))
          have hCr : ∀ d, Below w.heap.size w (wr.drewN d) := fun d => by rw [Hw.out]; exact below_drwN (below_drwN hC1)
          have hB6 := Lib.hid (fun d => R.below_but (hCr d) (R.but_sto _ w.heap.size ⟨4, s, i⟩) (Nat.le_refl _) (hCr d).size)
          obtain ⟨z0, z1, z2, z3, z4, z5⟩ := R.zero_cells (show wr.heap[w.heap.size]? = _ from hbr 0)
          clear hst hMs hnM hee hws hwh hbr hCr
          go_wp2_with fail
          go_big_quiet (fail)
          go_wp2_with fail
          have hm3 := hm2.out
          refine bodyPost_ret (v := .tuple #[.agg #[.int .i64 4, .string s, .int .i64 i], .int .i64 e2]) ?_ rfl ⟨by rw [Hws.out, Hee.out], hB6.out _⟩
          simp [results, Tryd.results20, go_sem, hm3]
      · have hpx : Lib.hasPrefix q s.data.toList = false := by
          cases h : Lib.hasPrefix q s.data.toList
          · rfl
          · have h1 := (List.isPrefixOf_iff_prefix.1 h).length_le
            have h2 := congrArg List.length hqd
            rw [List.length_drop, ← size_list] at h2
            have := Hrest.out
            omega
        rw [hpx, if_neg (by simp)] at hst
        have Hst := Lib.hid hst
        have f6 : ((s.size : Int) ≤ (rest : Int)) = False := eq_false (by omega)
        have f7 : (s.size ≤ rest) = False := eq_false hroom
        clear hpx hsl hds hcl hroom hst
        go_wp2_with fail
        go_big_quiet (fail)
        go_wp2_with fail
        go_roundg (20 - (j + 1))
        case measure => rw [Hk.out]; omega
        case rel => exact ⟨j + 1, _, by go_num, by omega, Lib.hid rfl, Hst, Lib.hid (by rw [Hw.out]; exact drewN_drewN _ _ _)⟩
    · obtain rfl : j = 20 := by omega
      have hMs : M = 0 := Hm.out
      obtain ⟨rfl, hnM⟩ := HM1.out hMs
      have hee : e = l1 := by rw [He.out, Hl1.out, hnM]
      subst hee
      have hbr : wr.heap[w.heap.size]? = some (.cells #[.int .i64 0, .string ⟨#[]⟩, .int .i64 0] 46 (0, 0)) := by rw [Hw.out]; exact hb1
      have hCr : Below w.heap.size w wr := by rw [Hw.out]; exact below_drwN hC1
      have hm2 := R.mem_sto wr w.heap.size ⟨6, wh, i⟩ hbr
      have hB6 := R.below_but hCr (R.but_sto wr w.heap.size ⟨6, wh, i⟩) (Nat.le_refl _) hCr.size
      obtain ⟨z0, z1, z2, z3, z4, z5⟩ := R.zero_cells hbr
      have Hm2 := Lib.hid hm2
      clear hm2 hMs hnM hbr hCr hb1
      go_wp2_with fail
      have hm2 := Hm2.out
      generalize (World.setCell (World.setCell (World.setCell _ ⟨w.heap.size, 0, none⟩ _) ⟨w.heap.size, 1, none⟩ _) ⟨w.heap.size, 2, none⟩ _) = W at hm2 hB6 ⊢
      exact bodyPost_ret (v := .tuple #[.agg #[.int .i64 6, .string wh, .int .i64 i], .int .i64 e]) (by simp [results, Tryd.results20, go_sem, hm2]) rfl ⟨rfl, hB6⟩

set_option maxRecDepth 100000 in
set_option maxHeartbeats 6400000 in
theorem one_sig5 (w : World) (t : ByteArray) (i : Nat) (hm : t.size ≤ 100000) (hi : i < t.size) (hw : wordN (t.data.toList.drop i) = 0) (hn0 : numN (t.data.toList.drop i) = 0) (hv0 : varN (t.data.toList.drop i) = 0)
    (hsm : smallI ((t[i].toNat : Nat) : Int) = false) (hdg : digI ((t[i].toNat : Nat) : Int) = false) (b45 : (((t[i].toNat : Nat) : Int) == 45) = false) (b60 : (((t[i].toNat : Nat) : Int) == 60) = true) (hx : ∃ h : i + 1 < t.size, smallI ((t[i + 1].toNat : Nat) : Int) = false) :
    Calls Tryd.prog 20 #[.string t, .int .i64 i] w fun e w' => e = OneA (t.data.toList.drop i) i ∧ Below w.heap.size w w' := by
  have hB0 : Below w.heap.size w (w.alloc (.cells #[.int .i64 0, .string ⟨#[]⟩, .int .i64 0] 46)) := (Below.refl _ w).alloc (Nat.le_refl _) _
  have hb0 := heap_alloc_new w (.cells #[.int .i64 0, .string ⟨#[]⟩, .int .i64 0] 46)
  obtain ⟨kd, n, hmc, hM0, hM1⟩ := meas_sig (t.data.toList.drop i) hw hn0 hv0
  have hnl := meas_le (t.data.toList.drop i) (by intro h; have := congrArg List.length h; rw [List.length_drop, ← size_list] at this; simp at this; omega)
  have htk : OneA (t.data.toList.drop i) i = .returned (.tuple #[.agg #[.int .i64 kd, .string (wholeL (t.data.toList.drop i) n), .int .i64 i], .int .i64 (i + n : Nat)]) := by
    unfold OneA tokL
    rw [hmc]
    by_cases h : signIn signsL (t.data.toList.drop i) = 0
    · obtain ⟨rfl, rfl⟩ := hM1 h
      simp [okL]
    · obtain ⟨rfl, rfl⟩ := hM0 h
      simp [okL]
  rw [htk]
  rw [hmc, List.length_drop, ← size_list] at hnl
  have hwh : t.extract i (i + n) = wholeL (t.data.toList.drop i) n := whole_eq t i n
  obtain ⟨q, hqd⟩ : ∃ q, t.data.toList.drop i = q := ⟨_, rfl⟩
  rw [hqd] at hwh hM0 hM1 htk ⊢
  obtain ⟨M, hM⟩ : ∃ M, M = signIn signsL q := ⟨_, rfl⟩
  rw [← hM] at hM0 hM1
  have HM : Hid (M = signIn (signsL.drop 0) q) := Lib.hid hM
  have Hn1 : Hid (1 ≤ n) := Lib.hid (by by_cases h : M = 0; · have := (hM1 h).2; omega
                                        · have := (hM0 h).2; omega)
  generalize wholeL q n = wh at hwh ⊢
  obtain ⟨e, he⟩ : ∃ e, e = i + n := ⟨_, rfl⟩
  rw [← he] at hwh ⊢
  obtain ⟨rest, hrest⟩ : ∃ rest, rest = t.size - i := ⟨_, rfl⟩
  have f1 : (t.size : Int) - (i : Int) = (rest : Int) := by omega
  obtain ⟨l1, hl1⟩ : ∃ l1, l1 = i + 1 := ⟨_, rfl⟩
  have f2 : (i : Int) + 1 = (l1 : Int) := by omega
  have g1 : l1 ≤ t.size := by omega
  have g2 : i ≤ l1 := by omega
  have g3 : rest ≤ 100000 := by omega
  have HM0 := Lib.hid hM0
  have HM1 := Lib.hid hM1
  have Hl1 := Lib.hid hl1
  have Hrest := Lib.hid hrest
  have He := Lib.hid he
  have Hsm := Lib.hid hsm
  have Hdg := Lib.hid hdg
  obtain ⟨hlt1, hx⟩ : ∃ h : l1 < t.size, smallI ((t[l1].toNat : Nat) : Int) = false := by subst hl1; exact hx
  have Hx := Lib.hid hx
  clear hx
  clear hM0 hM1 htk hmc hM hsm hdg hw hn0 hv0 hnl hl1 he hrest
  go_enter Tryd.func20, Tryd.ntmps20
  go_wp2_with fail
  generalize (w.alloc (.cells #[.int .i64 0, .string ⟨#[]⟩, .int .i64 0] 46)) = W0 at hB0 hb0 ⊢
  refine (rsmall_T _ _).mono ?_
  rw [Hsm.out]
  rintro e' w' ⟨rfl, rfl⟩
  go_wp2_with fail
  refine (rdigit_T _ _).mono ?_
  rw [Hdg.out]
  rintro e' w' ⟨rfl, rfl⟩
  go_wp2_with fail
  refine (rsmall_T _ _).mono ?_
  rw [Hx.out]
  rintro e' w' ⟨rfl, rfl⟩
  go_wp2_with fail
  have hbA := heap_alloc_new W0 (.cells #[.string ⟨#[45, 45, 62]⟩, .string ⟨#[60, 61, 62]⟩, .string ⟨#[60, 60]⟩, .string ⟨#[62, 62]⟩, .string ⟨#[60, 62]⟩, .string ⟨#[60, 61]⟩, .string ⟨#[62, 61]⟩, .string ⟨#[40]⟩, .string ⟨#[41]⟩, .string ⟨#[123]⟩, .string ⟨#[125]⟩, .string ⟨#[94]⟩, .string ⟨#[43]⟩, .string ⟨#[45]⟩, .string ⟨#[33]⟩, .string ⟨#[126]⟩, .string ⟨#[60]⟩, .string ⟨#[62]⟩, .string ⟨#[61]⟩, .string ⟨#[42]⟩] 9)
  have hBA : Below W0.heap.size W0 (W0.alloc (.cells #[.string ⟨#[45, 45, 62]⟩, .string ⟨#[60, 61, 62]⟩, .string ⟨#[60, 60]⟩, .string ⟨#[62, 62]⟩, .string ⟨#[60, 62]⟩, .string ⟨#[60, 61]⟩, .string ⟨#[62, 61]⟩, .string ⟨#[40]⟩, .string ⟨#[41]⟩, .string ⟨#[123]⟩, .string ⟨#[125]⟩, .string ⟨#[94]⟩, .string ⟨#[43]⟩, .string ⟨#[45]⟩, .string ⟨#[33]⟩, .string ⟨#[126]⟩, .string ⟨#[60]⟩, .string ⟨#[62]⟩, .string ⟨#[61]⟩, .string ⟨#[42]⟩] 9)) := (Below.refl _ W0).alloc (Nat.le_refl _) _
  have hb1 := (hBA.block _ (lt_of_block hb0)).trans hb0
  generalize (W0.alloc (.cells #[.string ⟨#[45, 45, 62]⟩, .string ⟨#[60, 61, 62]⟩, .string ⟨#[60, 60]⟩, .string ⟨#[62, 62]⟩, .string ⟨#[60, 62]⟩, .string ⟨#[60, 61]⟩, .string ⟨#[62, 61]⟩, .string ⟨#[40]⟩, .string ⟨#[41]⟩, .string ⟨#[123]⟩, .string ⟨#[125]⟩, .string ⟨#[94]⟩, .string ⟨#[43]⟩, .string ⟨#[45]⟩, .string ⟨#[33]⟩, .string ⟨#[126]⟩, .string ⟨#[60]⟩, .string ⟨#[62]⟩, .string ⟨#[61]⟩, .string ⟨#[42]⟩] 9)) = W1 at hbA hBA hb1 ⊢
  have hC1 := hB0.trans (hBA.mono hB0.size)
  have hcell := Lib.hid (sig_cells_at hbA)
  have hlb := lt_of_block hb0
  clear hbA hb0
  go_loopg [13, 14] (20 - 0) (fun k jv nv wr => ∃ j d : Nat, jv = .int .i64 j ∧ j ≤ 20 ∧ Hid (k = 20 - j) ∧ Hid (M = signIn (signsL.drop j) q) ∧ Hid (wr = W1.drewN d))
  case atStart => exact ⟨0, 0, rfl, by omega, Lib.hid rfl, HM, Lib.hid rfl⟩
  case round =>
    obtain ⟨j, d, rfl, hj, Hk, Hm, Hw⟩ := hrel
    by_cases hlt : j < 20
    · obtain ⟨s, hds, hs1, hs3, hcl⟩ := hcell.out j hlt
      have c0 : wr.cell? ⟨W0.heap.size, j, none⟩ = some (.string s) := by rw [Hw.out]; exact hcl d
      have c1 : ∀ n, (wr.drewN n).cell? ⟨W0.heap.size, j, none⟩ = some (.string s) := by intro n; rw [Hw.out]; exact hcl 0
      have hst := sign_step j _ hds q
      rw [← Hm.out] at hst
      have hsl := size_list s
      rw [← hsl] at hst
      have hj20 : ((j : Int) < 20) = True := eq_true (by omega)
      by_cases hroom : s.size ≤ rest
      · obtain ⟨e2, he2⟩ : ∃ e2, e2 = i + s.size := ⟨_, rfl⟩
        have f5 : (i : Int) + (s.size : Int) = (e2 : Int) := by omega
        have f6 : ((s.size : Int) ≤ (rest : Int)) = True := eq_true (by omega)
        have f7 : (s.size ≤ rest) = True := eq_true hroom
        have h7 : e2 ≤ t.size := by have := Hrest.out; omega
        have h8 : i ≤ e2 := by omega
        have hpx := prefix_eq t i s (by have := Hrest.out; omega) q hqd
        rw [← he2] at hpx
        rw [hpx] at hst
        have He2 := Lib.hid he2
        clear hpx hsl hds hcl he2 hroom
        cases hb : (t.extract i e2).toList == s.toList
        · rw [hb, if_neg (by simp)] at hst
          have Hst := Lib.hid hst
          clear hst
          have hb2 : ((t.extract i e2).toList = s.toList) = False := eq_false (by simpa using hb)
          go_wp2_with fail
          go_big_quiet (fail)
          go_wp2_with fail
          go_roundg (20 - (j + 1))
          case measure => rw [Hk.out]; omega
          case rel => exact ⟨j + 1, _, by go_num, by omega, Lib.hid rfl, Hst, Lib.hid (by rw [Hw.out]; exact drewN_drewN _ _ _)⟩
        · rw [hb, if_pos rfl] at hst
          have hMs : M ≠ 0 := by omega
          obtain ⟨rfl, hnM⟩ := HM0.out hMs
          have hee : e = e2 := by rw [He.out, He2.out, hnM, hst]
          have hws : s = wh := by
            have h1 := toList_inj (by simpa using hb : (t.extract i e2).toList = s.toList)
            rw [← hwh, hee, h1]
          have hb2 : ((t.extract i e2).toList = s.toList) = True := eq_true (by simpa using hb)
          have Hee := Lib.hid hee
          have Hws := Lib.hid hws
          have hbr : ∀ d, (wr.drewN d).heap[w.heap.size]? = some (.cells #[.int .i64 0, .string ⟨#[]⟩, .int .i64 0] 46 (0, 0)) := by intro d; rw [Hw.out]; exact hb1
          have hm2 := Lib.hid (fun d => R.mem_sto _ w.heap.size ⟨4, s, i⟩ (hbr d))
          have hCr : ∀ d, Below w.heap.size w (wr.drewN d) := fun d => by rw [Hw.out]; exact below_drwN (below_drwN hC1)
          have hB6 := Lib.hid (fun d => R.below_but (hCr d) (R.but_sto _ w.heap.size ⟨4, s, i⟩) (Nat.le_refl _) (hCr d).size)
          obtain ⟨z0, z1, z2, z3, z4, z5⟩ := R.zero_cells (show wr.heap[w.heap.size]? = _ from hbr 0)
          clear hst hMs hnM hee hws hwh hbr hCr
          go_wp2_with fail
          go_big_quiet (fail)
          go_wp2_with fail
          have hm3 := hm2.out
          refine bodyPost_ret (v := .tuple #[.agg #[.int .i64 4, .string s, .int .i64 i], .int .i64 e2]) ?_ rfl ⟨by rw [Hws.out, Hee.out], hB6.out _⟩
          simp [results, Tryd.results20, go_sem, hm3]
      · have hpx : Lib.hasPrefix q s.data.toList = false := by
          cases h : Lib.hasPrefix q s.data.toList
          · rfl
          · have h1 := (List.isPrefixOf_iff_prefix.1 h).length_le
            have h2 := congrArg List.length hqd
            rw [List.length_drop, ← size_list] at h2
            have := Hrest.out
            omega
        rw [hpx, if_neg (by simp)] at hst
        have Hst := Lib.hid hst
        have f6 : ((s.size : Int) ≤ (rest : Int)) = False := eq_false (by omega)
        have f7 : (s.size ≤ rest) = False := eq_false hroom
        clear hpx hsl hds hcl hroom hst
        go_wp2_with fail
        go_big_quiet (fail)
        go_wp2_with fail
        go_roundg (20 - (j + 1))
        case measure => rw [Hk.out]; omega
        case rel => exact ⟨j + 1, _, by go_num, by omega, Lib.hid rfl, Hst, Lib.hid (by rw [Hw.out]; exact drewN_drewN _ _ _)⟩
    · obtain rfl : j = 20 := by omega
      have hMs : M = 0 := Hm.out
      obtain ⟨rfl, hnM⟩ := HM1.out hMs
      have hee : e = l1 := by rw [He.out, Hl1.out, hnM]
      subst hee
      have hbr : wr.heap[w.heap.size]? = some (.cells #[.int .i64 0, .string ⟨#[]⟩, .int .i64 0] 46 (0, 0)) := by rw [Hw.out]; exact hb1
      have hCr : Below w.heap.size w wr := by rw [Hw.out]; exact below_drwN hC1
      have hm2 := R.mem_sto wr w.heap.size ⟨6, wh, i⟩ hbr
      have hB6 := R.below_but hCr (R.but_sto wr w.heap.size ⟨6, wh, i⟩) (Nat.le_refl _) hCr.size
      obtain ⟨z0, z1, z2, z3, z4, z5⟩ := R.zero_cells hbr
      have Hm2 := Lib.hid hm2
      clear hm2 hMs hnM hbr hCr hb1
      go_wp2_with fail
      have hm2 := Hm2.out
      generalize (World.setCell (World.setCell (World.setCell _ ⟨w.heap.size, 0, none⟩ _) ⟨w.heap.size, 1, none⟩ _) ⟨w.heap.size, 2, none⟩ _) = W at hm2 hB6 ⊢
      exact bodyPost_ret (v := .tuple #[.agg #[.int .i64 6, .string wh, .int .i64 i], .int .i64 e]) (by simp [results, Tryd.results20, go_sem, hm2]) rfl ⟨rfl, hB6⟩

set_option maxRecDepth 100000 in
set_option maxHeartbeats 6400000 in
theorem one_sig6 (w : World) (t : ByteArray) (i : Nat) (hm : t.size ≤ 100000) (hi : i < t.size) (hw : wordN (t.data.toList.drop i) = 0) (hn0 : numN (t.data.toList.drop i) = 0) (hv0 : varN (t.data.toList.drop i) = 0)
    (hsm : smallI ((t[i].toNat : Nat) : Int) = false) (hdg : digI ((t[i].toNat : Nat) : Int) = false) (b45 : (((t[i].toNat : Nat) : Int) == 45) = false) (b60 : (((t[i].toNat : Nat) : Int) == 60) = true) (hx : ∃ h : i + 1 < t.size, smallI ((t[i + 1].toNat : Nat) : Int) = true) (hk : i + 1 + ((t.data.toList.drop (i + 1)).takeWhile innC).length = t.size) :
    Calls Tryd.prog 20 #[.string t, .int .i64 i] w fun e w' => e = OneA (t.data.toList.drop i) i ∧ Below w.heap.size w w' := by
  have hB0 : Below w.heap.size w (w.alloc (.cells #[.int .i64 0, .string ⟨#[]⟩, .int .i64 0] 46)) := (Below.refl _ w).alloc (Nat.le_refl _) _
  have hb0 := heap_alloc_new w (.cells #[.int .i64 0, .string ⟨#[]⟩, .int .i64 0] 46)
  obtain ⟨kd, n, hmc, hM0, hM1⟩ := meas_sig (t.data.toList.drop i) hw hn0 hv0
  have hnl := meas_le (t.data.toList.drop i) (by intro h; have := congrArg List.length h; rw [List.length_drop, ← size_list] at this; simp at this; omega)
  have htk : OneA (t.data.toList.drop i) i = .returned (.tuple #[.agg #[.int .i64 kd, .string (wholeL (t.data.toList.drop i) n), .int .i64 i], .int .i64 (i + n : Nat)]) := by
    unfold OneA tokL
    rw [hmc]
    by_cases h : signIn signsL (t.data.toList.drop i) = 0
    · obtain ⟨rfl, rfl⟩ := hM1 h
      simp [okL]
    · obtain ⟨rfl, rfl⟩ := hM0 h
      simp [okL]
  rw [htk]
  rw [hmc, List.length_drop, ← size_list] at hnl
  have hwh : t.extract i (i + n) = wholeL (t.data.toList.drop i) n := whole_eq t i n
  obtain ⟨q, hqd⟩ : ∃ q, t.data.toList.drop i = q := ⟨_, rfl⟩
  rw [hqd] at hwh hM0 hM1 htk ⊢
  obtain ⟨M, hM⟩ : ∃ M, M = signIn signsL q := ⟨_, rfl⟩
  rw [← hM] at hM0 hM1
  have HM : Hid (M = signIn (signsL.drop 0) q) := Lib.hid hM
  have Hn1 : Hid (1 ≤ n) := Lib.hid (by by_cases h : M = 0; · have := (hM1 h).2; omega
                                        · have := (hM0 h).2; omega)
  generalize wholeL q n = wh at hwh ⊢
  obtain ⟨e, he⟩ : ∃ e, e = i + n := ⟨_, rfl⟩
  rw [← he] at hwh ⊢
  obtain ⟨rest, hrest⟩ : ∃ rest, rest = t.size - i := ⟨_, rfl⟩
  have f1 : (t.size : Int) - (i : Int) = (rest : Int) := by omega
  obtain ⟨l1, hl1⟩ : ∃ l1, l1 = i + 1 := ⟨_, rfl⟩
  have f2 : (i : Int) + 1 = (l1 : Int) := by omega
  have g1 : l1 ≤ t.size := by omega
  have g2 : i ≤ l1 := by omega
  have g3 : rest ≤ 100000 := by omega
  have HM0 := Lib.hid hM0
  have HM1 := Lib.hid hM1
  have Hl1 := Lib.hid hl1
  have Hrest := Lib.hid hrest
  have He := Lib.hid he
  have Hsm := Lib.hid hsm
  have Hdg := Lib.hid hdg
  obtain ⟨hlt1, hx⟩ : ∃ h : l1 < t.size, smallI ((t[l1].toNat : Nat) : Int) = true := by subst hl1; exact hx
  have Hx := Lib.hid hx
  clear hx
  have hp := fun w => parts_T w t l1 hm (by omega)
  rw [hl1, hk] at hp
  rw [← hl1] at hp
  clear hk
  clear hM0 hM1 htk hmc hM hsm hdg hw hn0 hv0 hnl hl1 he hrest
  go_enter Tryd.func20, Tryd.ntmps20
  go_wp2_with fail
  generalize (w.alloc (.cells #[.int .i64 0, .string ⟨#[]⟩, .int .i64 0] 46)) = W0 at hB0 hb0 ⊢
  refine (rsmall_T _ _).mono ?_
  rw [Hsm.out]
  rintro e' w' ⟨rfl, rfl⟩
  go_wp2_with fail
  refine (rdigit_T _ _).mono ?_
  rw [Hdg.out]
  rintro e' w' ⟨rfl, rfl⟩
  go_wp2_with fail
  refine (rsmall_T _ _).mono ?_
  rw [Hx.out]
  rintro e' w' ⟨rfl, rfl⟩
  go_wp2_with fail
  refine (hp _).mono ?_
  rintro e' W0 ⟨rfl, rfl⟩
  go_wp2_with fail
  have hbA := heap_alloc_new W0 (.cells #[.string ⟨#[45, 45, 62]⟩, .string ⟨#[60, 61, 62]⟩, .string ⟨#[60, 60]⟩, .string ⟨#[62, 62]⟩, .string ⟨#[60, 62]⟩, .string ⟨#[60, 61]⟩, .string ⟨#[62, 61]⟩, .string ⟨#[40]⟩, .string ⟨#[41]⟩, .string ⟨#[123]⟩, .string ⟨#[125]⟩, .string ⟨#[94]⟩, .string ⟨#[43]⟩, .string ⟨#[45]⟩, .string ⟨#[33]⟩, .string ⟨#[126]⟩, .string ⟨#[60]⟩, .string ⟨#[62]⟩, .string ⟨#[61]⟩, .string ⟨#[42]⟩] 9)
  have hBA : Below W0.heap.size W0 (W0.alloc (.cells #[.string ⟨#[45, 45, 62]⟩, .string ⟨#[60, 61, 62]⟩, .string ⟨#[60, 60]⟩, .string ⟨#[62, 62]⟩, .string ⟨#[60, 62]⟩, .string ⟨#[60, 61]⟩, .string ⟨#[62, 61]⟩, .string ⟨#[40]⟩, .string ⟨#[41]⟩, .string ⟨#[123]⟩, .string ⟨#[125]⟩, .string ⟨#[94]⟩, .string ⟨#[43]⟩, .string ⟨#[45]⟩, .string ⟨#[33]⟩, .string ⟨#[126]⟩, .string ⟨#[60]⟩, .string ⟨#[62]⟩, .string ⟨#[61]⟩, .string ⟨#[42]⟩] 9)) := (Below.refl _ W0).alloc (Nat.le_refl _) _
  have hb1 := (hBA.block _ (lt_of_block hb0)).trans hb0
  generalize (W0.alloc (.cells #[.string ⟨#[45, 45, 62]⟩, .string ⟨#[60, 61, 62]⟩, .string ⟨#[60, 60]⟩, .string ⟨#[62, 62]⟩, .string ⟨#[60, 62]⟩, .string ⟨#[60, 61]⟩, .string ⟨#[62, 61]⟩, .string ⟨#[40]⟩, .string ⟨#[41]⟩, .string ⟨#[123]⟩, .string ⟨#[125]⟩, .string ⟨#[94]⟩, .string ⟨#[43]⟩, .string ⟨#[45]⟩, .string ⟨#[33]⟩, .string ⟨#[126]⟩, .string ⟨#[60]⟩, .string ⟨#[62]⟩, .string ⟨#[61]⟩, .string ⟨#[42]⟩] 9)) = W1 at hbA hBA hb1 ⊢
  have hC1 := hB0.trans (hBA.mono hB0.size)
  have hcell := Lib.hid (sig_cells_at hbA)
  have hlb := lt_of_block hb0
  clear hbA hb0
  go_loopg [13, 14] (20 - 0) (fun k jv nv wr => ∃ j d : Nat, jv = .int .i64 j ∧ j ≤ 20 ∧ Hid (k = 20 - j) ∧ Hid (M = signIn (signsL.drop j) q) ∧ Hid (wr = W1.drewN d))
  case atStart => exact ⟨0, 0, rfl, by omega, Lib.hid rfl, HM, Lib.hid rfl⟩
  case round =>
    obtain ⟨j, d, rfl, hj, Hk, Hm, Hw⟩ := hrel
    by_cases hlt : j < 20
    · obtain ⟨s, hds, hs1, hs3, hcl⟩ := hcell.out j hlt
      have c0 : wr.cell? ⟨W0.heap.size, j, none⟩ = some (.string s) := by rw [Hw.out]; exact hcl d
      have c1 : ∀ n, (wr.drewN n).cell? ⟨W0.heap.size, j, none⟩ = some (.string s) := by intro n; rw [Hw.out]; exact hcl 0
      have hst := sign_step j _ hds q
      rw [← Hm.out] at hst
      have hsl := size_list s
      rw [← hsl] at hst
      have hj20 : ((j : Int) < 20) = True := eq_true (by omega)
      by_cases hroom : s.size ≤ rest
      · obtain ⟨e2, he2⟩ : ∃ e2, e2 = i + s.size := ⟨_, rfl⟩
        have f5 : (i : Int) + (s.size : Int) = (e2 : Int) := by omega
        have f6 : ((s.size : Int) ≤ (rest : Int)) = True := eq_true (by omega)
        have f7 : (s.size ≤ rest) = True := eq_true hroom
        have h7 : e2 ≤ t.size := by have := Hrest.out; omega
        have h8 : i ≤ e2 := by omega
        have hpx := prefix_eq t i s (by have := Hrest.out; omega) q hqd
        rw [← he2] at hpx
        rw [hpx] at hst
        have He2 := Lib.hid he2
        clear hpx hsl hds hcl he2 hroom
        cases hb : (t.extract i e2).toList == s.toList
        · rw [hb, if_neg (by simp)] at hst
          have Hst := Lib.hid hst
          clear hst
          have hb2 : ((t.extract i e2).toList = s.toList) = False := eq_false (by simpa using hb)
          go_wp2_with fail
          go_big_quiet (fail)
          go_wp2_with fail
          go_roundg (20 - (j + 1))
          case measure => rw [Hk.out]; omega
          case rel => exact ⟨j + 1, _, by go_num, by omega, Lib.hid rfl, Hst, Lib.hid (by rw [Hw.out]; exact drewN_drewN _ _ _)⟩
        · rw [hb, if_pos rfl] at hst
          have hMs : M ≠ 0 := by omega
          obtain ⟨rfl, hnM⟩ := HM0.out hMs
          have hee : e = e2 := by rw [He.out, He2.out, hnM, hst]
          have hws : s = wh := by
            have h1 := toList_inj (by simpa using hb : (t.extract i e2).toList = s.toList)
            rw [← hwh, hee, h1]
          have hb2 : ((t.extract i e2).toList = s.toList) = True := eq_true (by simpa using hb)
          have Hee := Lib.hid hee
          have Hws := Lib.hid hws
          have hbr : ∀ d, (wr.drewN d).heap[w.heap.size]? = some (.cells #[.int .i64 0, .string ⟨#[]⟩, .int .i64 0] 46 (0, 0)) := by intro d; rw [Hw.out]; exact hb1
          have hm2 := Lib.hid (fun d => R.mem_sto _ w.heap.size ⟨4, s, i⟩ (hbr d))
          have hCr : ∀ d, Below w.heap.size w (wr.drewN d) := fun d => by rw [Hw.out]; exact below_drwN (below_drwN hC1)
          have hB6 := Lib.hid (fun d => R.below_but (hCr d) (R.but_sto _ w.heap.size ⟨4, s, i⟩) (Nat.le_refl _) (hCr d).size)
          obtain ⟨z0, z1, z2, z3, z4, z5⟩ := R.zero_cells (show wr.heap[w.heap.size]? = _ from hbr 0)
          clear hst hMs hnM hee hws hwh hbr hCr
          go_wp2_with fail
          go_big_quiet (fail)
          go_wp2_with fail
          have hm3 := hm2.out
          refine bodyPost_ret (v := .tuple #[.agg #[.int .i64 4, .string s, .int .i64 i], .int .i64 e2]) ?_ rfl ⟨by rw [Hws.out, Hee.out], hB6.out _⟩
          simp [results, Tryd.results20, go_sem, hm3]
      · have hpx : Lib.hasPrefix q s.data.toList = false := by
          cases h : Lib.hasPrefix q s.data.toList
          · rfl
          · have h1 := (List.isPrefixOf_iff_prefix.1 h).length_le
            have h2 := congrArg List.length hqd
            rw [List.length_drop, ← size_list] at h2
            have := Hrest.out
            omega
        rw [hpx, if_neg (by simp)] at hst
        have Hst := Lib.hid hst
        have f6 : ((s.size : Int) ≤ (rest : Int)) = False := eq_false (by omega)
        have f7 : (s.size ≤ rest) = False := eq_false hroom
        clear hpx hsl hds hcl hroom hst
        go_wp2_with fail
        go_big_quiet (fail)
        go_wp2_with fail
        go_roundg (20 - (j + 1))
        case measure => rw [Hk.out]; omega
        case rel => exact ⟨j + 1, _, by go_num, by omega, Lib.hid rfl, Hst, Lib.hid (by rw [Hw.out]; exact drewN_drewN _ _ _)⟩
    · obtain rfl : j = 20 := by omega
      have hMs : M = 0 := Hm.out
      obtain ⟨rfl, hnM⟩ := HM1.out hMs
      have hee : e = l1 := by rw [He.out, Hl1.out, hnM]
      subst hee
      have hbr : wr.heap[w.heap.size]? = some (.cells #[.int .i64 0, .string ⟨#[]⟩, .int .i64 0] 46 (0, 0)) := by rw [Hw.out]; exact hb1
      have hCr : Below w.heap.size w wr := by rw [Hw.out]; exact below_drwN hC1
      have hm2 := R.mem_sto wr w.heap.size ⟨6, wh, i⟩ hbr
      have hB6 := R.below_but hCr (R.but_sto wr w.heap.size ⟨6, wh, i⟩) (Nat.le_refl _) hCr.size
      obtain ⟨z0, z1, z2, z3, z4, z5⟩ := R.zero_cells hbr
      have Hm2 := Lib.hid hm2
      clear hm2 hMs hnM hbr hCr hb1
      go_wp2_with fail
      have hm2 := Hm2.out
      generalize (World.setCell (World.setCell (World.setCell _ ⟨w.heap.size, 0, none⟩ _) ⟨w.heap.size, 1, none⟩ _) ⟨w.heap.size, 2, none⟩ _) = W at hm2 hB6 ⊢
      exact bodyPost_ret (v := .tuple #[.agg #[.int .i64 6, .string wh, .int .i64 i], .int .i64 e]) (by simp [results, Tryd.results20, go_sem, hm2]) rfl ⟨rfl, hB6⟩

set_option maxRecDepth 100000 in
set_option maxHeartbeats 6400000 in
theorem one_sig7 (w : World) (t : ByteArray) (i : Nat) (hm : t.size ≤ 100000) (hi : i < t.size) (hw : wordN (t.data.toList.drop i) = 0) (hn0 : numN (t.data.toList.drop i) = 0) (hv0 : varN (t.data.toList.drop i) = 0)
    (hsm : smallI ((t[i].toNat : Nat) : Int) = false) (hdg : digI ((t[i].toNat : Nat) : Int) = false) (b45 : (((t[i].toNat : Nat) : Int) == 45) = false) (b60 : (((t[i].toNat : Nat) : Int) == 60) = true) (hx : ∃ h : i + 1 < t.size, smallI ((t[i + 1].toNat : Nat) : Int) = true) (k : Nat) (hk : i + 1 + ((t.data.toList.drop (i + 1)).takeWhile innC).length = k) (h62 : ∃ h : k < t.size, (((t[k].toNat : Nat) : Int) == 62) = false) :
    Calls Tryd.prog 20 #[.string t, .int .i64 i] w fun e w' => e = OneA (t.data.toList.drop i) i ∧ Below w.heap.size w w' := by
  have hB0 : Below w.heap.size w (w.alloc (.cells #[.int .i64 0, .string ⟨#[]⟩, .int .i64 0] 46)) := (Below.refl _ w).alloc (Nat.le_refl _) _
  have hb0 := heap_alloc_new w (.cells #[.int .i64 0, .string ⟨#[]⟩, .int .i64 0] 46)
  obtain ⟨kd, n, hmc, hM0, hM1⟩ := meas_sig (t.data.toList.drop i) hw hn0 hv0
  have hnl := meas_le (t.data.toList.drop i) (by intro h; have := congrArg List.length h; rw [List.length_drop, ← size_list] at this; simp at this; omega)
  have htk : OneA (t.data.toList.drop i) i = .returned (.tuple #[.agg #[.int .i64 kd, .string (wholeL (t.data.toList.drop i) n), .int .i64 i], .int .i64 (i + n : Nat)]) := by
    unfold OneA tokL
    rw [hmc]
    by_cases h : signIn signsL (t.data.toList.drop i) = 0
    · obtain ⟨rfl, rfl⟩ := hM1 h
      simp [okL]
    · obtain ⟨rfl, rfl⟩ := hM0 h
      simp [okL]
  rw [htk]
  rw [hmc, List.length_drop, ← size_list] at hnl
  have hwh : t.extract i (i + n) = wholeL (t.data.toList.drop i) n := whole_eq t i n
  obtain ⟨q, hqd⟩ : ∃ q, t.data.toList.drop i = q := ⟨_, rfl⟩
  rw [hqd] at hwh hM0 hM1 htk ⊢
  obtain ⟨M, hM⟩ : ∃ M, M = signIn signsL q := ⟨_, rfl⟩
  rw [← hM] at hM0 hM1
  have HM : Hid (M = signIn (signsL.drop 0) q) := Lib.hid hM
  have Hn1 : Hid (1 ≤ n) := Lib.hid (by by_cases h : M = 0; · have := (hM1 h).2; omega
                                        · have := (hM0 h).2; omega)
  generalize wholeL q n = wh at hwh ⊢
  obtain ⟨e, he⟩ : ∃ e, e = i + n := ⟨_, rfl⟩
  rw [← he] at hwh ⊢
  obtain ⟨rest, hrest⟩ : ∃ rest, rest = t.size - i := ⟨_, rfl⟩
  have f1 : (t.size : Int) - (i : Int) = (rest : Int) := by omega
  obtain ⟨l1, hl1⟩ : ∃ l1, l1 = i + 1 := ⟨_, rfl⟩
  have f2 : (i : Int) + 1 = (l1 : Int) := by omega
  have g1 : l1 ≤ t.size := by omega
  have g2 : i ≤ l1 := by omega
  have g3 : rest ≤ 100000 := by omega
  have HM0 := Lib.hid hM0
  have HM1 := Lib.hid hM1
  have Hl1 := Lib.hid hl1
  have Hrest := Lib.hid hrest
  have He := Lib.hid he
  have Hsm := Lib.hid hsm
  have Hdg := Lib.hid hdg
  obtain ⟨hlt1, hx⟩ : ∃ h : l1 < t.size, smallI ((t[l1].toNat : Nat) : Int) = true := by subst hl1; exact hx
  have Hx := Lib.hid hx
  clear hx
  have hp := fun w => parts_T w t l1 hm (by omega)
  rw [hl1, hk] at hp
  rw [← hl1] at hp
  clear hk
  obtain ⟨hltk, h62⟩ := h62
  clear hM0 hM1 htk hmc hM hsm hdg hw hn0 hv0 hnl hl1 he hrest
  go_enter Tryd.func20, Tryd.ntmps20
  go_wp2_with fail
  generalize (w.alloc (.cells #[.int .i64 0, .string ⟨#[]⟩, .int .i64 0] 46)) = W0 at hB0 hb0 ⊢
  refine (rsmall_T _ _).mono ?_
  rw [Hsm.out]
  rintro e' w' ⟨rfl, rfl⟩
  go_wp2_with fail
  refine (rdigit_T _ _).mono ?_
  rw [Hdg.out]
  rintro e' w' ⟨rfl, rfl⟩
  go_wp2_with fail
  refine (rsmall_T _ _).mono ?_
  rw [Hx.out]
  rintro e' w' ⟨rfl, rfl⟩
  go_wp2_with fail
  refine (hp _).mono ?_
  rintro e' W0 ⟨rfl, rfl⟩
  go_wp2_with fail
  have hbA := heap_alloc_new W0 (.cells #[.string ⟨#[45, 45, 62]⟩, .string ⟨#[60, 61, 62]⟩, .string ⟨#[60, 60]⟩, .string ⟨#[62, 62]⟩, .string ⟨#[60, 62]⟩, .string ⟨#[60, 61]⟩, .string ⟨#[62, 61]⟩, .string ⟨#[40]⟩, .string ⟨#[41]⟩, .string ⟨#[123]⟩, .string ⟨#[125]⟩, .string ⟨#[94]⟩, .string ⟨#[43]⟩, .string ⟨#[45]⟩, .string ⟨#[33]⟩, .string ⟨#[126]⟩, .string ⟨#[60]⟩, .string ⟨#[62]⟩, .string ⟨#[61]⟩, .string ⟨#[42]⟩] 9)
  have hBA : Below W0.heap.size W0 (W0.alloc (.cells #[.string ⟨#[45, 45, 62]⟩, .string ⟨#[60, 61, 62]⟩, .string ⟨#[60, 60]⟩, .string ⟨#[62, 62]⟩, .string ⟨#[60, 62]⟩, .string ⟨#[60, 61]⟩, .string ⟨#[62, 61]⟩, .string ⟨#[40]⟩, .string ⟨#[41]⟩, .string ⟨#[123]⟩, .string ⟨#[125]⟩, .string ⟨#[94]⟩, .string ⟨#[43]⟩, .string ⟨#[45]⟩, .string ⟨#[33]⟩, .string ⟨#[126]⟩, .string ⟨#[60]⟩, .string ⟨#[62]⟩, .string ⟨#[61]⟩, .string ⟨#[42]⟩] 9)) := (Below.refl _ W0).alloc (Nat.le_refl _) _
  have hb1 := (hBA.block _ (lt_of_block hb0)).trans hb0
  generalize (W0.alloc (.cells #[.string ⟨#[45, 45, 62]⟩, .string ⟨#[60, 61, 62]⟩, .string ⟨#[60, 60]⟩, .string ⟨#[62, 62]⟩, .string ⟨#[60, 62]⟩, .string ⟨#[60, 61]⟩, .string ⟨#[62, 61]⟩, .string ⟨#[40]⟩, .string ⟨#[41]⟩, .string ⟨#[123]⟩, .string ⟨#[125]⟩, .string ⟨#[94]⟩, .string ⟨#[43]⟩, .string ⟨#[45]⟩, .string ⟨#[33]⟩, .string ⟨#[126]⟩, .string ⟨#[60]⟩, .string ⟨#[62]⟩, .string ⟨#[61]⟩, .string ⟨#[42]⟩] 9)) = W1 at hbA hBA hb1 ⊢
  have hC1 := hB0.trans (hBA.mono hB0.size)
  have hcell := Lib.hid (sig_cells_at hbA)
  have hlb := lt_of_block hb0
  clear hbA hb0
  go_loopg [13, 14] (20 - 0) (fun k jv nv wr => ∃ j d : Nat, jv = .int .i64 j ∧ j ≤ 20 ∧ Hid (k = 20 - j) ∧ Hid (M = signIn (signsL.drop j) q) ∧ Hid (wr = W1.drewN d))
  case atStart => exact ⟨0, 0, rfl, by omega, Lib.hid rfl, HM, Lib.hid rfl⟩
  case round =>
    obtain ⟨j, d, rfl, hj, Hk, Hm, Hw⟩ := hrel
    by_cases hlt : j < 20
    · obtain ⟨s, hds, hs1, hs3, hcl⟩ := hcell.out j hlt
      have c0 : wr.cell? ⟨W0.heap.size, j, none⟩ = some (.string s) := by rw [Hw.out]; exact hcl d
      have c1 : ∀ n, (wr.drewN n).cell? ⟨W0.heap.size, j, none⟩ = some (.string s) := by intro n; rw [Hw.out]; exact hcl 0
      have hst := sign_step j _ hds q
      rw [← Hm.out] at hst
      have hsl := size_list s
      rw [← hsl] at hst
      have hj20 : ((j : Int) < 20) = True := eq_true (by omega)
      by_cases hroom : s.size ≤ rest
      · obtain ⟨e2, he2⟩ : ∃ e2, e2 = i + s.size := ⟨_, rfl⟩
        have f5 : (i : Int) + (s.size : Int) = (e2 : Int) := by omega
        have f6 : ((s.size : Int) ≤ (rest : Int)) = True := eq_true (by omega)
        have f7 : (s.size ≤ rest) = True := eq_true hroom
        have h7 : e2 ≤ t.size := by have := Hrest.out; omega
        have h8 : i ≤ e2 := by omega
        have hpx := prefix_eq t i s (by have := Hrest.out; omega) q hqd
        rw [← he2] at hpx
        rw [hpx] at hst
        have He2 := Lib.hid he2
        clear hpx hsl hds hcl he2 hroom
        cases hb : (t.extract i e2).toList == s.toList
        · rw [hb, if_neg (by simp)] at hst
          have Hst := Lib.hid hst
          clear hst
          have hb2 : ((t.extract i e2).toList = s.toList) = False := eq_false (by simpa using hb)
          go_wp2_with fail
          go_big_quiet (fail)
          go_wp2_with fail
          go_roundg (20 - (j + 1))
          case measure => rw [Hk.out]; omega
          case rel => exact ⟨j + 1, _, by go_num, by omega, Lib.hid rfl, Hst, Lib.hid (by rw [Hw.out]; exact drewN_drewN _ _ _)⟩
        · rw [hb, if_pos rfl] at hst
          have hMs : M ≠ 0 := by omega
          obtain ⟨rfl, hnM⟩ := HM0.out hMs
          have hee : e = e2 := by rw [He.out, He2.out, hnM, hst]
          have hws : s = wh := by
            have h1 := toList_inj (by simpa using hb : (t.extract i e2).toList = s.toList)
            rw [← hwh, hee, h1]
          have hb2 : ((t.extract i e2).toList = s.toList) = True := eq_true (by simpa using hb)
          have Hee := Lib.hid hee
          have Hws := Lib.hid hws
          have hbr : ∀ d, (wr.drewN d).heap[w.heap.size]? = some (.cells #[.int .i64 0, .string ⟨#[]⟩, .int .i64 0] 46 (0, 0)) := by intro d; rw [Hw.out]; exact hb1
          have hm2 := Lib.hid (fun d => R.mem_sto _ w.heap.size ⟨4, s, i⟩ (hbr d))
          have hCr : ∀ d, Below w.heap.size w (wr.drewN d) := fun d => by rw [Hw.out]; exact below_drwN (below_drwN hC1)
          have hB6 := Lib.hid (fun d => R.below_but (hCr d) (R.but_sto _ w.heap.size ⟨4, s, i⟩) (Nat.le_refl _) (hCr d).size)
          obtain ⟨z0, z1, z2, z3, z4, z5⟩ := R.zero_cells (show wr.heap[w.heap.size]? = _ from hbr 0)
          clear hst hMs hnM hee hws hwh hbr hCr
          go_wp2_with fail
          go_big_quiet (fail)
          go_wp2_with fail
          have hm3 := hm2.out
          refine bodyPost_ret (v := .tuple #[.agg #[.int .i64 4, .string s, .int .i64 i], .int .i64 e2]) ?_ rfl ⟨by rw [Hws.out, Hee.out], hB6.out _⟩
          simp [results, Tryd.results20, go_sem, hm3]
      · have hpx : Lib.hasPrefix q s.data.toList = false := by
          cases h : Lib.hasPrefix q s.data.toList
          · rfl
          · have h1 := (List.isPrefixOf_iff_prefix.1 h).length_le
            have h2 := congrArg List.length hqd
            rw [List.length_drop, ← size_list] at h2
            have := Hrest.out
            omega
        rw [hpx, if_neg (by simp)] at hst
        have Hst := Lib.hid hst
        have f6 : ((s.size : Int) ≤ (rest : Int)) = False := eq_false (by omega)
        have f7 : (s.size ≤ rest) = False := eq_false hroom
        clear hpx hsl hds hcl hroom hst
        go_wp2_with fail
        go_big_quiet (fail)
        go_wp2_with fail
        go_roundg (20 - (j + 1))
        case measure => rw [Hk.out]; omega
        case rel => exact ⟨j + 1, _, by go_num, by omega, Lib.hid rfl, Hst, Lib.hid (by rw [Hw.out]; exact drewN_drewN _ _ _)⟩
    · obtain rfl : j = 20 := by omega
      have hMs : M = 0 := Hm.out
      obtain ⟨rfl, hnM⟩ := HM1.out hMs
      have hee : e = l1 := by rw [He.out, Hl1.out, hnM]
      subst hee
      have hbr : wr.heap[w.heap.size]? = some (.cells #[.int .i64 0, .string ⟨#[]⟩, .int .i64 0] 46 (0, 0)) := by rw [Hw.out]; exact hb1
      have hCr : Below w.heap.size w wr := by rw [Hw.out]; exact below_drwN hC1
      have hm2 := R.mem_sto wr w.heap.size ⟨6, wh, i⟩ hbr
      have hB6 := R.below_but hCr (R.but_sto wr w.heap.size ⟨6, wh, i⟩) (Nat.le_refl _) hCr.size
      obtain ⟨z0, z1, z2, z3, z4, z5⟩ := R.zero_cells hbr
      have Hm2 := Lib.hid hm2
      clear hm2 hMs hnM hbr hCr hb1
      go_wp2_with fail
      have hm2 := Hm2.out
      generalize (World.setCell (World.setCell (World.setCell _ ⟨w.heap.size, 0, none⟩ _) ⟨w.heap.size, 1, none⟩ _) ⟨w.heap.size, 2, none⟩ _) = W at hm2 hB6 ⊢
      exact bodyPost_ret (v := .tuple #[.agg #[.int .i64 6, .string wh, .int .i64 i], .int .i64 e]) (by simp [results, Tryd.results20, go_sem, hm2]) rfl ⟨rfl, hB6⟩

theorem one_T (w : World) (t : ByteArray) (i : Nat) (hm : t.size ≤ 100000) (hi : i < t.size) :
    Calls Tryd.prog 20 #[.string t, .int .i64 i] w fun e w' => e = OneA (t.data.toList.drop i) i ∧ Below w.heap.size w w' := by
  by_cases hw : wordN (t.data.toList.drop i) = 0
  · by_cases hn : numN (t.data.toList.drop i) = 0
    · by_cases hv : varN (t.data.toList.drop i) = 0
      · have hd := drop_at t i hi
        have hsm : smallC t[i] = false := by
          cases h : smallC t[i]
          · rfl
          · rw [hd] at hw
            have h2 := (small_inn _ h).1
            simp [wordN, h, h2] at hw
        have hdg : digB t[i] = false := by
          cases h : digB t[i]
          · rfl
          · rw [hd] at hn
            by_cases h45 : t[i] = 45
            · rw [h45] at h; cases h
            · simp [numN, h, h45] at hn
        have hdg' : digI ((t[i].toNat : Nat) : Int) = false := by rw [dig_eq]; exact hdg
        have ne_of : ∀ (c : UInt8) (k : Nat), k < 256 → c ≠ UInt8.ofNat k → (((c.toNat : Nat) : Int) == (k : Int)) = false := by
          intro c k hk h
          simp only [beq_eq_false_iff_ne, ne_eq]
          intro e
          apply h
          have e2 : c.toNat = k := by omega
          rw [← e2]
          simp
        by_cases h45 : t[i] = 45
        · have b45 : (((t[i].toNat : Nat) : Int) == 45) = true := by rw [h45]; rfl
          have b60 : (((t[i].toNat : Nat) : Int) == 60) = false := by rw [h45]; rfl
          by_cases h1 : i + 1 = t.size
          · exact one_sig2 w t i hm hi hw hn hv hsm hdg' b45 b60 h1
          · refine one_sig3 w t i hm hi hw hn hv hsm hdg' b45 b60 ⟨by omega, ?_⟩
            have hd1 := drop_at t (i + 1) (by omega)
            rw [dig_eq]
            cases h : digB (t[i + 1]'(by omega))
            · rfl
            · rw [hd, hd1, h45] at hn
              simp [numN, h] at hn
        · have b45 : (((t[i].toNat : Nat) : Int) == 45) = false := ne_of _ 45 (by decide) h45
          by_cases h60 : t[i] = 60
          · have b60 : (((t[i].toNat : Nat) : Int) == 60) = true := by rw [h60]; rfl
            by_cases h1 : i + 1 = t.size
            · exact one_sig4 w t i hm hi hw hn hv hsm hdg' b45 b60 h1
            · have hlt1 : i + 1 < t.size := by omega
              have hd1 := drop_at t (i + 1) hlt1
              cases h : smallC t[i + 1]
              · exact one_sig5 w t i hm hi hw hn hv hsm hdg' b45 b60 ⟨hlt1, h⟩
              · have hwr : wordN (t.data.toList.drop (i + 1)) = ((t.data.toList.drop (i + 1)).takeWhile innC).length := by
                  rw [hd1]
                  simp only [wordN, h, if_true]
                have h0 : ((t.data.toList.drop (i + 1)).takeWhile innC).length ≠ 0 := by
                  rw [hd1]
                  simp [(small_inn _ h).1]
                have hle := takeWhile_le innC (t.data.toList.drop (i + 1))
                rw [List.length_drop, ← size_list] at hle
                by_cases hk : i + 1 + ((t.data.toList.drop (i + 1)).takeWhile innC).length = t.size
                · exact one_sig6 w t i hm hi hw hn hv hsm hdg' b45 b60 ⟨hlt1, h⟩ hk
                · obtain ⟨k, hk2⟩ : ∃ k, i + 1 + ((t.data.toList.drop (i + 1)).takeWhile innC).length = k := ⟨_, rfl⟩
                  have hltk : k < t.size := by omega
                  refine one_sig7 w t i hm hi hw hn hv hsm hdg' b45 b60 ⟨hlt1, h⟩ k hk2 ⟨hltk, ?_⟩
                  refine ne_of _ 62 (by decide) fun h62 => ?_
                  have hdk := drop_at t k hltk
                  rw [hd, h60] at hv
                  have e1 : (t.data.toList.drop (i + 1)).drop (wordN (t.data.toList.drop (i + 1))) = t.data.toList.drop k := by rw [List.drop_drop, hwr, hk2]
                  simp only [varN, e1, hdk] at hv
                  rw [show t[k] = 62 from h62] at hv
                  rw [hwr] at hv
                  simp [h0] at hv
          · have b60 : (((t[i].toNat : Nat) : Int) == 60) = false := ne_of _ 60 (by decide) h60
            exact one_sig1 w t i hm hi hw hn hv hsm hdg' b45 b60
      · exact one_var w t i hm hi hw hn hv
    · exact one_num w t i hm hi hw hn
  · exact one_word w t i hm hi hw

end Go.Proofs.YtlnnblfkigcipaaDoor
