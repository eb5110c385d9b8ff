/- LexPlaces returns true, whatever it is given. Conditions: the tables lie as the program lays them. -/
import Derived.Test.YtlnnblfkigcipaaDoorLxSameK
import Derived.Test.YtlnnblfkigcipaaDoorLxPlacePl
import Derived.Laws.Concat
namespace Go.Proofs.YtlnnblfkigcipaaDoor
open Go Go.RowKit Go.Shelf

theorem textV_size (x : SymV) : (textV x).size ≤ x.t.size + 2 := by
  unfold textV
  split
  · rw [ByteArray.size_append, ByteArray.size_append]
    show 1 + x.t.size + 1 ≤ _
    omega
  · omega

set_option maxHeartbeats 400000 in
theorem text_L (w : World) (x : SymV) (hm : x.t.size ≤ 100000) : Calls Tryd.prog 17 #[.agg #[.int .i64 x.k, .string x.t, .int .i64 x.n]] w fun e w' => e = .returned (.string (textV x)) ∧ Below w.heap.size w w' := by
  have hB0 := box1_K w x
  have hx0 := heap_alloc_new w (.cells #[.int .i64 x.k, .string x.t, .int .i64 x.n] 30)
  obtain ⟨x0, x1, x2⟩ := mem_tok hx0
  have hz1 : ∀ w, (Op.stringOp .add ⟨#[60]⟩ x.t).run Tryd.prog w = .ok (.string (⟨#[60]⟩ ++ x.t)) w := fun w => run_string_add_sum w _ _ (by show 1 + x.t.size ≤ _; omega)
  have hz2 : ∀ w, (Op.stringOp .add (⟨#[60]⟩ ++ x.t) ⟨#[62]⟩).run Tryd.prog w = .ok (.string (⟨#[60]⟩ ++ x.t ++ ⟨#[62]⟩)) w := fun w => run_string_add_sum w _ _ (by rw [ByteArray.size_append]; show 1 + x.t.size + 1 ≤ _; omega)
  clear hx0
  by_cases h3 : x.k = 3
  · have b3 : (x.k == 3) = true := by simp [h3]
    have e : textV x = ⟨#[60]⟩ ++ x.t ++ ⟨#[62]⟩ := if_pos h3
    have He := Lib.hid e
    clear h3 e
    go_enter Tryd.func17, Tryd.ntmps17
    go_wp2_with fail
    go_ret
    exact ⟨by rw [He.out]; rfl, hB0⟩
  · have b3 : (x.k == 3) = false := by simp [h3]
    have e : textV x = x.t := if_neg h3
    have He := Lib.hid e
    clear h3 e hz1 hz2
    go_enter Tryd.func17, Tryd.ntmps17
    go_wp2_with fail
    go_ret
    exact ⟨by rw [He.out]; rfl, hB0⟩

theorem byte_ne (c : UInt8) (k : Nat) (hk : k < 256) (h : c ≠ UInt8.ofNat k) : ¬ ((c.toNat : Nat) : Int) = (k : Int) := by
  intro e
  apply h
  have e2 : c.toNat = k := by omega
  rw [← e2]
  simp

set_option maxHeartbeats 1600000 in
theorem empty_T (w : World) (t : ByteArray) (hm : t.size ≤ 100000) (h0 : skipM false t.data.toList = []) : Calls Tryd.prog 18 #[.string t] w fun e w' => e = .returned (.bool true) ∧ w' = w := by
  have hts := Lib.hid (drop_at t)
  have H0 : Hid (skipM false (t.data.toList.drop 0) = []) := Lib.hid h0
  clear h0
  go_enter Tryd.func18, Tryd.ntmps18
  go_wp2_with fail
  go_loopg [3] (t.size + 1 - 0) (fun k iv wr => ∃ j : Nat, iv = .int .i64 j ∧ j ≤ t.size + 1 ∧ Hid (k = t.size + 1 - j) ∧ Hid (skipM false (t.data.toList.drop j) = []) ∧ wr = w)
  case atStart => exact ⟨0, rfl, by omega, Lib.hid rfl, H0, rfl⟩
  case round =>
    obtain ⟨j, rfl, hj, Hk, Hq, rfl⟩ := hrel
    by_cases hlt : j < t.size
    · have hd := hts.out j hlt
      have hq := Hq.out
      rw [hd] at hq
      by_cases h35 : t[j] = 35
      · have hq2 : skipM true (t.data.toList.drop j) = [] := by
          rw [hd, h35]
          rw [h35, skip_hash] at hq
          simpa [skipM] using hq
        have HQ2 := Lib.hid hq2
        have e35 : ((t[j].toNat : Nat) : Int) = 35 := by rw [h35]; rfl
        clear hd hq hq2 h35
        go_wp2_with fail
        go_loopg [3] (t.size - j) (fun k iv wr2 => ∃ q : Nat, iv = .int .i64 q ∧ j ≤ q ∧ q ≤ t.size ∧ Hid (k = t.size - q) ∧ Hid (skipM true (t.data.toList.drop q) = []) ∧ wr2 = wr)
        case atStart => exact ⟨j, rfl, Nat.le_refl _, by omega, Lib.hid rfl, HQ2, rfl⟩
        case round =>
          obtain ⟨q, rfl, hjq, hqs, Hk2, Hq2, rfl⟩ := hrel
          by_cases hq : q < t.size
          · have hdq := hts.out q hq
            have hqq := Hq2.out
            rw [hdq] at hqq
            clear hdq
            by_cases h10 : t[q] = 10
            · have hq3 : skipM false (t.data.toList.drop (q + 1)) = [] := by
                rw [h10] at hqq
                simpa [skipM] using hqq
              have HQ3 := Lib.hid hq3
              have e10 : ((t[q].toNat : Nat) : Int) = 10 := by rw [h10]; rfl
              clear hqq hq3 h10
              go_wp2_with fail
              go_roundg (t.size + 1 - (q + 1))
              case measure => rw [Hk.out]; omega
              case rel => exact ⟨q + 1, by go_num, by omega, Lib.hid rfl, HQ3, rfl⟩
            · have hq3 : skipM true (t.data.toList.drop (q + 1)) = [] := by simpa [skipM, h10] using hqq
              have HQ3 := Lib.hid hq3
              have b10 : (((t[q].toNat : Nat) : Int) = 10) = False := eq_false (byte_ne _ 10 (by decide) h10)
              have b11 : (((t[q].toNat : Nat) : Int) != 10) = true := by simpa using byte_ne _ 10 (by decide) h10
              clear hqq hq3 h10
              go_wp2_with fail
              go_roundg (t.size - (q + 1))
              case measure => rw [Hk2.out]; omega
              case rel => exact ⟨q + 1, by go_num, by omega, by omega, Lib.hid rfl, HQ3, rfl⟩
          · obtain rfl : q = t.size := by omega
            have hq3 : skipM false (t.data.toList.drop (t.size + 1)) = [] := by
              rw [List.drop_eq_nil_of_le (by rw [← size_list]; omega)]; rfl
            have HQ3 := Lib.hid hq3
            clear hq3
            go_wp2_with fail
            go_roundg (t.size + 1 - (t.size + 1))
            case measure => rw [Hk.out]; omega
            case rel => exact ⟨t.size + 1, by go_num, by omega, Lib.hid rfl, HQ3, rfl⟩
      · have hbc : blankC t[j] = true := by
          cases h : blankC t[j]
          · rw [skip_stop h h35] at hq; cases hq
          · rfl
        have hq2 : skipM false (t.data.toList.drop (j + 1)) = [] := by simpa [skipM, hbc] using hq
        have HQ2 := Lib.hid hq2
        have b35 : (((t[j].toNat : Nat) : Int) == 35) = false := by simpa using byte_ne _ 35 (by decide) h35
        have hcs : ((t[j].toNat : Nat) : Int) = 32 ∨ ((t[j].toNat : Nat) : Int) = 9 ∨ ((t[j].toNat : Nat) : Int) = 10 ∨ ((t[j].toNat : Nat) : Int) = 13 := by
          simp only [blankC, Bool.or_eq_true, beq_iff_eq] at hbc
          rcases hbc with ((h | h) | h) | h
          · exact .inl (by rw [h]; rfl)
          · exact .inr (.inl (by rw [h]; rfl))
          · exact .inr (.inr (.inl (by rw [h]; rfl)))
          · exact .inr (.inr (.inr (by rw [h]; rfl)))
        clear hd hq hq2 h35 hbc
        rcases hcs with e | e | e | e
        all_goals
          go_wp2_with fail
          go_roundg (t.size + 1 - (j + 1))
          case measure => rw [Hk.out]; omega
          case rel => exact ⟨j + 1, by go_num, by omega, Lib.hid rfl, HQ2, rfl⟩
    · have f1 : ((j : Int) < (t.size : Int)) = False := eq_false (by omega)
      go_wp2_with fail
      go_ret
      exact ⟨rfl, rfl⟩

theorem toks_size (t : ByteArray) (f : Nat) : ∀ (l : List UInt8), l.length < f → l.length ≤ t.size → ∀ x ∈ toks t.size f l, x.t.size ≤ l.length := by
  induction f with
  | zero => intro l h; omega
  | succ f ih =>
    intro l h hl x hx
    unfold toks at hx
    split at hx
    · simp only [List.mem_singleton] at hx
      subst hx
      exact Nat.zero_le _
    · rename_i hne
      have h1 := skip_le false l
      have hml := meas_le _ hne
      have hmp := meas_pos (skipM false l)
      rcases List.mem_cons.1 hx with rfl | hx
      · have h2 : (textV (tokL (skipM false l) (t.size - (skipM false l).length))).size = (measL (skipM false l)).2 := by rw [tok_text]; exact whole_size _ _ hml
        have h3 : (tokL (skipM false l) (t.size - (skipM false l).length)).t.size ≤ (textV (tokL (skipM false l) (t.size - (skipM false l).length))).size := by
          unfold textV
          split
          · rw [ByteArray.size_append, ByteArray.size_append]; omega
          · exact Nat.le_refl _
        omega
      · split at hx
        · cases hx
        · have := ih _ (by simp; omega) (by simp; omega) x hx
          simp at this
          omega

theorem toksA_size (t : ByteArray) : ∀ x ∈ toksA t.data.toList, x.t.size ≤ t.size := by
  intro x hx
  unfold toksA at hx
  rw [← size_list] at hx
  have := toks_size t (t.size + 1) t.data.toList (by rw [← size_list]; omega) (by rw [← size_list]; exact Nat.le_refl _) x hx
  rwa [← size_list] at this

theorem toks_ne2 (N f : Nat) (l : List UInt8) : toks N (f + 1) l ≠ [] := by
  unfold toks
  split <;> simp

set_option maxRecDepth 100000 in
set_option maxHeartbeats 3200000 in
theorem lexplaces_walk (w : World) (s : ByteArray) (hE : EnvX w) : Calls Tryd.prog 6 #[.string s] w fun e w' => e = .returned (.bool true) ∧ Below w.heap.size w w' := by
  by_cases hs : s.size ≤ 3000
  · have f1 : ((3000 : Int) < (s.size : Int)) = False := eq_false (by omega)
    have hm : s.size ≤ 100000 := by omega
    have hlen := toksA_len s.data.toList
    rw [← size_list] at hlen
    have k1 := all_T w s hm hE hE.seven
    have hst := Lib.hid (fun p hp => place_step s p hp)
    have hne : toksA s.data.toList ≠ [] := by unfold toksA toks; split <;> simp
    have hszs := toksA_size s
    have hL0 : toksA s.data.toList = toks s.size ((s.data.toList.drop 0).length + 1) (s.data.toList.drop 0) := by unfold toksA; rw [size_list]; rfl
    obtain ⟨L, hL⟩ : ∃ L, toksA s.data.toList = L := ⟨_, rfl⟩
    rw [hL] at hlen k1 hne hszs hL0
    obtain ⟨n, hn⟩ : ∃ n, n = L.length := ⟨_, rfl⟩
    have hn0 : 0 < n := by rw [hn]; exact List.length_pos_iff.2 hne
    have HL0 : Hid (L.drop 0 = toks s.size ((s.data.toList.drop 0).length + 1) (s.data.toList.drop 0)) := Lib.hid hL0
    have Hszs := Lib.hid hszs
    have Hn := Lib.hid hn
    have hn2 : n ≤ 100001 := by omega
    clear hs hL hL0 hszs hlen
    go_enter Tryd.func6, Tryd.ntmps6
    go_wp2_with fail
    refine k1.mono ?_
    rintro e w1 ⟨v1, rfl, hM1, hB1⟩
    have hE1 := hE.below hB1
    obtain ⟨g, cap, rfl, hcap, -, hg, hc⟩ := MadeT.cells hM1 hne
    have Hc := Lib.hid hc
    rw [← hn]
    have f2 : ((n : Int) = 0) = False := eq_false (by omega)
    have f3 : ((n : Int) == 0) = false := by simp; omega
    clear hM1 hne hc hn k1
    go_wp2_with fail
    go_loopg [4, 5, 6] (n - 0) (fun k av iv tv wr => ∃ i p : Nat, av = .int .i64 p ∧ iv = .int .i64 i ∧ i ≤ n ∧ p ≤ s.size ∧ Hid (k = n - i) ∧ Hid (i < n → L.drop i = toks s.size ((s.data.toList.drop p).length + 1) (s.data.toList.drop p)) ∧ Below w1.heap.size w1 wr)
    case atStart => exact ⟨0, 0, rfl, rfl, by omega, by omega, Lib.hid rfl, Lib.hid (fun _ => HL0.out), Below.refl _ _⟩
    case round =>
      obtain ⟨i, p, rfl, rfl, hi, hp, Hk, HL, hB⟩ := hrel
      by_cases hlt : i < n
      · obtain ⟨x, tl, q, ww, h1, h2, h3, h4, h5, h6, h7, h8, h9⟩ := hst.out p hp
        have hdr := (HL.out hlt).trans h1
        have hx : L[i]? = some x := by
          have := congrArg (·[0]?) hdr
          simpa [List.getElem?_drop] using this
        have htl : L.drop (i + 1) = tl := by
          have := congrArg (List.drop 1) hdr
          rw [List.drop_drop] at this
          exact this
        have hxs := Hszs.out x (List.mem_of_getElem? hx)
        have htx := fun w => text_L w x (by omega)
        have hcw := (Hc.out i x hx).below hB
        obtain ⟨c0, c1, c2⟩ := hcw
        have Hc2 := Lib.hid (fun W (hB' : Below wr.heap.size wr W) => TokC.below ⟨c0, c1, c2⟩ hB')
        rw [h2] at c2
        simp only [h2] at htx
        have Htx := Lib.hid htx
        have H2 := Lib.hid h2
        clear htx h1 hdr hxs hx h2
        go_wp2_with fail
        refine (Htx.out _).mono ?_
        rintro e w2 ⟨rfl, hB2⟩
        have hC2 := hB.trans (hB2.mono hB.size)
        obtain ⟨d0, d1, d2⟩ := Hc2.out w2 hB2
        rw [H2.out] at d2
        have hem := fun w => empty_T w (s.extract p q) (by rw [ByteArray.size_extract]; omega) h6
        have Hem := Lib.hid hem
        have Htl := Lib.hid htl
        have f4 : ((q : Int) < (p : Int)) = False := eq_false (by omega)
        have f5 : p ≤ q := h3
        clear hem h6
        rcases h9 with ⟨h56, rfl⟩ | ⟨hk5, hk6, h10⟩
        · have hin : i + 1 = n := by
            have := congrArg List.length htl
            rw [List.length_drop, ← Hn.out] at this
            simp at this
            omega
          have f6 : (n : Int) - 1 = (i : Int) := by omega
          have Hin := Lib.hid hin
          by_cases hk5 : x.k = 5
          · have hw := h7 hk5
            subst hw
            have e0 : (⟨#[]⟩ : ByteArray).size = 0 := rfl
            rw [e0, Nat.add_zero] at h5
            rw [e0, Nat.add_zero] at h4
            have He2 : Hid (q ≤ s.size) := Lib.hid h4
            have b5 : (x.k == 5) = true := by simp [hk5]
            have f7 : ((s.size : Int) < (q : Int)) = False := eq_false (by omega)
            clear h7 h8 hk5 h56 hin htl e0
            have d0n : ∀ m, (w2.drewN m).cell? ⟨g, i * 3, none⟩ = some (.int .i64 x.k) := fun _ => d0
            have d2n : ∀ m, (w2.drewN m).cell? ⟨g, i * 3 + 2, none⟩ = some (.int .i64 q) := fun _ => d2
            go_wp2_with fail
            go_big_quiet (first | (go_at_call 18; exact Calls.quiet_of_same (Hem.out _)))
            go_wp2_with fail
            go_roundg (n - (i + 1))
            case measure => rw [Hk.out]; omega
            case rel => exact ⟨i + 1, _, rfl, by go_num, by omega, He2.out, Lib.hid rfl, Lib.hid (fun h => by have := Hin.out; omega), hC2.trans (below_dn (Below.refl _ _))⟩
          · have hk6 : x.k = 6 := by rcases h56 with h | h; exact absurd h hk5; exact h
            have hw := h8 hk5
            rw [← hw] at *
            obtain ⟨e2, he2⟩ : ∃ e2, e2 = q + ww.size := ⟨_, rfl⟩
            rw [← he2] at h4 h5
            have He2 : Hid (e2 ≤ s.size) := Lib.hid h4
            have f8 : (q : Int) + (ww.size : Int) = (e2 : Int) := by omega
            have f9 : q ≤ e2 := by omega
            have b5 : (x.k == 5) = false := by simp [hk5]
            have b6 : (x.k == 6) = true := by simp [hk6]
            have f7 : ((s.size : Int) < (e2 : Int)) = False := eq_false (by omega)
            clear h7 h8 hk5 hk6 h56 hin htl hw he2
            have d0n : ∀ m, (w2.drewN m).cell? ⟨g, i * 3, none⟩ = some (.int .i64 x.k) := fun _ => d0
            have d2n : ∀ m, (w2.drewN m).cell? ⟨g, i * 3 + 2, none⟩ = some (.int .i64 q) := fun _ => d2
            go_wp2_with fail
            go_big_quiet (first | (go_at_call 18; exact Calls.quiet_of_same (Hem.out _)))
            go_wp2_with fail
            go_roundg (n - (i + 1))
            case measure => rw [Hk.out]; omega
            case rel => exact ⟨i + 1, _, rfl, by go_num, by omega, He2.out, Lib.hid rfl, Lib.hid (fun h => by have := Hin.out; omega), hC2.trans (below_dn (Below.refl _ _))⟩
        · have hw := h8 hk5
          have hin : i + 1 < n := by
            have h11 := congrArg List.length htl
            rw [List.length_drop, ← Hn.out, h10] at h11
            have h12 := List.length_pos_iff.2 (toks_ne2 s.size ((s.data.toList.drop (q + ww.size)).length) (s.data.toList.drop (q + ww.size)))
            omega
          rw [← hw] at *
          obtain ⟨e2, he2⟩ : ∃ e2, e2 = q + ww.size := ⟨_, rfl⟩
          rw [← he2] at h4 h5 h10
          have He2 : Hid (e2 ≤ s.size) := Lib.hid h4
          have H10 := Lib.hid h10
          have f8 : (q : Int) + (ww.size : Int) = (e2 : Int) := by omega
          have f9 : q ≤ e2 := by omega
          have b5 : (x.k == 5) = false := by simp [hk5]
          have b6 : (x.k == 6) = false := by simp [hk6]
          have f7 : ((s.size : Int) < (e2 : Int)) = False := eq_false (by omega)
          obtain ⟨n1, hn1⟩ : ∃ n1, n = n1 + 1 := ⟨n - 1, by omega⟩
          have f6 : (n : Int) - 1 = (n1 : Int) := by omega
          have f10 : ((i : Int) == (n1 : Int)) = false := by simp; omega
          have f11 : ((i : Int) = (n1 : Int)) = False := eq_false (by omega)
          clear h7 h8 hk5 hk6 hin htl hw he2 h10 hn1
          have d0n : ∀ m, (w2.drewN m).cell? ⟨g, i * 3, none⟩ = some (.int .i64 x.k) := fun _ => d0
          have d2n : ∀ m, (w2.drewN m).cell? ⟨g, i * 3 + 2, none⟩ = some (.int .i64 q) := fun _ => d2
          go_wp2_with fail
          go_big_quiet (first | (go_at_call 18; exact Calls.quiet_of_same (Hem.out _)))
          go_wp2_with fail
          go_roundg (n - (i + 1))
          case measure => rw [Hk.out]; omega
          case rel => exact ⟨i + 1, _, rfl, by go_num, by omega, He2.out, Lib.hid rfl, Lib.hid (fun _ => Htl.out.trans H10.out), hC2.trans (below_dn (Below.refl _ _))⟩
      · have f9 : ((i : Int) < (n : Int)) = False := eq_false (by omega)
        go_wp2_with fail
        refine (wakes_T _ (hE1.below hB)).mono ?_
        rintro e w5 ⟨rfl, hB5⟩
        go_wp2_with fail
        go_ret
        exact ⟨rfl, (hB1.trans (hB.mono hB1.size)).trans (hB5.mono (Nat.le_trans hB1.size hB.size))⟩
  · have f1 : ((3000 : Int) < (s.size : Int)) = True := eq_true (by omega)
    clear hs
    go_enter Tryd.func6, Tryd.ntmps6
    go_wp2_with fail
    refine (wakes_T _ hE).mono ?_
    rintro e w1 ⟨rfl, hB1⟩
    go_wp2_with fail
    go_ret
    exact ⟨rfl, hB1⟩

end Go.Proofs.YtlnnblfkigcipaaDoor
