/- What the statements' own All answers: the text's tokens. Conditions: the text is not too long. -/
import Derived.Test.YtlnnblfkigcipaaDoorRfSigR
import Derived.Test.YtlnnblfkigcipaaDoorLxWakesK
namespace Go.Proofs.YtlnnblfkigcipaaDoor
open Go Go.RowKit Go.Shelf

theorem infoRef : (Tryd.prog.info? 46).map (fun i => (i.zero, i.size, i.bytes)) = some (some (.agg #[.int .i64 0, .string ⟨#[]⟩, .int .i64 0]), 3, 32) := by kernel_rfl

theorem skip_idem (l : List UInt8) : skipM false (skipM false l) = skipM false l := by
  cases h : skipM false l with
  | nil => rfl
  | cons c r =>
    obtain ⟨h1, h2⟩ := skip_head l false c r h
    exact skip_stop h1 h2

theorem toks_skip (N : Nat) (l : List UInt8) : toks N (l.length + 1) l = toks N ((skipM false l).length + 1) (skipM false l) := by
  rw [toks_fuel N (l.length + 1) (l.length + 1) l (by omega) (by omega)]
  rw [toks_fuel N ((skipM false l).length + 1) (l.length + 1) (skipM false l) (by omega) (by have := skip_le false l; omega)]
  conv => lhs; unfold toks
  conv => rhs; unfold toks
  rw [skip_idem]

theorem mem_ref {W : World} {b : Nat} {x : SymV} (h : W.heap[b]? = some (.cells #[.int .i64 x.k, .string x.t, .int .i64 x.n] 46 (0, 0))) : W.cell? ⟨b, 0, none⟩ = some (.int .i64 x.k) ∧ W.cell? ⟨b, 1, none⟩ = some (.string x.t) ∧ W.cell? ⟨b, 2, none⟩ = some (.int .i64 x.n) := by simp [World.cell?, h]

theorem grown_made {T : TypeId} {B : Nat} {W w' : World} {v : Value} {k : Nat} {xs : List Value} (hrow : W.ownsRow B T 3 v k xs) (hg : W.grownBy w' v.ownBlock) (hB : B ≤ W.heap.size) : Below B W w' :=
  ⟨hg.os, hg.tape, hg.output, hg.size, fun k hk => hg.block k (by omega) (fun e => by have := (hrow.lt k e.symm).1; omega)⟩

set_option maxRecDepth 100000 in
set_option maxHeartbeats 3200000 in
theorem refall_T (w : World) (t : ByteArray) (hm : t.size ≤ 100000) :
    Calls Tryd.prog 10 #[.string t] w fun e w' => ∃ v, e = .returned v ∧ MadeT 46 w.heap.size w' v (toksA t.data.toList) ∧ Below w.heap.size w w' := by
  obtain ⟨i0, hi, hz0, hz1, hz2⟩ := info_parts infoRef
  have hlen := toksA_len t.data.toList
  rw [← size_list] at hlen
  obtain ⟨L, hL⟩ : ∃ L, toksA t.data.toList = L := ⟨_, rfl⟩
  rw [hL] at hlen ⊢
  have hT : toks t.size ((skipM false t.data.toList).length + 1) (skipM false t.data.toList) = L := by rw [← toks_skip, ← hL]; unfold toksA; rw [size_list]
  have hdq : ∀ i, i ≤ t.size → ∃ j, t.size - (skipM false (t.data.toList.drop i)).length = j ∧ j ≤ t.size ∧ i ≤ j ∧ t.data.toList.drop j = skipM false (t.data.toList.drop i) := by
    intro i hi
    have h1 := skip_drop false (t.data.toList.drop i)
    have h2 := skip_le false (t.data.toList.drop i)
    have h3 : (t.data.toList.drop i).length = t.size - i := by rw [List.length_drop, ← size_list]
    rw [h3] at h1 h2
    refine ⟨_, rfl, by omega, by omega, ?_⟩
    conv => rhs; rw [h1]
    rw [List.drop_drop]
    congr 1
    omega
  have Hdq := Lib.hid hdq
  have hsk := fun w i hi => rskip_T w t i hm hi
  have hone := fun w i hi => one_T w t i hm hi
  obtain ⟨j0, hj0, hj0s, -, hj0d⟩ := hdq 0 (by omega)
  have hs0 := hsk w 0 (by omega)
  rw [hj0] at hs0
  have HT : Hid (L = [] ++ toks t.size ((t.data.toList.drop j0).length + 1) (t.data.toList.drop j0)) := Lib.hid (by rw [hj0d]; simpa using hT.symm)
  have HS : Hid (skipM false (t.data.toList.drop j0) = t.data.toList.drop j0) := Lib.hid (by rw [hj0d]; exact skip_idem _)
  have Hsk := Lib.hid hsk
  have Hone := Lib.hid hone
  clear hL hT hdq hsk hone hj0 hj0d
  go_enter Tryd.func10, Tryd.ntmps10
  go_wp2_with fail
  refine hs0.mono ?_
  rintro e w' ⟨rfl, rfl⟩
  clear hs0
  go_wp2_with fail
  go_loopg [3, 4, 5, 6] (t.size - j0) (fun k ov iv bv kv wr => ∃ (v : Value) (pre : List SymV) (j : Nat), v = ov ∧ iv = .int .i64 j ∧ j ≤ t.size ∧ Hid (k = t.size - j) ∧ MadeT 46 w'.heap.size wr v pre ∧ Hid (L = pre ++ toks t.size ((t.data.toList.drop j).length + 1) (t.data.toList.drop j)) ∧ Hid (skipM false (t.data.toList.drop j) = t.data.toList.drop j) ∧ Below w'.heap.size w' wr)
  case atStart => exact ⟨_, [], j0, rfl, rfl, hj0s, Lib.hid rfl, World.ownsRow_nil _ _ _ _, HT, HS, Below.refl _ _⟩
  case round =>
    obtain ⟨v, pre, j, rfl, rfl, hj, Hk, hM, HL, HSj, hB⟩ := hrel
    have hpl : pre.length ≤ 100001 := by
      have h1 := congrArg List.length HL.out
      rw [List.length_append] at h1
      omega
    by_cases hlt : j < t.size
    · have hsk := HSj.out
      have hql : (t.data.toList.drop j).length = t.size - j := by rw [List.length_drop, ← size_list]
      have hne : t.data.toList.drop j ≠ [] := by intro h; rw [h] at hql; simp at hql; omega
      have hjj : t.size - (t.data.toList.drop j).length = j := by omega
      have hml := meas_le _ hne
      have hmp := meas_pos (t.data.toList.drop j)
      have htb := toks_bad t.size (t.data.toList.drop j).length (t.data.toList.drop j) (by rw [hsk]; exact hne)
      have htm := toks_more t.size (t.data.toList.drop j).length (t.data.toList.drop j) (by omega) (by rw [hsk]; exact hne)
      rw [hsk, hjj] at htb htm
      have ho := Hone.out wr j hlt
      unfold OneA at ho
      obtain ⟨x, hx⟩ : ∃ x, x = tokL (t.data.toList.drop j) j := ⟨_, rfl⟩
      obtain ⟨n, hn⟩ : ∃ n, n = (measL (t.data.toList.drop j)).2 := ⟨_, rfl⟩
      rw [← hx] at htb htm ho
      rw [← hn] at htm ho hml hmp
      obtain ⟨k, hk⟩ : ∃ k, k = j + n := ⟨_, rfl⟩
      have hdk : (t.data.toList.drop j).drop n = t.data.toList.drop k := by rw [List.drop_drop, hk]
      rw [hdk] at htm
      rw [← hk] at ho
      rw [hql] at hml
      have hks : k ≤ t.size := by omega
      have hjk : j < k := by omega
      have Hjk := Lib.hid hjk
      have HLj := HL.out
      clear hsk hql hne hjj hx hn hk hdk hml hmp hjk
      by_cases h6 : x.k = 6
      · have hLx := htb h6
        rw [hLx] at HLj
        have HLx := Lib.hid HLj
        have b6 : (x.k == 6) = true := by simp [h6]
        clear htb htm hLx HLj h6
        go_wp2_with fail
        refine ho.mono ?_
        rintro e1 w1 ⟨rfl, hB1⟩
        have hC1 := hB.trans (hB1.mono hB.size)
        have hxn := heap_alloc_new w1 (.cells #[.int .i64 x.k, .string x.t, .int .i64 x.n] 46)
        have hnb : ((w1.alloc (.cells #[.int .i64 x.k, .string x.t, .int .i64 x.n] 46)).alloc (.cells #[.int .i64 x.k, .string x.t, .int .i64 x.n] 46)).heap[w1.heap.size + 1]? = some (.cells #[.int .i64 x.k, .string x.t, .int .i64 x.n] 46 (0, 0)) := by simpa using heap_alloc_new (w1.alloc (.cells #[.int .i64 x.k, .string x.t, .int .i64 x.n] 46)) (.cells #[.int .i64 x.k, .string x.t, .int .i64 x.n] 46)
        have hba : Below w1.heap.size w1 (w1.alloc (.cells #[.int .i64 x.k, .string x.t, .int .i64 x.n] 46)) := (Below.refl _ w1).alloc (Nat.le_refl _) _
        have hC2 : Below w'.heap.size w' ((w1.alloc (.cells #[.int .i64 x.k, .string x.t, .int .i64 x.n] 46)).alloc (.cells #[.int .i64 x.k, .string x.t, .int .i64 x.n] 46)) := (hC1.alloc hC1.size _).alloc (Nat.le_trans hC1.size (by simp)) _
        have hM1 : MadeT 46 w'.heap.size (w1.alloc (.cells #[.int .i64 x.k, .string x.t, .int .i64 x.n] 46)) v pre := (hM.below hB1).below hba
        have hne : some w1.heap.size ≠ v.ownBlock := fun e => by have := (World.ownsRow.lt hM _ e.symm).2; have := hB1.size; omega
        have hcx : ((w1.alloc (.cells #[.int .i64 x.k, .string x.t, .int .i64 x.n] 46)).alloc (.cells #[.int .i64 x.k, .string x.t, .int .i64 x.n] 46)).cell? ⟨w1.heap.size, 0, none⟩ = some (.int .i64 x.k) := (mem_ref ((Below.heap_alloc _ _ _ (by simp)).trans hxn)).1
        have hbs : w'.heap.size ≤ ((w1.alloc (.cells #[.int .i64 x.k, .string x.t, .int .i64 x.n] 46)).alloc (.cells #[.int .i64 x.k, .string x.t, .int .i64 x.n] 46)).heap.size := hC2.size
        obtain ⟨m0, m1, m2⟩ := mem_ref hxn
        have Hxn := Lib.hid hxn
        clear hxn
        go_wp2_with (at_builtin; refine wpList_append_own _ rfl _ _ 23 rfl w'.heap.size 46 i0 (.agg #[.int .i64 0, .string ⟨#[]⟩, .int .i64 0]) 3 32 Tryd.underlying23 hi hz0 hz1 hz2 rfl (by decide) _ _ _ rfl (World.ownsRow.alloc hM1 _) _ 1 _ [.int .i64 x.k, .string x.t, .int .i64 x.n] rfl rfl (World.news_of_block (cs := #[.int .i64 x.k, .string x.t, .int .i64 x.n]) (t := 46) (fr := (0, 0)) hnb) (by simp [Value.oneCell']) (by unfold maxLen; omega) (by omega) hbs ?_; intro v' w3 hown' hgrow _; have hMn : MadeT 46 w'.heap.size w3 v' (pre ++ [x]) := (by unfold MadeT; simpa using hown'); have hB3 := hC2.trans (grown_made (World.ownsRow.alloc hM1 _) hgrow hbs); have hck := hgrow.cell hcx hne; clear hown' hgrow)
        go_ret
        exact ⟨_, rfl, by rw [HLx.out]; exact hMn, hB3⟩
      · have hLx := htm h6
        rw [hLx] at HLj
        have b6 : (x.k == 6) = false := by simp [h6]
        obtain ⟨j2, hj2, hj2s, hj2k, hj2d⟩ := Hdq.out k hks
        have hsk2 := fun w => Hsk.out w k hks
        rw [hj2] at hsk2
        have HLx : Hid (L = (pre ++ [x]) ++ toks t.size ((t.data.toList.drop j2).length + 1) (t.data.toList.drop j2)) := Lib.hid (by rw [HLj, hj2d, ← toks_skip]; simp)
        have HS2 : Hid (skipM false (t.data.toList.drop j2) = t.data.toList.drop j2) := Lib.hid (by rw [hj2d]; exact skip_idem _)
        clear htb htm hLx HLj h6 hj2 hj2d
        go_wp2_with fail
        refine ho.mono ?_
        rintro e1 w1 ⟨rfl, hB1⟩
        have hC1 := hB.trans (hB1.mono hB.size)
        have hxn := heap_alloc_new w1 (.cells #[.int .i64 x.k, .string x.t, .int .i64 x.n] 46)
        have hnb : ((w1.alloc (.cells #[.int .i64 x.k, .string x.t, .int .i64 x.n] 46)).alloc (.cells #[.int .i64 x.k, .string x.t, .int .i64 x.n] 46)).heap[w1.heap.size + 1]? = some (.cells #[.int .i64 x.k, .string x.t, .int .i64 x.n] 46 (0, 0)) := by simpa using heap_alloc_new (w1.alloc (.cells #[.int .i64 x.k, .string x.t, .int .i64 x.n] 46)) (.cells #[.int .i64 x.k, .string x.t, .int .i64 x.n] 46)
        have hba : Below w1.heap.size w1 (w1.alloc (.cells #[.int .i64 x.k, .string x.t, .int .i64 x.n] 46)) := (Below.refl _ w1).alloc (Nat.le_refl _) _
        have hC2 : Below w'.heap.size w' ((w1.alloc (.cells #[.int .i64 x.k, .string x.t, .int .i64 x.n] 46)).alloc (.cells #[.int .i64 x.k, .string x.t, .int .i64 x.n] 46)) := (hC1.alloc hC1.size _).alloc (Nat.le_trans hC1.size (by simp)) _
        have hM1 : MadeT 46 w'.heap.size (w1.alloc (.cells #[.int .i64 x.k, .string x.t, .int .i64 x.n] 46)) v pre := (hM.below hB1).below hba
        have hne : some w1.heap.size ≠ v.ownBlock := fun e => by have := (World.ownsRow.lt hM _ e.symm).2; have := hB1.size; omega
        have hcx : ((w1.alloc (.cells #[.int .i64 x.k, .string x.t, .int .i64 x.n] 46)).alloc (.cells #[.int .i64 x.k, .string x.t, .int .i64 x.n] 46)).cell? ⟨w1.heap.size, 0, none⟩ = some (.int .i64 x.k) := (mem_ref ((Below.heap_alloc _ _ _ (by simp)).trans hxn)).1
        have hbs : w'.heap.size ≤ ((w1.alloc (.cells #[.int .i64 x.k, .string x.t, .int .i64 x.n] 46)).alloc (.cells #[.int .i64 x.k, .string x.t, .int .i64 x.n] 46)).heap.size := hC2.size
        obtain ⟨m0, m1, m2⟩ := mem_ref hxn
        have Hxn := Lib.hid hxn
        clear hxn
        go_wp2_with (at_builtin; refine wpList_append_own _ rfl _ _ 23 rfl w'.heap.size 46 i0 (.agg #[.int .i64 0, .string ⟨#[]⟩, .int .i64 0]) 3 32 Tryd.underlying23 hi hz0 hz1 hz2 rfl (by decide) _ _ _ rfl (World.ownsRow.alloc hM1 _) _ 1 _ [.int .i64 x.k, .string x.t, .int .i64 x.n] rfl rfl (World.news_of_block (cs := #[.int .i64 x.k, .string x.t, .int .i64 x.n]) (t := 46) (fr := (0, 0)) hnb) (by simp [Value.oneCell']) (by unfold maxLen; omega) (by omega) hbs ?_; intro v' w3 hown' hgrow _; have hMn : MadeT 46 w'.heap.size w3 v' (pre ++ [x]) := (by unfold MadeT; simpa using hown'); have hB3 := hC2.trans (grown_made (World.ownsRow.alloc hM1 _) hgrow hbs); have hck := hgrow.cell hcx hne; clear hown' hgrow)
        refine (hsk2 _).mono ?_
        rintro e1 w4 ⟨rfl, rfl⟩
        go_wp2_with fail
        go_roundg (t.size - j2)
        case measure => have := Hjk.out; rw [Hk.out]; omega
        case rel => exact ⟨_, pre ++ [x], j2, rfl, rfl, hj2s, Lib.hid rfl, hMn, HLx, HS2, hB3⟩
    · obtain rfl : j = t.size := by omega
      have hLx := HL.out
      have hend : t.data.toList.drop t.size = [] := List.drop_eq_nil_of_le (by rw [← size_list]; exact Nat.le_refl _)
      rw [hend] at hLx
      have HLx : Hid (L = pre ++ [⟨5, ⟨#[]⟩, t.size⟩]) := Lib.hid hLx
      clear hLx hend
      have hnb := heap_alloc_new wr (.cells #[.int .i64 5, .string ⟨#[]⟩, .int .i64 t.size] 46)
      have hbs : w'.heap.size ≤ (wr.alloc (.cells #[.int .i64 5, .string ⟨#[]⟩, .int .i64 t.size] 46)).heap.size := Nat.le_trans hB.size (by simp)
      have hC2 : Below w'.heap.size w' (wr.alloc (.cells #[.int .i64 5, .string ⟨#[]⟩, .int .i64 t.size] 46)) := hB.alloc hB.size _
      go_wp2_with (at_builtin; refine wpList_append_own _ rfl _ _ 23 rfl w'.heap.size 46 i0 (.agg #[.int .i64 0, .string ⟨#[]⟩, .int .i64 0]) 3 32 Tryd.underlying23 hi hz0 hz1 hz2 rfl (by decide) _ _ _ rfl (World.ownsRow.alloc hM _) _ 1 _ [.int .i64 5, .string ⟨#[]⟩, .int .i64 t.size] rfl rfl (World.news_of_block (cs := #[.int .i64 5, .string ⟨#[]⟩, .int .i64 t.size]) (t := 46) (fr := (0, 0)) hnb) (by simp [Value.oneCell']) (by unfold maxLen; omega) (by omega) hbs ?_; intro v' w3 hown' hgrow _; have hMn : MadeT 46 w'.heap.size w3 v' (pre ++ [⟨5, ⟨#[]⟩, t.size⟩]) := (by unfold MadeT; simpa using hown'); have hB3 := hC2.trans (grown_made (World.ownsRow.alloc hM _) hgrow hbs); clear hown' hgrow)
      go_ret
      exact ⟨_, rfl, by rw [HLx.out]; exact hMn, hB3⟩

end Go.Proofs.YtlnnblfkigcipaaDoor
