/- What the statements' plain map holds once a key has a value. Conditions: at most 10000 entries, in order. -/
import Derived.Test.YtbpibbcehfkeeaaPlainRelS
namespace Go.Proofs.Ytbpibbcehfkeeaa.S
open Go Go.RowKit

theorem infoV : (Try.prog.info? 3).map (fun i => (i.zero, i.size, i.bytes)) = some (some (.int .i64 0), 1, 8) := by kernel_rfl

theorem rw_set {B j : Nat} {W : World} {v : Value} {xs : List Int} (h : I.Rw ei 3 B W v xs) (hj : j < xs.length) :
    ∃ g off cap, v = .slice (some ⟨g, off, none⟩) xs.length cap ∧ B ≤ g ∧ g < W.heap.size ∧ (∃ cur, W.heap[g]? = some (.cells cur 3 (0, 0))) ∧ (∃ u, W.cell? ⟨g, off + j, none⟩ = some u) ∧ W.frozen? ⟨g, off + j, none⟩ = false ∧
      ∀ z, I.Rw ei 3 B (W.setCell ⟨g, off + j, none⟩ (ei z)) v (xs.set j z) := by
  rcases h with ⟨rfl, rfl⟩ | ⟨g, off, cap, cur, rfl, h1, h2, h3, h4, h5⟩
  · simp at hj
  · refine ⟨g, off, cap, rfl, h1, lt_of_block h2, ⟨cur, h2⟩, ⟨_, I.cell_of_heap h2 (h5 j xs[j] (by simp [hj]))⟩, I.frozen_of_heap h2 _, fun z => .inr ⟨g, off, cap, cur.setIfInBounds (off + j) (ei z), by simp, h1, I.setCell_heap h2 _, by simpa using h3, by simpa using h4, fun i x hx => ?_⟩⟩
    rw [List.getElem?_set] at hx
    by_cases hij : j = i
    · subst hij
      rw [if_pos rfl, if_pos hj] at hx
      cases hx
      have : off + j < cur.size := by omega
      simp [this]
    · rw [if_neg hij] at hx
      rw [Array.getElem?_setIfInBounds_ne (by omega)]
      exact h5 i x hx

theorem keys_set {L : List EntV} {j : Nat} {x y : EntV} (hy : L[j]? = some y) (hk : x.key = y.key) : keysL (L.set j x) = keysL L := by
  apply List.ext_getElem?
  intro i
  simp only [keysL, List.getElem?_map, List.getElem?_set]
  by_cases h : j = i
  · subst h
    obtain ⟨hl, hg⟩ := List.getElem?_eq_some_iff.1 hy
    simp [hl, hk, hg]
  · rw [if_neg h]

theorem ins_lt {α : Type} {L : List α} {x : α} {j q : Nat} (hj : j ≤ L.length) (h : q < j) : (L.take j ++ x :: L.drop j)[q]? = L[q]? := by
  rw [List.getElem?_append_left (by simp; omega), List.getElem?_take_of_lt h]

theorem ins_eq {α : Type} {L : List α} {x : α} {j : Nat} (hj : j ≤ L.length) : (L.take j ++ x :: L.drop j)[j]? = some x := by
  have h : (L.take j).length = j := by simp; omega
  rw [List.getElem?_append_right (by omega), h]
  simp

theorem ins_gt {α : Type} {L : List α} {x : α} {j q : Nat} (hj : j ≤ L.length) (h : j < q) : (L.take j ++ x :: L.drop j)[q]? = L[q - 1]? := by
  have h0 : (L.take j).length = j := by simp; omega
  rw [List.getElem?_append_right (by omega), h0, show q - j = (q - 1 - j) + 1 by omega, List.getElem?_cons_succ, List.getElem?_drop, show j + (q - 1 - j) = q - 1 by omega]

theorem take_one {α : Type} {L : List α} {q : Nat} {z : α} (h : L[q]? = some z) : L.take (q + 1) = L.take q ++ [z] := by
  rw [List.take_add_one, h]; rfl

theorem sliceGe_keys {lo : Nat} {w : World} {v : Value} {xs : List SymV} (h : SliceGe lo w v xs) {p : Nat} (hp : p < lo) : KeysAt p w.heap.size w v xs := by
  obtain ⟨a, cap, rfl, h | ⟨b, off, hb, rfl, h⟩⟩ := h
  · exact ⟨a, cap, rfl, .inl h⟩
  · cases xs with
    | nil => exact ⟨_, cap, rfl, .inl rfl⟩
    | cons x xs => exact ⟨_, cap, rfl, .inr ⟨b, off, by omega, World.block_lt_of_cell? w _ (h 0 x rfl).1, rfl, h⟩⟩

set_option pp.deepTerms true
set_option pp.maxSteps 1000000
set_option maxRecDepth 100000 in
set_option maxHeartbeats 2000000 in
theorem plainput_T (w : World) (p : Nat) (L : List EntV) (x : EntV) (hp : PL w p L) (hso : Sorted entCmp L) (hs : L.length ≤ 10000) :
    Calls Try.prog 15 #[.pointer (some ⟨p, 0, none⟩), .agg #[.int .i64 x.key.k, .string x.key.t, .int .i64 x.key.n], .int .i64 x.v] w fun e w' => (∃ u, e = .returned u) ∧ PL w' p (put entCmp (E.drop entCmp L x) x) ∧ Ch p w w' := by
  have hB0 : Below w.heap.size w (w.alloc (.cells #[.int .i64 x.key.k, .string x.key.t, .int .i64 x.key.n] 26)) := (Below.refl _ w).alloc (Nat.le_refl _) _
  have hx0 := mem_new w x.key
  have hsz : w.heap.size < (w.alloc (.cells #[.int .i64 x.key.k, .string x.key.t, .int .i64 x.key.n] 26)).heap.size := by simp
  obtain ⟨i0, hi, hz0, hz1, hz2⟩ := I.info_parts' infoV
  have hpw : p < w.heap.size := by obtain ⟨vk, vv, K, h1, h2, -⟩ := hp; omega
  obtain ⟨vk, vv, K, hpK, hK, hpl, hk, hf, hv⟩ := hp.below hB0
  have hse := sym_equal'
  have hsg := sym_guard
  have Hso := Lib.hid hso
  clear hp hso
  go_enter Try.func15, Try.ntmps15
  go_wp2_with fail
  generalize w.alloc (.cells #[.int .i64 x.key.k, .string x.key.t, .int .i64 x.key.n] 26) = W0 at hB0 hx0 hsz hK hpl hk hv ⊢
  refine (plainfind_T W0 p vk vv (keysL L) x.key hpl hk.slice (sorted_keys Hso.out) (by simp; omega)).mono ?_
  rintro e w1 ⟨rfl, hB1⟩
  rw [has_keys, pos_keys]
  have hpl1 : PlainAt w1 p vk vv := (hB1.block _ (lt_of_block hpl)).trans hpl
  have hk1 := hk.keep (w' := w1) fun b _ _ hb => hB1.block b hb
  have hv1 := hv.below hB1
  have hBw1 := hB0.trans (hB1.mono hB0.size)
  obtain ⟨c0, c1, fr0, fr1⟩ := plain_cells hpl1
  have hjl : pos entCmp L x ≤ L.length := pos_le L x
  cases hh : has entCmp L x
  · have HP := Lib.hid (putE_no hh)
    rw [if_neg (by simp)]
    have hkp : put symCmp (keysL L) x.key = keysL (L.take (pos entCmp L x) ++ x :: L.drop (pos entCmp L x)) := by
      rw [put, has_keys, hh, if_neg (by simp), ins, pos_keys]
      simp [keysL, List.map_take, List.map_drop]
    have hne : ∀ y ∈ L, y.key ≠ x.key := fun y hy e => by
      have h := List.any_eq_false.1 hh y hy
      rw [show entCmp x y = 0 from (symCmp_exact x.key y.key).2 e.symm] at h
      simp at h
    generalize pos entCmp L x = j at hjl HP hkp
    have Hhh := Lib.hid hh
    clear hh
    go_wp2_with fail
    have hx1 := mem_below hB1 hsz hx0
    have hPut := refput_T w1.drew vk (keysL L) x.key (hk1.slice.below (Below.refl _ _).drew) hf (sorted_keys Hso.out) (by simp; omega)
    have hkeep : ∀ W, Below w1.drew.heap.size w1.drew W → (W.cell? ⟨w.heap.size, 0, none⟩ = some (.int .i64 x.key.k) ∧ W.cell? ⟨w.heap.size, 1, none⟩ = some (.string x.key.t) ∧ W.cell? ⟨w.heap.size, 2, none⟩ = some (.int .i64 x.key.n)) ∧ W.cell? ⟨p, 0, none⟩ = some vk := by
      intro W hb
      have hb' : Below w1.heap.size w1 W := (Below.refl _ _).drew.trans hb
      exact ⟨mem_below hb' (by have := hB1.size; omega) hx1, (plain_cells (show PlainAt W p vk vv from (hb'.block _ (lt_of_block hpl1)).trans hpl1)).1⟩
    obtain ⟨⟨y0, y1, y2⟩, -⟩ := hkeep _ (Below.refl _ _)
    go_region_held3 (fun W => (W.cell? ⟨w.heap.size, 0, none⟩ = some (.int .i64 x.key.k) ∧ W.cell? ⟨w.heap.size, 1, none⟩ = some (.string x.key.t) ∧ W.cell? ⟨w.heap.size, 2, none⟩ = some (.int .i64 x.key.n)) ∧ W.cell? ⟨p, 0, none⟩ = some vk)
      (first | go_keep | assumption)
      (first
        | ((with_reducible refine hPut.mono ?_); rintro e w2 ⟨v2, rfl, hf2, hv2, hB2⟩; have hh3 := hkeep w2 hB2)
        | fail "no arm")
    have hB2' : Below w1.heap.size w1 w2 := (Below.refl _ _).drew.trans hB2
    rw [hkp] at hv2
    have hv2' : SliceGe w1.heap.size w2 v2 (keysL (L.take j ++ x :: L.drop j)) := by
      rcases hv2 with ⟨-, h⟩ | h
      · have := congrArg List.length h
        simp at this
        omega
      · exact h
    clear hv2 hh3 y0 y1 y2 hkeep hPut hB2 c0 c1 fr0 fr1
    obtain ⟨L', hL'⟩ : ∃ L', L.take j ++ x :: L.drop j = L' := ⟨_, rfl⟩
    rw [hL'] at hv2' HP
    have hLl : L'.length = L.length + 1 := by rw [← hL']; simp; omega
    have HL := Lib.hid hL'
    clear hL' hkp
    have hpw1 : p < w1.heap.size := lt_of_block hpl1
    have HK2 := Lib.hid (sliceGe_keys hv2' hpw1)
    obtain ⟨a2, cap2, rfl, hel0⟩ := hv2'.slice
    have hel : ∃ b off, a2 = some ⟨b, off, none⟩ ∧ Elems w2 b off (keysL L') := by
      rcases hel0 with h | h
      · have h3 : L' = [] := List.map_eq_nil_iff.1 h
        rw [h3] at hLl
        simp at hLl
      · exact h
    clear hel0
    obtain ⟨b2, off2, rfl, hel⟩ := hel
    have Hel := Lib.hid hel
    rw [List.length_map] at HK2 ⊢
    have hpl2 : PlainAt w2 p vk vv := (hB2'.block _ hpw1).trans hpl1
    have HV2 := Lib.hid (hv1.below hB2')
    have HX1 := Lib.hid hx1
    obtain ⟨av, cv, hvv, -, -, -⟩ := hv1.src
    rw [List.length_map] at hvv
    subst hvv
    have HLl := Lib.hid hLl
    have hL2 : L'.length ≤ 10001 := by omega
    clear hLl
    have hw1 : w.heap.size < w1.heap.size := by have := hB1.size; omega
    clear hv2' hel hv1 hx1 hv hk hk1 hpl hpl1 hx0
    go_wp2_with fail
    go_loopg [8, 9, 10] (L'.length - 0) (fun m vn k i wr => ∃ q kq : Nat, i = .int .i64 q ∧ k = .int .i64 kq ∧ q ≤ L'.length ∧ Hid (m = L'.length - q) ∧ Hid ((q ≤ j ∧ kq = q) ∨ (j < q ∧ kq + 1 = q)) ∧ Hid (I.Rw ei 3 w2.heap.size wr vn ((valsL L').take q)) ∧ Below w2.heap.size w2 wr)
    case atStart => exact ⟨0, 0, rfl, rfl, by omega, Lib.hid rfl, Lib.hid (.inl ⟨by omega, rfl⟩), Lib.hid (I.Rw.nil _), Below.refl _ _⟩
    case round =>
      obtain ⟨q, kq, rfl, rfl, hq, Hm, Hk, HR, hB⟩ := hrel
      obtain ⟨an, cn, hvn, -, -, -⟩ := HR.out.src
      have hln : ((valsL L').take q).length = q := by simp; omega
      rw [hln] at hvn
      subst hvn
      obtain ⟨V, hV⟩ : ∃ V, (valsL L').take q = V := ⟨_, rfl⟩
      rw [hV] at HR hln
      have HV := Lib.hid hV
      clear hV
      have hplr : PlainAt wr p vk (.slice av L.length cv) := (hB.block _ (lt_of_block hpl2)).trans hpl2
      obtain ⟨c0, c1, fr0, fr1⟩ := plain_cells hplr
      by_cases hlt : q < L'.length
      · obtain ⟨y, hy⟩ : ∃ y, L'[q]? = some y := ⟨L'[q], by simp [hlt]⟩
        have hyk : (keysL L')[q]? = some y.key := by simp [keysL, hy]
        have hyc := (Hel.out.below hB (World.block_lt_of_cell? w2 _ (Hel.out q y.key hyk).1)) q y.key hyk
        have hxc := mem_below (hB2'.trans (hB.mono hB2'.size)) hw1 HX1.out
        have Hy := Lib.hid hy
        clear hy hyk
        by_cases hqj : q = j
        · have hyx : y = x := by
            have h := Hy.out
            rw [← HL.out, hqj, ins_eq hjl] at h
            cases h; rfl
          subst hyx
          have hs1 : same ⟨y.key.k, y.key.t, y.key.n⟩ ⟨y.key.k, y.key.t, y.key.n⟩ = true := same_iff.2 rfl
          have Hqj := Lib.hid hqj
          clear hqj
          go_wp2_with fail
          go_quiet (fail)
          have hd : wr.drew.heap.size = wr.heap.size := rfl
          have hBa : Below w2.heap.size wr ((wr.drewN nq).alloc (.cells #[.int .i64 y.v] 3)) := ((below_drewN _ wr nq).alloc (by have := hB.size; exact this) _)
          have hna := heap_alloc_new (wr.drewN nq) (.cells #[.int .i64 y.v] 3)
          have hsx : I.Src1 ei ((wr.drewN nq).alloc (.cells #[.int .i64 y.v] 3)) (some ⟨wr.heap.size, 0, none⟩) 1 [y.v] := .inr ⟨_, rfl, fun i z hz => by
            cases i with
            | zero => cases hz; exact I.cell_of_heap hna (i := 0) rfl
            | succ i => simp at hz⟩
          have HRa := Lib.hid (HR.out.below ((below_drewN wr.heap.size wr nq).alloc (Nat.le_refl _) (.cells #[.int .i64 y.v] 3)))
          clear hna hd
          go_wp2_with (at_builtin; refine I.wpList_append_rw (B := w2.heap.size) (fun _ => rfl) rfl _ _ 30 rfl Try.underlying30 hi hz0 hz1 hz2 rfl (.slice an q cn) V rfl HRa.out (some ⟨wr.heap.size, 0, none⟩) 1 1 [y.v] rfl rfl hsx (by simp; omega) (by simp; omega) (by have := hBa.size; have := hB.size; omega) ?_; intro v3 w3 hR3 hF3 hE3 hN3; have HR3 := Lib.hid hR3; have hB3 := hBa.trans ((hF3.below (B := w2.heap.size) (fun g l e => (HRa.out.end_ge g l e).1) (by have := hBa.size; have := hB.size; omega))); clear hR3 hF3 hE3 hN3)
          go_roundg (L'.length - (q + 1))
          case measure => rw [Hm.out]; omega
          case rel =>
            have hkq : kq = j := by rcases Hk.out with ⟨-, h⟩ | ⟨h, -⟩ <;> (have := Hqj.out; omega)
            refine ⟨q + 1, kq, by go_num, rfl, by omega, Lib.hid rfl, Lib.hid (.inr ⟨by have := Hqj.out; omega, by have := Hqj.out; omega⟩), Lib.hid ?_, hB.trans hB3⟩
            rw [take_one (z := y.v) (by simp [valsL, Hy.out]), HV.out]
            exact HR3.out
        · have hyL : L[kq]? = some y := by
            have h := Hy.out
            rw [← HL.out] at h
            rcases Hk.out with ⟨h1, rfl⟩ | ⟨h1, h2⟩
            · rwa [ins_lt hjl (by omega)] at h
            · rw [ins_gt hjl h1] at h
              rwa [show q - 1 = kq by omega] at h
          have hnk := hne y (List.mem_of_getElem? hyL)
          have hs1 : same ⟨y.key.k, y.key.t, y.key.n⟩ ⟨x.key.k, x.key.t, x.key.n⟩ = false := by
            have : ¬ same y.key x.key = true := fun h => hnk (same_iff.1 h)
            simpa using this
          obtain ⟨g, off, cap, hvv, hcell⟩ := (HV2.out.below hB).cellAt kq y.v (by simp [valsL, hyL])
          rw [List.length_map] at hvv
          simp only [Value.slice.injEq] at hvv
          obtain ⟨rfl, -, rfl⟩ := hvv
          replace hcell : wr.cell? ⟨g, off + kq, none⟩ = some (.int .i64 y.v) := hcell
          have hkl : kq < L.length := (List.getElem?_eq_some_iff.1 hyL).1
          have Hqj := Lib.hid hqj
          clear hqj hnk hne hyL
          go_wp2_with fail
          go_quiet (fail)
          have hd : wr.drew.heap.size = wr.heap.size := rfl
          have hBa : Below w2.heap.size wr ((wr.drewN nq).alloc (.cells #[.int .i64 y.v] 3)) := ((below_drewN _ wr nq).alloc (by have := hB.size; exact this) _)
          have hna := heap_alloc_new (wr.drewN nq) (.cells #[.int .i64 y.v] 3)
          have hsx : I.Src1 ei ((wr.drewN nq).alloc (.cells #[.int .i64 y.v] 3)) (some ⟨wr.heap.size, 0, none⟩) 1 [y.v] := .inr ⟨_, rfl, fun i z hz => by
            cases i with
            | zero => cases hz; exact I.cell_of_heap hna (i := 0) rfl
            | succ i => simp at hz⟩
          have HRa := Lib.hid (HR.out.below ((below_drewN wr.heap.size wr nq).alloc (Nat.le_refl _) (.cells #[.int .i64 y.v] 3)))
          clear hna hd
          go_wp2_with (at_builtin; refine I.wpList_append_rw (B := w2.heap.size) (fun _ => rfl) rfl _ _ 30 rfl Try.underlying30 hi hz0 hz1 hz2 rfl (.slice an q cn) V rfl HRa.out (some ⟨wr.heap.size, 0, none⟩) 1 1 [y.v] rfl rfl hsx (by simp; omega) (by simp; omega) (by have := hBa.size; have := hB.size; omega) ?_; intro v3 w3 hR3 hF3 hE3 hN3; have HR3 := Lib.hid hR3; have hB3 := hBa.trans ((hF3.below (B := w2.heap.size) (fun g l e => (HRa.out.end_ge g l e).1) (by have := hBa.size; have := hB.size; omega))); clear hR3 hF3 hE3 hN3)
          go_roundg (L'.length - (q + 1))
          case measure => rw [Hm.out]; omega
          case rel =>
            refine ⟨q + 1, kq + 1, by go_num, by go_num, by omega, Lib.hid rfl, Lib.hid ?_, Lib.hid ?_, hB.trans hB3⟩
            · have := Hqj.out
              rcases Hk.out with ⟨h1, h2⟩ | ⟨h1, h2⟩
              · exact .inl ⟨by omega, by omega⟩
              · exact .inr ⟨by omega, by omega⟩
            · rw [take_one (z := y.v) (by simp [valsL, Hy.out]), HV.out]
              exact HR3.out
      · obtain rfl : q = L'.length := by omega
        have hVL : V = valsL L' := by rw [← HV.out, List.take_of_length_le (by simp)]
        have HVL := Lib.hid hVL
        clear hVL
        go_wp2_with fail
        (try simp only [Exit.inBlock, Exit.then])
        first | refine bodyPost_ret (results_none rfl _ _ _) rfl ?_ | refine bodyPost_end (results_none rfl _ _ _) rfl ?_
        have hBB := hBw1.trans ((hB2'.trans (hB.mono hB2'.size)).mono hBw1.size)
        have g1 := I.setCell_heap hplr (.slice (some ⟨b2, off2, none⟩) L'.length cap2) (i := 0)
        have g2 := I.setCell_heap g1 (.slice an L'.length cn) (i := 1)
        have hb : ∀ b, b ≠ p → ((wr.setCell ⟨p, 0, none⟩ (.slice (some ⟨b2, off2, none⟩) L'.length cap2)).setCell ⟨p, 1, none⟩ (.slice an L'.length cn)).heap[b]? = wr.heap[b]? := fun b hb => (Below.heap_setCell _ _ _ _ hb).trans (Below.heap_setCell _ _ _ _ hb)
        have hs2 := hB2'.size
        have hs3 := hB.size
        refine ⟨⟨_, rfl⟩, ?_, ?_⟩
        · rw [HP.out]
          refine ⟨_, _, w2.heap.size, by omega, by simp [World.setCell]; omega, g2, ?_, ?_, ?_⟩
          · exact HK2.out.keep fun b h1 _ h3 => (hb b (by omega)).trans (hB.block b h3)
          · rwa [List.length_map] at hf2
          · have h := HR.out.keep (W' := (wr.setCell ⟨p, 0, none⟩ (.slice (some ⟨b2, off2, none⟩) L'.length cap2)).setCell ⟨p, 1, none⟩ (.slice an L'.length cn)) fun g l e => hb g (by have := (HR.out.end_ge g l e).1; omega)
            rwa [HVL.out] at h
        · exact (Ch.of_below hBB (by omega)).trans ((Ch.setCell hplr (.inl rfl) (Nat.le_refl _) _).trans (Ch.setCell g1 (.inl rfl) (Nat.le_refl _) _))
  · have HP := Lib.hid (putE_yes Hso.out hh)
    rw [if_pos rfl]
    obtain ⟨y, hy, h0⟩ := has_at entCmp_lin L x Hso.out hh
    have hyk : x.key = y.key := (symCmp_exact x.key y.key).1 h0
    generalize pos entCmp L x = j at hy hjl HP ⊢
    have hjL := (List.getElem?_eq_some_iff.1 hy).1
    obtain ⟨g, off, cap, rfl, hg1, hg2, ⟨cur, hcur⟩, ⟨u, hcell⟩, hfr, hset⟩ := rw_set (j := j) hv1 (by simpa using hjL)
    have f1 : ((0 : Int) ≤ (j : Int)) = True := eq_true (by omega)
    have f2 : (j : Int) < (valsL L).length := by simp; omega
    rw [List.length_map] at c1 f2
    have Hhh := Lib.hid hh
    have Hyk := Lib.hid hyk
    have Hy := Lib.hid hy
    clear hh hyk h0 hy
    go_wp2_with fail
    (try simp only [Exit.inBlock, Exit.then])
    first | refine bodyPost_ret (results_none rfl _ _ _) rfl ?_ | refine bodyPost_end (results_none rfl _ _ _) rfl ?_
    have hset' := hset x.v
    refine ⟨⟨_, rfl⟩, ?_, ?_⟩
    · rw [HP.out]
      have hb : ∀ b, b ≠ g → (w1.setCell ⟨g, off + j, none⟩ (.int .i64 x.v)).heap[b]? = w1.heap[b]? := fun b hb => Below.heap_setCell _ _ _ _ hb
      refine ⟨vk, _, K, hpK, by simp [World.setCell]; have := hB1.size; omega, (hb p (by omega)).trans hpl1, ?_, hf, ?_⟩
      · rw [keys_set Hy.out Hyk.out]
        exact hk1.keep fun b _ h2 _ => hb b (by omega)
      · have := hset'
        rwa [← List.map_set (f := EntV.v)] at this
    · exact (Ch.of_below hBw1 (by omega)).trans (Ch.setCell hcur (.inr rfl) (by omega) _)

end Go.Proofs.Ytbpibbcehfkeeaa.S
