/- LexSpaces returns true, whatever it is given. Conditions: the tables lie as the program lays them. -/
import Derived.Test.YtlnnblfkigcipaaDoorLxPlacesK
import Derived.Test.YtlnnblfkigcipaaDoorLxSpPl
import Derived.Test.YtlnnblfkigcipaaDoorLxInts
import Derived.Test.YtlnnblfkigcipaaDoorWithinAny
namespace Go.Proofs.YtlnnblfkigcipaaDoor
open Go Go.RowKit Go.Shelf

theorem toks_five (N : Nat) : ∀ (f : Nat) (l : List UInt8), ∀ x ∈ toks N f l, x.k = 5 → x.t = ⟨#[]⟩ := by
  intro f
  induction f with
  | zero => intro l x h; simp [toks] at h
  | succ f ih =>
    intro l x h h5
    unfold toks at h
    split at h
    · simp only [List.mem_singleton] at h
      subst h
      rfl
    · rcases List.mem_cons.1 h with rfl | h
      · exact absurd h5 (tok_kind _ _)
      · split at h
        · cases h
        · exact ih _ x h h5

/-- The five gaps. -/
theorem gap_at {W : World} {g : Nat} (h : W.heap[g]? = some (.cells #[.string ⟨#[32]⟩, .string ⟨#[10]⟩, .string ⟨#[9, 32, 13]⟩, .string ⟨#[32, 35, 32, 60, 120, 62, 32, 40, 10]⟩, .string ⟨#[32, 32]⟩] 9 (0, 0))) (k : Nat) (hk : k < 5) :
    ∃ gs : ByteArray, Gap gs.data.toList ∧ gs.size ≤ 9 ∧ W.cell? ⟨g, k, none⟩ = some (.string gs) := by
  have hc : k = 0 ∨ k = 1 ∨ k = 2 ∨ k = 3 ∨ k = 4 := by omega
  clear hk
  rcases hc with rfl | rfl | rfl | rfl | rfl
  · exact ⟨⟨#[32]⟩, ⟨⟨32, [], rfl, rfl⟩, fun r => rfl⟩, by decide, by simp [World.cell?, h]⟩
  · exact ⟨⟨#[10]⟩, ⟨⟨10, [], rfl, rfl⟩, fun r => rfl⟩, by decide, by simp [World.cell?, h]⟩
  · exact ⟨⟨#[9, 32, 13]⟩, ⟨⟨9, [32, 13], rfl, rfl⟩, fun r => rfl⟩, by decide, by simp [World.cell?, h]⟩
  · exact ⟨⟨#[32, 35, 32, 60, 120, 62, 32, 40, 10]⟩, ⟨⟨32, [35, 32, 60, 120, 62, 32, 40, 10], rfl, rfl⟩, fun r => rfl⟩, by decide, by simp [World.cell?, h]⟩
  · exact ⟨⟨#[32, 32]⟩, ⟨⟨32, [32], rfl, rfl⟩, fun r => rfl⟩, by decide, by simp [World.cell?, h]⟩

/-- What is read behind the gaps. -/
theorem spaces_map (s u : ByteArray) (ps : List (SymV × List UInt8)) (ys : List SymV) (z : SymV) (hL : toksA s.data.toList = ys ++ [z]) (hz : z.k = 5) (hu : u.data.toList = flatG ps) (hps : ps.map (·.1) = ys) (hg : ∀ p ∈ ps, Gap p.2) :
    (toksA u.data.toList).map (fun y => (y.k, y.t)) = (toksA s.data.toList).map (fun y => (y.k, y.t)) := by
  have hzt := toks_five _ _ _ z (show z ∈ toksA s.data.toList by rw [hL]; simp) hz
  have hal := toks_alone _ _ _ ys z hL hz
  obtain ⟨ys2, h1, h2⟩ := flat_toks u.data.toList.length ps (fun p hp => ⟨hal p.1 (by rw [← hps]; exact List.mem_map.2 ⟨p, hp, rfl⟩), hg p hp⟩) (u.data.toList.length + 1) (by rw [hu]; omega)
  rw [← hu] at h1
  have h3 : toksA u.data.toList = ys2 ++ [⟨5, ⟨#[]⟩, u.data.toList.length⟩] := h1
  rw [h3, hL, List.map_append, List.map_append, h2, ← hps]
  simp [hz, hzt]

set_option maxRecDepth 100000 in
set_option maxHeartbeats 3200000 in
theorem lexspaces_walk (w : World) (s : ByteArray) (v : Value) (zs : List Int) (hzs : IntsL w v zs) (hE : EnvX w) : Calls Tryd.prog 5 #[.string s, v] w fun e w' => e = .returned (.bool true) ∧ Below w.heap.size w w' := by
  obtain ⟨p0, c0, rfl, hz0⟩ := id hzs
  by_cases hs : s.size ≤ 1000
  · have f1 : ((1000 : Int) < (s.size : Int)) = False := eq_false (by omega)
    have hm : s.size ≤ 100000 := by omega
    have hlen := toksA_len s.data.toList
    rw [← size_list] at hlen
    have k1 := all_T w s hm hE hE.seven
    have hne : toksA s.data.toList ≠ [] := toks_ne2 _ _ _
    have hszs := toksA_size s
    have hsum := toks_sum s.data.toList.length (s.data.toList.length + 1) s.data.toList
    rw [← size_list] at hsum
    have hmap := spaces_map s
    obtain ⟨L, hL⟩ : ∃ L, toksA s.data.toList = L := ⟨_, rfl⟩
    have hsum : (L.map fun x => (textV x).size).sum ≤ s.size := by rw [← hL]; unfold toksA; rw [← size_list]; exact hsum
    rw [hL] at hlen k1 hne hszs hmap
    obtain ⟨n, hn⟩ : ∃ n, n = L.length := ⟨_, rfl⟩
    obtain ⟨n1, hn1⟩ : ∃ n1, n = n1 + 1 := ⟨n - 1, by have := List.length_pos_iff.2 hne; omega⟩
    obtain ⟨z, hz⟩ : ∃ z, L[n1]? = some z := ⟨L[n1]'(by omega), by rw [List.getElem?_eq_getElem]⟩
    have hLz : L = L.take n1 ++ [z] := by
      have h1 := List.take_append_drop n1 L
      have h2 : L.drop n1 = [z] := by
        rw [List.drop_eq_getElem_cons (by omega)]
        have h3 : L.drop (n1 + 1) = [] := List.drop_eq_nil_of_le (by omega)
        rw [h3]
        rw [List.getElem?_eq_getElem (by omega)] at hz
        cases hz
        rfl
      rw [h2] at h1
      exact h1.symm
    have f2 : (n : Int) - 1 = (n1 : Int) := by omega
    have f3 : ((n : Int) = 0) = False := eq_false (by omega)
    have f4 : ((n : Int) == 0) = false := by simp; omega
    have hn2 : n ≤ 1001 := by omega
    have Hn := Lib.hid hn
    have Hn1 := Lib.hid hn1
    have HLz := Lib.hid hLz
    have Hszs := Lib.hid hszs
    have Hsum := Lib.hid hsum
    have Hmap := Lib.hid hmap
    have hn1n : n1 < n := by omega
    go_enter Tryd.func5, Tryd.ntmps5
    go_wp2_with fail
    refine k1.mono ?_
    rintro e w1 ⟨v1, rfl, hM1, hB1⟩
    have hE1 := hE.below hB1
    obtain ⟨g, cap, rfl, hcap, -, hg, hc⟩ := MadeT.cells hM1 hne
    have Hc := Lib.hid hc
    have hz1 := hzs.below hB1
    obtain ⟨cz0, cz1, cz2⟩ := hc n1 z hz
    rw [← hn]
    rw [← hn] at hcap
    clear hM1 hc hn hne k1 hlen hszs hsum hmap hL hLz hz hz0 hzs hn1
    by_cases h5 : z.k = 5
    · have b5 : (z.k != 5) = false := by simp [h5]
      have H5 := Lib.hid h5
      clear h5
      go_wp2_with fail
      have hbn := heap_alloc_new w1 (.cells #[.string ⟨#[32]⟩, .string ⟨#[10]⟩, .string ⟨#[9, 32, 13]⟩, .string ⟨#[32, 35, 32, 60, 120, 62, 32, 40, 10]⟩, .string ⟨#[32, 32]⟩] 9)
      have hBn : Below w1.heap.size w1 (w1.alloc (.cells #[.string ⟨#[32]⟩, .string ⟨#[10]⟩, .string ⟨#[9, 32, 13]⟩, .string ⟨#[32, 35, 32, 60, 120, 62, 32, 40, 10]⟩, .string ⟨#[32, 32]⟩] 9)) := (Below.refl _ w1).alloc (Nat.le_refl _) _
      generalize (w1.alloc (.cells #[.string ⟨#[32]⟩, .string ⟨#[10]⟩, .string ⟨#[9, 32, 13]⟩, .string ⟨#[32, 35, 32, 60, 120, 62, 32, 40, 10]⟩, .string ⟨#[32, 32]⟩] 9)) = W2 at hbn hBn ⊢
      have hzc : ∀ W, Below w1.heap.size w1 W → ∀ i y, zs[i]? = some y → ∃ b off, p0 = some ⟨b, off, none⟩ ∧ W.cell? ⟨b, off + i, none⟩ = some (.int .i64 y) := by
        intro W hB i y hy
        obtain ⟨p, c, he, h⟩ := hz1.below hB
        simp only [Value.slice.injEq] at he
        obtain ⟨rfl, -, -⟩ := he
        exact h i y hy
      have Hzc := Lib.hid hzc
      clear hzc hz1 cz0 cz1 cz2
      go_loopg [7, 8, 9] (n1 - 0) (fun k uv iv gv wr => ∃ (u : ByteArray) (i : Nat) (ps : List (SymV × List UInt8)), uv = .string u ∧ iv = .int .i64 i ∧ i ≤ n1 ∧ Hid (k = n1 - i) ∧ Hid (u.data.toList = flatG ps) ∧ Hid (ps.map (·.1) = L.take i) ∧ Hid (∀ p ∈ ps, Gap p.2) ∧ Hid (u.size + ((L.drop i).map fun x => (textV x).size).sum ≤ s.size + 9 * i) ∧ Below W2.heap.size W2 wr)
      case atStart => exact ⟨⟨#[]⟩, 0, [], rfl, rfl, by omega, Lib.hid rfl, Lib.hid rfl, Lib.hid rfl, Lib.hid (fun p hp => by cases hp), Lib.hid (by have := Hsum.out; show 0 + _ ≤ _; simpa using this), Below.refl _ _⟩
      case round =>
        obtain ⟨u, i, ps, rfl, rfl, hi, Hk, Hu, Hps, Hgp, Hsz, hB⟩ := hrel
        have hBw : Below w1.heap.size w1 wr := hBn.trans (hB.mono hBn.size)
        by_cases hlt : i < n1
        · obtain ⟨x, hx⟩ : ∃ x, L[i]? = some x := ⟨L[i]'(by rw [← Hn.out]; omega), by rw [List.getElem?_eq_getElem]⟩
          have hxs := Hszs.out x (List.mem_of_getElem? hx)
          have Htx := Lib.hid (fun w => text_L w x (by omega))
          have Hxz : Hid ((textV x).size ≤ 1002) := Lib.hid (by have := textV_size x; omega)
          have Huz : Hid (u.size ≤ 20000) := Lib.hid (by have := Hsz.out; omega)
          have Htk : Hid (L.take (i + 1) = L.take i ++ [x]) := Lib.hid (by rw [List.take_add_one, hx]; rfl)
          have Hds : Hid (((L.drop i).map fun x => (textV x).size).sum = (textV x).size + ((L.drop (i + 1)).map fun x => (textV x).size).sum) := Lib.hid (by
            have h1 := (List.getElem?_eq_some_iff.1 hx).1
            have h2 := (List.getElem?_eq_some_iff.1 hx).2
            rw [List.drop_eq_getElem_cons h1, h2, List.map_cons, List.sum_cons])
          obtain ⟨c0, c1, c2⟩ := (Hc.out i x hx).below hBw
          have g1 : ((i : Int) + 1 < (n : Int)) = True := eq_true (by omega)
          have g2 : (i + 1 < n) = True := eq_true (by omega)
          clear hx hxs
          by_cases hgi : i < zs.length
          · obtain ⟨b, off, rfl, hzi⟩ := Hzc.out wr hBw i (zs[i]'hgi) (by rw [List.getElem?_eq_getElem])
            generalize zs[i]'hgi = gz at hzi
            have g3 : ((i : Int) < (zs.length : Int)) = True := eq_true (by omega)
            go_wp2_with fail
            refine (Htx.out _).mono ?_
            rintro e w2 ⟨rfl, hB2⟩
            have hC2 := hB.trans (hB2.mono hB.size)
            go_wp2_with fail
            refine (within_any w2 gz 5 (by decide) (by decide)).mono ?_
            rintro e w2 ⟨⟨k, rfl, hk⟩, rfl⟩
            obtain ⟨gs, hgs, hgz, hgc⟩ := gap_at ((hC2.block _ (lt_of_block hbn)).trans hbn) k (by omega)
            have hk5 : k < 5 := by omega
            have ha1 : ∀ w, (Op.stringOp .add (textV x) gs).run Tryd.prog w = .ok (.string (textV x ++ gs)) w := fun w => run_string_add_sum w _ _ (by have := Hxz.out; omega)
            have ha2 : ∀ w, (Op.stringOp .add u (textV x ++ gs)).run Tryd.prog w = .ok (.string (u ++ (textV x ++ gs))) w := fun w => run_string_add_sum w _ _ (by rw [ByteArray.size_append]; have := Hxz.out; have := Huz.out; omega)
            have Hgs := Lib.hid hgs
            have Hgz := Lib.hid hgz
            clear hgs hgz hk
            go_wp2_with fail
            go_roundg (n1 - (i + 1))
            case measure => rw [Hk.out]; omega
            case rel =>
              refine ⟨u ++ (textV x ++ gs), i + 1, ps ++ [(x, gs.data.toList)], rfl, by go_num, by omega, Lib.hid rfl, Lib.hid ?_, Lib.hid ?_, Lib.hid ?_, Lib.hid ?_, hC2⟩
              · rw [cat_list, cat_list, Hu.out]; simp [flatG]
              · rw [List.map_append, Hps.out, Htk.out]; rfl
              · intro p hp
                rcases List.mem_append.1 hp with h | h
                · exact Hgp.out p h
                · simp only [List.mem_singleton] at h
                  subst h
                  exact Hgs.out
              · have h1 := Hsz.out
                have h2 := Hds.out
                have h3 := Hgz.out
                rw [h2] at h1
                rw [ByteArray.size_append, ByteArray.size_append]
                omega
          · have g3 : ((i : Int) < (zs.length : Int)) = False := eq_false (by omega)
            go_wp2_with fail
            refine (Htx.out _).mono ?_
            rintro e w2 ⟨rfl, hB2⟩
            have hC2 := hB.trans (hB2.mono hB.size)
            go_wp2_with fail
            refine (within_any w2 0 5 (by decide) (by decide)).mono ?_
            rintro e w2 ⟨⟨k, rfl, hk⟩, rfl⟩
            obtain ⟨gs, hgs, hgz, hgc⟩ := gap_at ((hC2.block _ (lt_of_block hbn)).trans hbn) k (by omega)
            have hk5 : k < 5 := by omega
            have ha1 : ∀ w, (Op.stringOp .add (textV x) gs).run Tryd.prog w = .ok (.string (textV x ++ gs)) w := fun w => run_string_add_sum w _ _ (by have := Hxz.out; omega)
            have ha2 : ∀ w, (Op.stringOp .add u (textV x ++ gs)).run Tryd.prog w = .ok (.string (u ++ (textV x ++ gs))) w := fun w => run_string_add_sum w _ _ (by rw [ByteArray.size_append]; have := Hxz.out; have := Huz.out; omega)
            have Hgs := Lib.hid hgs
            have Hgz := Lib.hid hgz
            clear hgs hgz hk
            go_wp2_with fail
            go_roundg (n1 - (i + 1))
            case measure => rw [Hk.out]; omega
            case rel =>
              refine ⟨u ++ (textV x ++ gs), i + 1, ps ++ [(x, gs.data.toList)], rfl, by go_num, by omega, Lib.hid rfl, Lib.hid ?_, Lib.hid ?_, Lib.hid ?_, Lib.hid ?_, hC2⟩
              · rw [cat_list, cat_list, Hu.out]; simp [flatG]
              · rw [List.map_append, Hps.out, Htk.out]; rfl
              · intro p hp
                rcases List.mem_append.1 hp with h | h
                · exact Hgp.out p h
                · simp only [List.mem_singleton] at h
                  subst h
                  exact Hgs.out
              · have h1 := Hsz.out
                have h2 := Hds.out
                have h3 := Hgz.out
                rw [h2] at h1
                rw [ByteArray.size_append, ByteArray.size_append]
                omega
        · obtain rfl : i = n1 := by omega
          have hn1o := Hn1.out
          have hun : u.size ≤ 100000 := by have := Hsz.out; omega
          have hE2 := hE1.below hBw
          have k2 := all_T wr u hun hE2 hE2.seven
          have hmm := Hmap.out u ps (L.take i) z HLz.out H5.out Hu.out Hps.out Hgp.out
          obtain ⟨L2, hL2⟩ : ∃ L2, toksA u.data.toList = L2 := ⟨_, rfl⟩
          rw [hL2] at k2 hmm
          have hl2 : L2.length = n := by
            have := congrArg List.length hmm
            rw [List.length_map, List.length_map, ← Hn.out] at this
            exact this
          have hpt : ∀ (j : Nat) (x y : SymV), L2[j]? = some x → L[j]? = some y → x.k = y.k ∧ x.t = y.t := by
            intro j x y hx hy
            have h1 := congrArg (·[j]?) hmm
            simp only [List.getElem?_map, hx, hy, Option.map_some, Option.some.injEq, Prod.mk.injEq] at h1
            exact h1
          have Hpt := Lib.hid hpt
          have hne2 : L2 ≠ [] := by intro h; rw [h] at hl2; simp at hl2; omega
          have g1 : ((i : Int) + 1 < (n : Int)) = False := eq_false (by omega)
          have g2 : (i + 1 < n) = False := eq_false (by omega)
          clear hmm hpt hL2 hn1o
          go_wp2_with fail
          refine k2.mono ?_
          rintro e w3 ⟨v3, rfl, hM3, hB3⟩
          have hC3 : Below w1.heap.size w1 w3 := hBw.trans (hB3.mono hBw.size)
          obtain ⟨g', cap', rfl, hcap', -, -, hc'⟩ := MadeT.cells hM3 hne2
          have Hc' := Lib.hid hc'
          rw [hl2] at hcap' ⊢
          have Hl2 := Lib.hid hl2
          clear hM3 hc' hne2 hl2 k2
          go_wp2_with fail
          go_loopg [11] (n - 0) (fun k jv wr => ∃ j d : Nat, jv = .int .i64 j ∧ j ≤ n ∧ Hid (k = n - j) ∧ Hid (wr = w3.drewN d))
          case atStart => exact ⟨0, 0, rfl, by omega, Lib.hid rfl, Lib.hid rfl⟩
          case round =>
            obtain ⟨j, d, rfl, hj, Hk2, Hw⟩ := hrel
            by_cases hjn : j < n
            · obtain ⟨x, hx⟩ : ∃ x, L2[j]? = some x := ⟨L2[j]'(by rw [Hl2.out]; exact hjn), by rw [List.getElem?_eq_getElem]⟩
              obtain ⟨y, hy⟩ : ∃ y, L[j]? = some y := ⟨L[j]'(by rw [← Hn.out]; exact hjn), by rw [List.getElem?_eq_getElem]⟩
              obtain ⟨a0, a1, -⟩ := Hc'.out j x hx
              obtain ⟨b0, b1, -⟩ := (Hc.out j y hy).below hC3
              obtain ⟨e1, e2⟩ := Hpt.out j x y hx hy
              rw [e1] at a0
              rw [e2] at a1
              have a0n : ∀ n, (wr.drewN n).cell? ⟨g', j * 3, none⟩ = some (.int .i64 y.k) := by intro n; rw [Hw.out]; exact a0
              have a1n : ∀ n, (wr.drewN n).cell? ⟨g', j * 3 + 1, none⟩ = some (.string y.t) := by intro n; rw [Hw.out]; exact a1
              have b0n : ∀ n, (wr.drewN n).cell? ⟨g, j * 3, none⟩ = some (.int .i64 y.k) := by intro n; rw [Hw.out]; exact b0
              have b1n : ∀ n, (wr.drewN n).cell? ⟨g, j * 3 + 1, none⟩ = some (.string y.t) := by intro n; rw [Hw.out]; exact b1
              have a0 : wr.cell? ⟨g', j * 3, none⟩ = some (.int .i64 y.k) := a0n 0
              have a1 : wr.cell? ⟨g', j * 3 + 1, none⟩ = some (.string y.t) := a1n 0
              have b0 : wr.cell? ⟨g, j * 3, none⟩ = some (.int .i64 y.k) := b0n 0
              have b1 : wr.cell? ⟨g, j * 3 + 1, none⟩ = some (.string y.t) := b1n 0
              clear hx hy e1 e2
              go_wp2_with fail
              go_big_quiet (fail)
              go_wp2_with fail
              go_roundg (n - (j + 1))
              case measure => rw [Hk2.out]; omega
              case rel => exact ⟨j + 1, _, by go_num, by omega, Lib.hid rfl, Lib.hid (by rw [Hw.out]; exact drewN_drewN _ _ _)⟩
            · obtain rfl : j = n := by omega
              have hC4 : Below w.heap.size w wr := by rw [Hw.out]; exact below_dn (hB1.trans (hC3.mono hB1.size))
              go_wp2_with fail
              refine (wakes_T _ (hE.below hC4)).mono ?_
              rintro e w5 ⟨rfl, hB5⟩
              go_wp2_with fail
              go_ret
              exact ⟨rfl, hC4.trans (hB5.mono hC4.size)⟩
    · have b5 : (z.k != 5) = true := by simp [h5]
      clear h5
      go_wp2_with fail
      refine (wakes_T _ hE1).mono ?_
      rintro e w2 ⟨rfl, hB2⟩
      go_wp2_with fail
      go_ret
      exact ⟨rfl, hB1.trans (hB2.mono hB1.size)⟩
  · have f1 : ((1000 : Int) < (s.size : Int)) = True := eq_true (by omega)
    clear hs hz0 hzs
    go_enter Tryd.func5, Tryd.ntmps5
    go_wp2_with fail
    refine (wakes_T _ hE).mono ?_
    rintro e w1 ⟨rfl, hB1⟩
    go_wp2_with fail
    go_ret
    exact ⟨rfl, hB1⟩

end Go.Proofs.YtlnnblfkigcipaaDoor
