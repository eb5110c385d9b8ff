/- BookSequences returns true, whatever it is given. Conditions: none but that the list lies in memory. -/
import Derived.Test.YtbpibbcehfkeeaaSeqsKit
import Derived.Test.YtbpibbcehfkeeaaPairsLaw2
import Derived.Test.YtbpibbcehfkeeaaListWS
namespace Go.Proofs.Ytbpibbcehfkeeaa
open Go Go.RowKit Go.Shelf Go.Lib

attribute [local go_sem] Oper.semAt_some
attribute [local go_sem ↓] S.slice_fold

set_option pp.deepTerms true
set_option pp.maxSteps 1000000
set_option maxRecDepth 100000 in
set_option maxHeartbeats 3200000 in
theorem bseqs_walk (w : World) (v : Value) (xs : List SymV) (at' : SymV) (n : Int) (hv : S.SliceOf w v xs) (hx : xs.length ≤ 60) :
    Calls Try.prog 4 #[v, .agg #[.int .i64 at'.k, .string at'.t, .int .i64 at'.n], .int .i64 n] w fun e w' => e = .returned (.bool true) ∧ Below w.heap.size w w' := by
  have hw1 : ∀ W, Below w.heap.size w W → S.SliceOf W v xs := fun W h => hv.below h
  obtain ⟨a, cap, rfl, hc⟩ := hv
  have f1 : ((60 : Int) < (xs.length : Int)) = False := eq_false (by omega)
  have hB0 : Below w.heap.size w (w.alloc (.cells #[.int .i64 at'.k, .string at'.t, .int .i64 at'.n] 26)) := (Below.refl _ w).alloc (Nat.le_refl _) _
  have hx0 := heap_alloc_new w (.cells #[.int .i64 at'.k, .string at'.t, .int .i64 at'.n] 26)
  go_enter Try.func4, Try.ntmps4
  go_wp2_with fail
  generalize (w.alloc (.cells #[.int .i64 at'.k, .string at'.t, .int .i64 at'.n] 26)) = W0 at hB0 hx0 ⊢
  refine (S.filled_T W0 _ xs (hw1 W0 hB0) hx).mono ?_
  rintro e w1 ⟨m, s, p, rfl, hm, hs, hmp, hsp, hM, hP, hB1⟩
  obtain ⟨hso, hll⟩ := S.fillE_ok xs
  generalize S.fillE xs = L at hM hP hso hll
  have hC1 := hB0.trans (hB1.mono hB0.size)
  have hat1 := (hB1.block _ (lt_of_block hx0)).trans hx0
  obtain ⟨vk, vv, K, hpK, hKw, hpl, hk, hf, hv⟩ := hP
  obtain ⟨ak, ck, rfl, hkc⟩ := hk.slice
  have hva := rw_ints hv
  obtain ⟨av, cv, rfl, -, -, hvc⟩ := hv.src
  have hkf := (hf _ _ _ rfl).1
  have hks := hk.slice
  simp only [List.length_map] at hkf hvc hpl hks hva
  have hfin : ∀ W, Below w1.heap.size w1 W → (W.cell? ⟨p, 0, none⟩ = some (.slice ak L.length ck) ∧ W.cell? ⟨p, 1, none⟩ = some (.slice av L.length cv)) ∧ (W.cell? ⟨w.heap.size, 0, none⟩ = some (.int .i64 at'.k) ∧ W.cell? ⟨w.heap.size, 1, none⟩ = some (.string at'.t) ∧ W.cell? ⟨w.heap.size, 2, none⟩ = some (.int .i64 at'.n)) ∧
      S.SliceOf W (.slice ak L.length ck) (S.keysL L) ∧ IntsAt W (.slice av L.length cv) (S.valsL L) ∧ E.MapAt W m s L ∧ Below w.heap.size w W := by
    intro W h
    have hplW : S.PlainAt W p _ _ := (h.block _ (lt_of_block hpl)).trans hpl
    obtain ⟨d0, d1, -, -⟩ := S.plain_cells hplW
    have e1 := (h.block _ (lt_of_block hat1)).trans hat1
    exact ⟨⟨d0, d1⟩, by simp [World.cell?, e1], hks.below h, hva.below h, hM.below h, hC1.trans (h.mono hC1.size)⟩
  have Hso := Lib.hid hso
  have Hkc := Lib.hid hkc
  clear hso hkc hk hv hks hva hpl hM hf hat1 hx0
  obtain ⟨⟨p0, p1⟩, hat, -⟩ := hfin w1 (Below.refl _ _)
  go_wp2_with fail
  clear p0 p1 hat
  go_loopg [9] (L.length - 0) (fun k i wr => ∃ j : Nat, i = .int .i64 j ∧ j ≤ L.length ∧ Hid (k = L.length - j ∧ ∀ y ∈ (S.keysL L).take j, 0 < symCmp at' y) ∧ Below w1.heap.size w1 wr)
  case atStart => exact ⟨0, rfl, by omega, Lib.hid ⟨rfl, by simp⟩, Below.refl _ _⟩
  case round =>
    obtain ⟨j, rfl, hj, Hm, hB⟩ := hrel
    by_cases hlt : j < L.length
    · obtain ⟨b, off, rfl, hel⟩ : ∃ b off, ak = some ⟨b, off, none⟩ ∧ S.Elems w1 b off (S.keysL L) := by
        rcases Hkc.out with h | h
        · simp at h; rw [h] at hlt; simp at hlt
        · exact h
      obtain ⟨y, hy⟩ : ∃ y, (S.keysL L)[j]? = some y := ⟨(S.keysL L)[j]'(by simp; exact hlt), by simp [hlt]⟩
      have hbl := World.block_lt_of_cell? w1 _ (hel j y hy).1
      have hyc := (hel.below hB hbl) j y hy
      obtain ⟨⟨p0, p1⟩, hxc, -⟩ := hfin wr hB
      have hbe := S.before_T wr.drew y at'
      have hhh : ∀ W, Below w1.heap.size w1 W → ((W.cell? ⟨b, off + j * 3, none⟩ = some (.int .i64 y.k) ∧ W.cell? ⟨b, off + j * 3 + 1, none⟩ = some (.string y.t) ∧ W.cell? ⟨b, off + j * 3 + 2, none⟩ = some (.int .i64 y.n)) ∧ (W.cell? ⟨w.heap.size, 0, none⟩ = some (.int .i64 at'.k) ∧ W.cell? ⟨w.heap.size, 1, none⟩ = some (.string at'.t) ∧ W.cell? ⟨w.heap.size, 2, none⟩ = some (.int .i64 at'.n)) ∧ W.cell? ⟨p, 0, none⟩ = some (.slice (some ⟨b, off, none⟩) L.length ck)) := by
        intro W h
        obtain ⟨⟨q0, -⟩, q1, -⟩ := hfin W h
        exact ⟨(hel.below h hbl) j y hy, q1, q0⟩
      have Hy := Lib.hid hy
      have hbd : Below w1.heap.size w1 wr.drew := hB.drew
      clear hy hel
      go_wp2_with fail
      go_region_held3 (fun W => (W.cell? ⟨b, off + j * 3, none⟩ = some (.int .i64 y.k) ∧ W.cell? ⟨b, off + j * 3 + 1, none⟩ = some (.string y.t) ∧ W.cell? ⟨b, off + j * 3 + 2, none⟩ = some (.int .i64 y.n)) ∧ (W.cell? ⟨w.heap.size, 0, none⟩ = some (.int .i64 at'.k) ∧ W.cell? ⟨w.heap.size, 1, none⟩ = some (.string at'.t) ∧ W.cell? ⟨w.heap.size, 2, none⟩ = some (.int .i64 at'.n)) ∧ W.cell? ⟨p, 0, none⟩ = some (.slice (some ⟨b, off, none⟩) L.length ck))
        (first | go_keep | assumption)
        (first
          | ((with_reducible refine hbe.mono ?_); rintro e w3 ⟨rfl, hB3'⟩; have hB3 := hbd.trans (hB3'.mono hbd.size); have hh := hhh _ hB3)
          | fail "no arm")
      by_cases hlt2 : symCmp y at' < 0
      · have Hlt := Lib.hid hlt2
        go_wp2_with fail
        go_roundg (L.length - (j + 1))
        case measure => rw [Hm.out.1]; omega
        case rel =>
          refine ⟨j + 1, by go_num, by omega, Lib.hid ⟨rfl, fun z hz => ?_⟩, hB3⟩
          rw [List.take_add_one, Hy.out] at hz
          rcases List.mem_append.1 hz with hz | hz
          · exact Hm.out.2 z hz
          · obtain rfl : z = y := by simpa using hz
            exact (symCmp_lin.swap z at').1 Hlt.out
      · have Hlt : Hid (¬ symCmp y at' < 0) := Lib.hid hlt2
        have hpos : pos symCmp (S.keysL L) at' = j := S.pos_of_split symCmp_lin (S.sorted_keys Hso.out) Hm.out.2 (by simp; omega) (fun z hz => by
          rw [Hy.out] at hz; cases hz
          have := symCmp_lin.swap y at'
          exact Int.not_lt.1 fun h => Hlt.out (this.2 h))
        have Hpos := Lib.hid hpos
        clear hpos
        · clear p0 p1 hxc hyc hbe hhh hbd hh
          obtain ⟨ak, hak⟩ : ∃ x, x = some (⟨b, off, none⟩ : Addr) := ⟨_, rfl⟩
          rw [← hak] at hfin ⊢
          have Hak := Lib.hid hak
          clear hak
          have hposE : pos entCmp L ⟨at', 0⟩ = j := (S.pos_keys L ⟨at', 0⟩).symm.trans Hpos.out
          have hN1 : (1 : Int) ≤ (L.length : Int) + 1 := by omega
          have hfx := hfin _ hB3
          obtain ⟨⟨p0, p1⟩, -, -, -, hMx, -⟩ := hfx
          have hpf := E.lawpairs_from w3 m s L at' 1000 hMx (by omega) (by omega)
          rw [hposE, List.take_of_length_le (by simp; omega)] at hpf
          have HposE := Lib.hid hposE
          clear hposE hMx
          go_wp2_with fail
          refine (within_any w3 _ _ (by omega) (by omega)).mono ?_
          rintro e w4 ⟨⟨N, rfl, hN⟩, rfl⟩
          have hNL : N ≤ L.length := by omega
          clear hN
          have hat4 := (hfin _ hB3).2.1
          go_wp2_with fail
          refine hpf.mono ?_
          clear hpf
          rintro e w5 ⟨va, vb, rfl, hra, hrb, hB5⟩
          have hC5 := Below.trans hB3 (hB5.mono (Below.size hB3))
          have ha5 := Lib.hid (row_keys hra)
          have hb5 := Lib.hid (row_vals hrb)
          have hat5 := (hfin _ hC5).2.1
          have hM5 := (hfin _ hC5).2.2.2.2.1
          have hpg := E.lawpairs_all w5 m s L at' N hM5 (by omega) (by omega)
          clear hra hrb hat4 hM5 p0 p1
          go_wp2_with fail
          refine hpg.mono ?_
          clear hpg
          rintro e w6 ⟨vc, vd, rfl, hrc, hrd, hB6⟩
          have hC6 := hC5.trans (hB6.mono hC5.size)
          have hc6 := row_keys hrc
          have hd6 := row_vals hrd
          clear hat5 hrc hrd
          have s1 := S.run_takeS ak L.length ck N (by omega) hkf (by omega)
          have s2 := S.run_fromS ak L.length ck j (by omega) hkf (by omega)
          have s3 := S.run_takeI av L.length cv N (by omega) hvc (by omega)
          have s4 := S.run_fromI av L.length cv j (by omega) hvc (by omega)
          obtain ⟨kd, hkd⟩ : ∃ x, x = (if ck = j then ak else ak.map (·.add (j * 3))) := ⟨_, rfl⟩
          obtain ⟨vdr, hvd⟩ : ∃ x, x = (if cv = j then av else av.map (·.add j)) := ⟨_, rfl⟩
          rw [← hkd] at s2
          rw [← hvd] at s4
          have hD : Below w6.heap.size w6 w6.drew := (Below.refl _ w6).drew
          have hS : ∀ W, Below w6.heap.size w6 W → (W.cell? ⟨p, 0, none⟩ = some (.slice ak L.length ck) ∧ W.cell? ⟨p, 1, none⟩ = some (.slice av L.length cv)) := fun W h => (hfin W (hC6.trans (h.mono hC6.size))).1
          have hend : ∀ W, Below w6.heap.size w6 W → Below w.heap.size w W := fun W h => (hfin W (hC6.trans (h.mono hC6.size))).2.2.2.2.2
          have a1 : ∀ W, Below w6.heap.size w6 W → Calls Try.prog 22 #[va, .slice kd (L.length - j) (ck - j)] W fun e w' => e = .returned (.bool true) ∧ Below W.heap.size W w' := by
            intro W h
            refine symsT W va _ (S.keysL (L.drop j)) ((ha5.out.below hB6).below h) ?_ (by simp; omega)
            rw [hkd]
            exact slice_drop (hfin W (hC6.trans (h.mono hC6.size))).2.2.1 hkf
          have a2 : ∀ W, Below w6.heap.size w6 W → Calls Try.prog 23 #[vb, .slice vdr (L.length - j) (cv - j)] W fun e w' => e = .returned (.bool true) ∧ Below W.heap.size W w' := by
            intro W h
            refine ints2_T W vb _ (S.valsL (L.drop j)) ((hb5.out.below hB6).below h) ?_ (by simp; omega)
            rw [hvd]
            exact ints_drop (hfin W (hC6.trans (h.mono hC6.size))).2.2.2.1 hvc
          have a3 : ∀ W, Below w6.heap.size w6 W → Calls Try.prog 22 #[vc, .slice ak N ck] W fun e w' => e = .returned (.bool true) ∧ Below W.heap.size W w' := fun W h =>
            symsT W vc _ (S.keysL (L.take N)) (hc6.below h) (slice_take (hfin W (hC6.trans (h.mono hC6.size))).2.2.1 hNL) (by simp; omega)
          have a4 : ∀ W, Below w6.heap.size w6 W → Calls Try.prog 23 #[vd, .slice av N cv] W fun e w' => e = .returned (.bool true) ∧ Below W.heap.size W w' := fun W h =>
            ints2_T W vd _ (S.valsL (L.take N)) (hd6.below h) (ints_take (hfin W (hC6.trans (h.mono hC6.size))).2.2.2.1 hNL) (by simp; omega)
          have a5 : ∀ W v', Below w6.heap.size w6 W → S.SliceOf W v' (S.keysL L) → Calls Try.prog 22 #[v', .slice ak L.length ck] W fun e w' => e = .returned (.bool true) ∧ Below W.heap.size W w' := fun W v' h hv' =>
            symsT W v' _ (S.keysL L) hv' (hfin W (hC6.trans (h.mono hC6.size))).2.2.1 (by simp; omega)
          have a6 : ∀ W v', Below w6.heap.size w6 W → S.SliceOf W v' ((S.keysL L).take N) → Calls Try.prog 22 #[v', .slice ak N ck] W fun e w' => e = .returned (.bool true) ∧ Below W.heap.size W w' := by
            intro W v' h hv'
            refine symsT W v' _ ((S.keysL L).take N) hv' ?_ (by simp; omega)
            have := slice_take (hfin W (hC6.trans (h.mono hC6.size))).2.2.1 hNL
            rwa [S.keysL, List.map_take] at this
          have kl : ∀ W Bm, Below w6.heap.size w6 W → W.heap[Bm]? = some (.cells #[.pointer (some ⟨m, 0, none⟩)] 23 (0, 0)) → Calls Try.prog 26 #[.func (.func 54) #[] #[.pointer (some ⟨Bm, 0, none⟩)]] W fun e w' => ∃ v, e = .returned v ∧ S.SliceOf w' v (S.keysL L) ∧ Below W.heap.size W w' := by
            intro W Bm h hb
            refine (S.list2_T 54 #[.pointer (some ⟨Bm, 0, none⟩)] (S.keysL L) W (enters_of Try.func54 (by kernel_rfl) rfl) (E.keys_stops 2 Bm m s L W hb (hfin W (hC6.trans (h.mono hC6.size))).2.2.2.2.1 (by omega)) (by simp; omega)).mono ?_
            rintro e w' ⟨v, rfl, hm, hB⟩
            exact ⟨v, rfl, (S.Made.ge hm).slice, hB⟩
          have kf : ∀ W Bm, Below w6.heap.size w6 W → W.heap[Bm]? = some (.cells #[.pointer (some ⟨m, 0, none⟩)] 23 (0, 0)) → Calls Try.prog 28 #[.func (.func 54) #[] #[.pointer (some ⟨Bm, 0, none⟩)], .int .i64 (N : Int)] W fun e w' => ∃ v, e = .returned v ∧ S.SliceOf w' v ((S.keysL L).take N) ∧ Below W.heap.size W w' := by
            intro W Bm h hb
            refine (S.first2_T 54 #[.pointer (some ⟨Bm, 0, none⟩)] (S.keysL L) W N (enters_of Try.func54 (by kernel_rfl) rfl) (E.keys_stops 2 Bm m s L W hb (hfin W (hC6.trans (h.mono hC6.size))).2.2.2.2.1 (by omega)) (by simp; omega) (by omega)).mono ?_
            rintro e w' ⟨v, rfl, hm, hB⟩
            exact ⟨v, rfl, (S.Made.ge hm).slice, hB⟩
          have hkw : ∀ W W' : World, W' = W.alloc (.cells #[.pointer (some ⟨m, 0, none⟩)] 23) → Below W.heap.size W W' ∧ W'.heap[W.heap.size]? = some (.cells #[.pointer (some ⟨m, 0, none⟩)] 23 (0, 0)) := by
            rintro W W' rfl
            exact ⟨(Below.refl _ W).alloc (Nat.le_refl _) _, heap_alloc_new W _⟩
          obtain ⟨p0, p1⟩ := hS _ (Below.refl _ w6)
          clear hkd hvd hc6 hd6 hc
          go_wp2_with fail
          simp only [List.append_eq, List.cons_append, List.nil_append]
          go_region_held3 (fun W => W.cell? ⟨p, 0, none⟩ = some (.slice ak L.length ck) ∧ W.cell? ⟨p, 1, none⟩ = some (.slice av L.length cv))
            (first | go_keep | assumption)
            (first
              | ((with_reducible refine (a1 _ hD).mono ?_); rintro e w7 ⟨rfl, hB7⟩; have hE7 := hD.trans (hB7.mono hD.size); have hh7 := hS _ hE7)
              | ((with_reducible refine (a2 _ hE7).mono ?_); rintro e w8 ⟨rfl, hB8⟩; have hE8 := hE7.trans (hB8.mono hE7.size); have hh8 := hS _ hE8)
              | ((with_reducible refine (a3 _ hE8).mono ?_); rintro e w9 ⟨rfl, hB9⟩; have hE9 := hE8.trans (hB9.mono hE8.size); have hh9 := hS _ hE9)
              | ((with_reducible refine (a4 _ hE9).mono ?_); rintro e w10 ⟨rfl, hB10⟩; have hE10 := hE9.trans (hB10.mono hE9.size); have hh10 := hS _ hE10)
              | ((with_reducible refine (E.keys_T w10 m).mono ?_); rintro e w11 ⟨rfl, hw11⟩; have hk11 := hkw _ _ hw11; clear hw11; have hE11 := hE10.trans (hk11.1.mono hE10.size); have Hk11 := Lib.hid hk11.2; clear hk11; have hh11 := hS _ hE11)
              | ((with_reducible refine (kl w11 _ hE11 Hk11.out).mono ?_); rintro e w12 ⟨v12, rfl, hs12, hB12⟩; have Hs12 := Lib.hid hs12; clear hs12; have hE12 := hE11.trans (hB12.mono hE11.size); have hh12 := hS _ hE12)
              | ((with_reducible refine (a5 w12 v12 hE12 Hs12.out).mono ?_); rintro e w13 ⟨rfl, hB13⟩; have hE13 := hE12.trans (hB13.mono hE12.size); have hh13 := hS _ hE13)
              | ((with_reducible refine (E.keys_T w13 m).mono ?_); rintro e w14 ⟨rfl, hw14⟩; have hk14 := hkw _ _ hw14; clear hw14; have hE14 := hE13.trans (hk14.1.mono hE13.size); have Hk14 := Lib.hid hk14.2; clear hk14; have hh14 := hS _ hE14)
              | ((with_reducible refine (kf w14 _ hE14 Hk14.out).mono ?_); rintro e w15 ⟨v15, rfl, hs15, hB15⟩; have Hs15 := Lib.hid hs15; clear hs15; have hE15 := hE14.trans (hB15.mono hE14.size); have hh15 := hS _ hE15)
              | ((with_reducible refine (a6 w15 v15 hE15 Hs15.out).mono ?_); rintro e w16 ⟨rfl, hB16⟩; have hE16 := hE15.trans (hB16.mono hE15.size); have hh16 := hS _ hE16)
              | ((with_reducible refine (wakes_T w16).mono ?_); rintro e w17 ⟨rfl, hB17⟩; have hE17 := hE16.trans (hB17.mono hE16.size); have hh17 := hS _ hE17)
              | fail "no arm")
          go_wp2_with fail
          go_ret
          exact ⟨rfl, hend _ hE17⟩
    · have hpos : pos symCmp (S.keysL L) at' = j := S.pos_of_split symCmp_lin (S.sorted_keys Hso.out) Hm.out.2 (by simp; omega) (fun z hz => by
        have := (List.getElem?_eq_some_iff.1 hz).1
        simp at this
        exact absurd this hlt)
      have Hpos := Lib.hid hpos
      have f2 : ((j : Int) < (L.length : Int)) = False := eq_false (by omega)
      obtain ⟨⟨p0, p1⟩, hxc, -⟩ := hfin wr hB
      clear hpos hlt
      go_wp2_with fail
      go_quiet (fail)
      have hB3 : Below w1.heap.size w1 (wr.drewN nq) := hB.trans (below_drewN _ _ _)
      clear p0 p1 hxc f2
      have hposE : pos entCmp L ⟨at', 0⟩ = j := (S.pos_keys L ⟨at', 0⟩).symm.trans Hpos.out
      have hN1 : (1 : Int) ≤ (L.length : Int) + 1 := by omega
      have hfx := hfin _ hB3
      obtain ⟨⟨p0, p1⟩, -, -, -, hMx, -⟩ := hfx
      have hpf := E.lawpairs_from (wr.drewN nq) m s L at' 1000 hMx (by omega) (by omega)
      rw [hposE, List.take_of_length_le (by simp; omega)] at hpf
      have HposE := Lib.hid hposE
      clear hposE hMx
      go_wp2_with fail
      refine (within_any (wr.drewN nq) _ _ (by omega) (by omega)).mono ?_
      rintro e w4 ⟨⟨N, rfl, hN⟩, rfl⟩
      have hNL : N ≤ L.length := by omega
      clear hN
      have hat4 := (hfin _ hB3).2.1
      go_wp2_with fail
      refine hpf.mono ?_
      clear hpf
      rintro e w5 ⟨va, vb, rfl, hra, hrb, hB5⟩
      have hC5 := Below.trans hB3 (hB5.mono (Below.size hB3))
      have ha5 := Lib.hid (row_keys hra)
      have hb5 := Lib.hid (row_vals hrb)
      have hat5 := (hfin _ hC5).2.1
      have hM5 := (hfin _ hC5).2.2.2.2.1
      have hpg := E.lawpairs_all w5 m s L at' N hM5 (by omega) (by omega)
      clear hra hrb hat4 hM5 p0 p1
      go_wp2_with fail
      refine hpg.mono ?_
      clear hpg
      rintro e w6 ⟨vc, vd, rfl, hrc, hrd, hB6⟩
      have hC6 := hC5.trans (hB6.mono hC5.size)
      have hc6 := row_keys hrc
      have hd6 := row_vals hrd
      clear hat5 hrc hrd
      have s1 := S.run_takeS ak L.length ck N (by omega) hkf (by omega)
      have s2 := S.run_fromS ak L.length ck j (by omega) hkf (by omega)
      have s3 := S.run_takeI av L.length cv N (by omega) hvc (by omega)
      have s4 := S.run_fromI av L.length cv j (by omega) hvc (by omega)
      obtain ⟨kd, hkd⟩ : ∃ x, x = (if ck = j then ak else ak.map (·.add (j * 3))) := ⟨_, rfl⟩
      obtain ⟨vdr, hvd⟩ : ∃ x, x = (if cv = j then av else av.map (·.add j)) := ⟨_, rfl⟩
      rw [← hkd] at s2
      rw [← hvd] at s4
      have hD : Below w6.heap.size w6 w6.drew := (Below.refl _ w6).drew
      have hS : ∀ W, Below w6.heap.size w6 W → (W.cell? ⟨p, 0, none⟩ = some (.slice ak L.length ck) ∧ W.cell? ⟨p, 1, none⟩ = some (.slice av L.length cv)) := fun W h => (hfin W (hC6.trans (h.mono hC6.size))).1
      have hend : ∀ W, Below w6.heap.size w6 W → Below w.heap.size w W := fun W h => (hfin W (hC6.trans (h.mono hC6.size))).2.2.2.2.2
      have a1 : ∀ W, Below w6.heap.size w6 W → Calls Try.prog 22 #[va, .slice kd (L.length - j) (ck - j)] W fun e w' => e = .returned (.bool true) ∧ Below W.heap.size W w' := by
        intro W h
        refine symsT W va _ (S.keysL (L.drop j)) ((ha5.out.below hB6).below h) ?_ (by simp; omega)
        rw [hkd]
        exact slice_drop (hfin W (hC6.trans (h.mono hC6.size))).2.2.1 hkf
      have a2 : ∀ W, Below w6.heap.size w6 W → Calls Try.prog 23 #[vb, .slice vdr (L.length - j) (cv - j)] W fun e w' => e = .returned (.bool true) ∧ Below W.heap.size W w' := by
        intro W h
        refine ints2_T W vb _ (S.valsL (L.drop j)) ((hb5.out.below hB6).below h) ?_ (by simp; omega)
        rw [hvd]
        exact ints_drop (hfin W (hC6.trans (h.mono hC6.size))).2.2.2.1 hvc
      have a3 : ∀ W, Below w6.heap.size w6 W → Calls Try.prog 22 #[vc, .slice ak N ck] W fun e w' => e = .returned (.bool true) ∧ Below W.heap.size W w' := fun W h =>
        symsT W vc _ (S.keysL (L.take N)) (hc6.below h) (slice_take (hfin W (hC6.trans (h.mono hC6.size))).2.2.1 hNL) (by simp; omega)
      have a4 : ∀ W, Below w6.heap.size w6 W → Calls Try.prog 23 #[vd, .slice av N cv] W fun e w' => e = .returned (.bool true) ∧ Below W.heap.size W w' := fun W h =>
        ints2_T W vd _ (S.valsL (L.take N)) (hd6.below h) (ints_take (hfin W (hC6.trans (h.mono hC6.size))).2.2.2.1 hNL) (by simp; omega)
      have a5 : ∀ W v', Below w6.heap.size w6 W → S.SliceOf W v' (S.keysL L) → Calls Try.prog 22 #[v', .slice ak L.length ck] W fun e w' => e = .returned (.bool true) ∧ Below W.heap.size W w' := fun W v' h hv' =>
        symsT W v' _ (S.keysL L) hv' (hfin W (hC6.trans (h.mono hC6.size))).2.2.1 (by simp; omega)
      have a6 : ∀ W v', Below w6.heap.size w6 W → S.SliceOf W v' ((S.keysL L).take N) → Calls Try.prog 22 #[v', .slice ak N ck] W fun e w' => e = .returned (.bool true) ∧ Below W.heap.size W w' := by
        intro W v' h hv'
        refine symsT W v' _ ((S.keysL L).take N) hv' ?_ (by simp; omega)
        have := slice_take (hfin W (hC6.trans (h.mono hC6.size))).2.2.1 hNL
        rwa [S.keysL, List.map_take] at this
      have kl : ∀ W Bm, Below w6.heap.size w6 W → W.heap[Bm]? = some (.cells #[.pointer (some ⟨m, 0, none⟩)] 23 (0, 0)) → Calls Try.prog 26 #[.func (.func 54) #[] #[.pointer (some ⟨Bm, 0, none⟩)]] W fun e w' => ∃ v, e = .returned v ∧ S.SliceOf w' v (S.keysL L) ∧ Below W.heap.size W w' := by
        intro W Bm h hb
        refine (S.list2_T 54 #[.pointer (some ⟨Bm, 0, none⟩)] (S.keysL L) W (enters_of Try.func54 (by kernel_rfl) rfl) (E.keys_stops 2 Bm m s L W hb (hfin W (hC6.trans (h.mono hC6.size))).2.2.2.2.1 (by omega)) (by simp; omega)).mono ?_
        rintro e w' ⟨v, rfl, hm, hB⟩
        exact ⟨v, rfl, (S.Made.ge hm).slice, hB⟩
      have kf : ∀ W Bm, Below w6.heap.size w6 W → W.heap[Bm]? = some (.cells #[.pointer (some ⟨m, 0, none⟩)] 23 (0, 0)) → Calls Try.prog 28 #[.func (.func 54) #[] #[.pointer (some ⟨Bm, 0, none⟩)], .int .i64 (N : Int)] W fun e w' => ∃ v, e = .returned v ∧ S.SliceOf w' v ((S.keysL L).take N) ∧ Below W.heap.size W w' := by
        intro W Bm h hb
        refine (S.first2_T 54 #[.pointer (some ⟨Bm, 0, none⟩)] (S.keysL L) W N (enters_of Try.func54 (by kernel_rfl) rfl) (E.keys_stops 2 Bm m s L W hb (hfin W (hC6.trans (h.mono hC6.size))).2.2.2.2.1 (by omega)) (by simp; omega) (by omega)).mono ?_
        rintro e w' ⟨v, rfl, hm, hB⟩
        exact ⟨v, rfl, (S.Made.ge hm).slice, hB⟩
      have hkw : ∀ W W' : World, W' = W.alloc (.cells #[.pointer (some ⟨m, 0, none⟩)] 23) → Below W.heap.size W W' ∧ W'.heap[W.heap.size]? = some (.cells #[.pointer (some ⟨m, 0, none⟩)] 23 (0, 0)) := by
        rintro W W' rfl
        exact ⟨(Below.refl _ W).alloc (Nat.le_refl _) _, heap_alloc_new W _⟩
      obtain ⟨p0, p1⟩ := hS _ (Below.refl _ w6)
      clear hkd hvd hc6 hd6 hc
      go_wp2_with fail
      simp only [List.append_eq, List.cons_append, List.nil_append]
      go_region_held3 (fun W => W.cell? ⟨p, 0, none⟩ = some (.slice ak L.length ck) ∧ W.cell? ⟨p, 1, none⟩ = some (.slice av L.length cv))
        (first | go_keep | assumption)
        (first
          | ((with_reducible refine (a1 _ hD).mono ?_); rintro e w7 ⟨rfl, hB7⟩; have hE7 := hD.trans (hB7.mono hD.size); have hh7 := hS _ hE7)
          | ((with_reducible refine (a2 _ hE7).mono ?_); rintro e w8 ⟨rfl, hB8⟩; have hE8 := hE7.trans (hB8.mono hE7.size); have hh8 := hS _ hE8)
          | ((with_reducible refine (a3 _ hE8).mono ?_); rintro e w9 ⟨rfl, hB9⟩; have hE9 := hE8.trans (hB9.mono hE8.size); have hh9 := hS _ hE9)
          | ((with_reducible refine (a4 _ hE9).mono ?_); rintro e w10 ⟨rfl, hB10⟩; have hE10 := hE9.trans (hB10.mono hE9.size); have hh10 := hS _ hE10)
          | ((with_reducible refine (E.keys_T w10 m).mono ?_); rintro e w11 ⟨rfl, hw11⟩; have hk11 := hkw _ _ hw11; clear hw11; have hE11 := hE10.trans (hk11.1.mono hE10.size); have Hk11 := Lib.hid hk11.2; clear hk11; have hh11 := hS _ hE11)
          | ((with_reducible refine (kl w11 _ hE11 Hk11.out).mono ?_); rintro e w12 ⟨v12, rfl, hs12, hB12⟩; have Hs12 := Lib.hid hs12; clear hs12; have hE12 := hE11.trans (hB12.mono hE11.size); have hh12 := hS _ hE12)
          | ((with_reducible refine (a5 w12 v12 hE12 Hs12.out).mono ?_); rintro e w13 ⟨rfl, hB13⟩; have hE13 := hE12.trans (hB13.mono hE12.size); have hh13 := hS _ hE13)
          | ((with_reducible refine (E.keys_T w13 m).mono ?_); rintro e w14 ⟨rfl, hw14⟩; have hk14 := hkw _ _ hw14; clear hw14; have hE14 := hE13.trans (hk14.1.mono hE13.size); have Hk14 := Lib.hid hk14.2; clear hk14; have hh14 := hS _ hE14)
          | ((with_reducible refine (kf w14 _ hE14 Hk14.out).mono ?_); rintro e w15 ⟨v15, rfl, hs15, hB15⟩; have Hs15 := Lib.hid hs15; clear hs15; have hE15 := hE14.trans (hB15.mono hE14.size); have hh15 := hS _ hE15)
          | ((with_reducible refine (a6 w15 v15 hE15 Hs15.out).mono ?_); rintro e w16 ⟨rfl, hB16⟩; have hE16 := hE15.trans (hB16.mono hE15.size); have hh16 := hS _ hE16)
          | ((with_reducible refine (wakes_T w16).mono ?_); rintro e w17 ⟨rfl, hB17⟩; have hE17 := hE16.trans (hB17.mono hE16.size); have hh17 := hS _ hE17)
          | fail "no arm")
      go_wp2_with fail
      go_ret
      exact ⟨rfl, hend _ hE17⟩

theorem bseqs_big (w : World) (v : Value) (xs : List SymV) (at' : SymV) (n : Int) (hv : S.SliceOf w v xs) (hx : 60 < xs.length) :
    Calls Try.prog 4 #[v, .agg #[.int .i64 at'.k, .string at'.t, .int .i64 at'.n], .int .i64 n] w fun e w' => e = .returned (.bool true) ∧ Below w.heap.size w w' := by
  obtain ⟨a, cap, rfl, hc⟩ := hv
  have f1 : ((60 : Int) < (xs.length : Int)) = True := eq_true (by omega)
  have hB0 : Below w.heap.size w (w.alloc (.cells #[.int .i64 at'.k, .string at'.t, .int .i64 at'.n] 26)) := (Below.refl _ w).alloc (Nat.le_refl _) _
  go_enter Try.func4, Try.ntmps4
  go_wp2_with fail
  refine (wakes_T _).mono ?_
  rintro e w1 ⟨rfl, hb⟩
  go_wp2_with fail
  go_ret
  exact ⟨rfl, hB0.trans (hb.mono hB0.size)⟩

theorem bseqs_any (w : World) (v : Value) (xs : List SymV) (hv : S.SliceOf w v xs) (at' : SymV) (n : Int) :
    Calls Try.prog 4 #[v, .agg #[.int .i64 at'.k, .string at'.t, .int .i64 at'.n], .int .i64 n] w fun e w' => e = .returned (.bool true) ∧ Below w.heap.size w w' := by
  by_cases h : xs.length ≤ 60
  · exact bseqs_walk w v xs at' n hv h
  · exact bseqs_big w v xs at' n hv (by omega)

end Go.Proofs.Ytbpibbcehfkeeaa
