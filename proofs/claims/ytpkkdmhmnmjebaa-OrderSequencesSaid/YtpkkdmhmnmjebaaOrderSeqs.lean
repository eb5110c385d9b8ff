/- OrderSequences returns true, whatever it is given. Conditions: none but that the list lies in memory. -/
import Derived.Test.YtpkkdmhmnmjebaaJoinsKS
import Derived.Test.YtpkkdmhmnmjebaaFallSS
import Derived.Test.YtpkkdmhmnmjebaaFirstSS
import Derived.Test.YtpkkdmhmnmjebaaWithinAny
import Derived.Test.YtpkkdmhmnmjebaaWakes
import Derived.Deep.LoopGhost
namespace Go.Proofs.Ytpkkdmhmnmjebaa
open Go Go.RowKit Go.Shelf

theorem from_world {w w' : World} {p : Option Addr} {x : SymV} (h : w' = (w.alloc (.cells #[.pointer p] 23)).alloc (.cells #[.int .i64 x.k, .string x.t, .int .i64 x.n] 26)) :
    Below w.heap.size w w' ∧ w'.heap[w.heap.size]? = some (.cells #[.pointer p] 23 (0, 0)) ∧ w'.heap[w.heap.size + 1]? = some (.cells #[.int .i64 x.k, .string x.t, .int .i64 x.n] 26 (0, 0)) := by
  subst h
  refine ⟨((Below.refl _ w).alloc (Nat.le_refl _) _).alloc (by simp) _, (Below.heap_alloc _ _ _ (by simp)).trans (heap_alloc_new w _), ?_⟩
  have := heap_alloc_new (w.alloc (.cells #[.pointer p] 23)) (.cells #[.int .i64 x.k, .string x.t, .int .i64 x.n] 26)
  simp only [World.size_alloc] at this
  exact this

theorem seq_len {F : Fence} {n : Nat} {P : Program} {gf : Nat} {lb : Array Value} {α : Type} {encs : α → Array Value} {Kp : World → World → Prop} {S Sp : List α → Prop} {N M : Nat} {w : World} (h : N = M) (hq : SeqStopsK F n P gf lb encs Kp S Sp N w) : SeqStopsK F n P gf lb encs Kp S Sp M w := h ▸ hq

theorem own_take {w : World} {a : Option Addr} {cap : Nat} {xs : List SymV} (h : S.Own w (.slice a xs.length cap) xs) (m : Nat) (hm : m ≤ xs.length) : S.SliceOf w (.slice a m cap) (xs.take m) := by
  obtain ⟨⟨a', cap', e, hc⟩, -⟩ := h
  cases e
  refine ⟨_, _, by rw [List.length_take, Nat.min_eq_left hm], ?_⟩
  rcases hc with rfl | ⟨b, off, rfl, hel⟩
  · exact .inl (by simp)
  · exact .inr ⟨b, off, rfl, hel.take m⟩

theorem own_drop {w : World} {b off : Nat} {cap cap' : Nat} {xs : List SymV} (h : S.Own w (.slice (some ⟨b, off, none⟩) xs.length cap) xs) (k : Nat) : S.SliceOf w (.slice (some ⟨b, off + k * 3, none⟩) (xs.length - k) cap') (xs.drop k) := by
  obtain ⟨⟨a', cap', e, hc⟩, -⟩ := h
  cases e
  refine ⟨_, _, by rw [List.length_drop], ?_⟩
  rcases hc with rfl | ⟨b, off, e, hel⟩
  · exact .inl (by simp)
  · cases e; exact .inr ⟨b, _, rfl, hel.drop k⟩

theorem own_addr {w : World} {a : Option Addr} {cap : Nat} {xs : List SymV} (h : S.Own w (.slice a xs.length cap) xs) (hx : 0 < xs.length) : ∃ b off, a = some ⟨b, off, none⟩ := by
  obtain ⟨⟨a', cap', e, hc⟩, -⟩ := h
  cases e
  rcases hc with rfl | ⟨b, off, rfl, hel⟩
  · simp at hx
  · exact ⟨b, off, rfl⟩

set_option maxRecDepth 100000 in
set_option maxHeartbeats 40000000 in
theorem seqs_walk (w : World) (v : Value) (xs : List SymV) (at' : SymV) (n : Int) (hv : S.SliceOf w v xs) (hx : xs.length ≤ 60) :
    Calls Try.prog 5 #[v, .agg #[.int .i64 at'.k, .string at'.t, .int .i64 at'.n], .int .i64 n] w fun e w' => e = .returned (.bool true) ∧ Below w.heap.size w w' := by
  have hw1 : ∀ W, Below w.heap.size w W → S.SliceOf W v xs := fun W h => hv.below h
  obtain ⟨a, cap, rfl, hc⟩ := hv
  have lx := S.putl_length xs []
  simp only [List.length_nil, Nat.zero_add] at lx
  go_enter Try.func5, Try.ntmps5
  go_wp2_with fail
  have hB0 : Below w.heap.size w (w.alloc (.cells #[.int .i64 at'.k, .string at'.t, .int .i64 at'.n] 26)) := (Below.refl _ w).alloc (Nat.le_refl _) _
  have hx0 := S.mem_new w at'
  have hsz : w.heap.size < (w.alloc (.cells #[.int .i64 at'.k, .string at'.t, .int .i64 at'.n] 26)).heap.size := by simp
  generalize (w.alloc (.cells #[.int .i64 at'.k, .string at'.t, .int .i64 at'.n] 26)) = W0 at hB0 hx0 hsz ⊢
  refine (S.new_T W0 _ xs (hw1 W0 hB0) (by omega)).mono ?_
  rintro e w1 ⟨s, rfl, hs, hS, hB1⟩
  have HS1 := Lib.hid hS
  have hx1 := S.mem_below hB1 hsz hx0
  have hC1 := hB0.trans (hB1.mono hB0.size)
  clear hS
  go_wp2_with fail
  go_loopg [8, 9] xs.length (fun k vr i wr => ∃ (j : Nat), i = .int .i64 j ∧ j ≤ xs.length ∧ Hid (k = xs.length - j) ∧ Hid (S.Own wr vr ((xs.take j).foldl (put symCmp) [])) ∧ Below w1.heap.size w1 wr)
  case atStart => exact ⟨0, rfl, by omega, Lib.hid rfl, Lib.hid (by simpa using S.Own.nil w1), Below.refl _ _⟩
  case round =>
    obtain ⟨j, rfl, hj, Hk, HO, hB⟩ := hrel
    obtain ⟨ao, co, rfl⟩ := HO.out.len
    have hlO : ((xs.take j).foldl (put symCmp) []).length ≤ 60 := by have := S.putl_length (xs.take j) []; simp at this; omega
    have hBr := hC1.trans (hB.mono hC1.size)
    by_cases hlt : j < xs.length
    · rcases hc with rfl | ⟨b, off, rfl, hel⟩
      · simp at hlt
      · obtain ⟨z, hz⟩ : ∃ z, xs[j]? = some z := ⟨xs[j], by simp [hlt]⟩
        have hbl := World.block_lt_of_cell? w _ (hel j z hz).1
        have hzc := (hel.below hBr hbl) j z hz
        have hO1 : (xs.take (j + 1)).foldl (put symCmp) [] = put symCmp ((xs.take j).foldl (put symCmp) []) z := by
          rw [List.take_add_one, hz, List.foldl_append]; rfl
        have HO1 := Lib.hid hO1
        have hput := S.ownput_T wr _ _ z HO.out (by omega)
        clear hel hz hO1
        go_wp2_with fail
        refine hput.mono ?_
        clear hput
        rintro e w8 ⟨vo, rfl, hO8, hB8⟩
        have HO8 := Lib.hid hO8
        clear hO8
        go_wp2_with fail
        go_roundg (xs.length - (j + 1))
        case measure => rw [Hk.out]; omega
        case rel => exact ⟨j + 1, by go_num, by omega, Lib.hid rfl, Lib.hid (by rw [HO1.out]; exact HO8.out), hB.trans (hB8.mono hB.size)⟩
    · obtain rfl : j = xs.length := by omega
      rw [List.take_length] at *
      obtain ⟨w2, rfl⟩ : ∃ w', w' = wr := ⟨wr, rfl⟩
      have HS2 := Lib.hid (HS1.out.below hB)
      have hx2 := S.mem_below hB (World.block_lt_of_cell? w1 _ hx1.1) hx1
      have HX2 := Lib.hid hx2
      generalize xs.foldl (put symCmp) [] = X at hlO HO HS2 lx ⊢
      clear HS1
      go_wp2_with fail
      refine (S.below_T w2 _ X at' HO.out.1 (by omega)).mono ?_
      rintro e w3 ⟨rfl, hB3⟩
      have HO3 := Lib.hid (HO.out.below hB3)
      have HS3 := Lib.hid (HS2.out.below hB3)
      have hC3 := hBr.trans (hB3.mono hBr.size)
      go_wp2_with fail
      refine (S.back_T w3 (some ⟨s, 0, none⟩)).mono ?_
      rintro e w4 ⟨rfl, rfl⟩
      have hb4 : Below w3.heap.size w3 (w3.alloc (.cells #[.pointer (some ⟨s, 0, none⟩)] 23)) := (Below.refl _ w3).alloc (Nat.le_refl _) _
      have hbx := heap_alloc_new w3 (.cells #[.pointer (some ⟨s, 0, none⟩)] 23)
      have hli := S.list_T 62 #[.pointer (some ⟨w3.heap.size, 0, none⟩)] _ X.reverse _ (enters_of Try.func62 (by kernel_rfl) rfl)
        (by rw [List.length_reverse]; exact S.back_stops 2 _ w3.heap.size s X _ hbx (HS3.out.below hb4) (Nat.le_refl _)) (by simp; omega) (Nat.le_refl _)
      have HO4 := Lib.hid (HO3.out.below hb4)
      have HS4 := Lib.hid (HS3.out.below hb4)
      have hC4 := hC3.trans (hb4.mono hC3.size)
      clear hbx
      go_wp2_with fail
      refine hli.mono ?_
      clear hli
      rintro e w5 ⟨vb, rfl, hM, hb5⟩
      have hl5 := (S.Made.ge hM).slice
      obtain ⟨ab, cb, rfl, hcb⟩ := hl5
      have HO5 := Lib.hid (HO4.out.below hb5)
      have HS5 := Lib.hid (HS4.out.below hb5)
      have hC5 := hC4.trans (hb5.mono hC4.size)
      clear hM HO HS2 HO3 HS3 HO4 HS4
      simp only [List.length_reverse] at *
      go_wp2_with fail
      obtain ⟨hoS, hoF, hoO⟩ := HO5.out
      obtain ⟨ao', co', e0, hco⟩ := hoS
      cases e0
      have hfit := hoF _ _ _ rfl
      have hse := sym_equal'
      have hsg := sym_guard
      have Hfit := Lib.hid hfit
      clear hoF hoO hfit
      go_loopg [12] X.length (fun k i wr => ∃ (j : Nat), i = .int .i64 j ∧ j ≤ X.length ∧ Hid (k = X.length - j) ∧ Below w5.heap.size w5 wr)
      case atStart => exact ⟨0, rfl, by omega, Lib.hid rfl, Below.refl _ _⟩
      case round =>
        obtain ⟨j, rfl, hj, Hk2, hB6⟩ := hrel
        by_cases hlt : j < X.length
        · rcases hco with rfl | ⟨b, off, rfl, hel⟩
          · simp at hlt
          · rcases hcb with hcb | ⟨b2, off2, rfl, hel2⟩
            · simp at hcb; subst hcb; simp at hlt
            · obtain ⟨q, hq⟩ : ∃ q : Nat, (X.length : Int) - 1 - j = q := ⟨X.length - 1 - j, by omega⟩
              have hqX : q < X.length := by omega
              obtain ⟨z, hz⟩ : ∃ z, X[q]? = some z := ⟨X[q], by simp [hqX]⟩
              have hz2 : X.reverse[j]? = some z := by rw [List.getElem?_reverse hlt, ← hz]; congr 1; omega
              have hzc := (hel.below hB6 (World.block_lt_of_cell? w5 _ (hel q z hz).1)) q z hz
              have hzc2 := (hel2.below hB6 (World.block_lt_of_cell? w5 _ (hel2 j z hz2).1)) j z hz2
              have hs1 : same ⟨z.k, z.t, z.n⟩ ⟨z.k, z.t, z.n⟩ = true := same_iff.2 rfl
              clear hel hel2 hz hz2
              go_wp2_with fail
              go_quiet (fail)
              go_wp2_with fail
              go_roundg (X.length - (j + 1))
              case measure => rw [Hk2.out]; omega
              case rel => exact ⟨j + 1, by go_num, by omega, Lib.hid rfl, hB6.trans (below_drewN _ _ _)⟩
        · obtain rfl : j = X.length := by omega
          obtain ⟨w6, rfl⟩ : ∃ w', w' = wr := ⟨wr, rfl⟩
          have HO6 := Lib.hid (HO5.out.below hB6)
          have HS6 := Lib.hid (HS5.out.below hB6)
          have hC6 := hC5.trans (hB6.mono hC5.size)
          clear HO5 HS5 hco
          go_wp2_with fail
          refine (within_any w6 n _ (by omega) (by omega)).mono ?_
          rintro e w7 ⟨⟨m, rfl, hm⟩, rfl⟩
          have hm' : m ≤ X.length + 1 := by omega
          clear hm
          have hpl := pos_le (cmp := symCmp) X at'
          have HP : Hid (pos symCmp X at' = pos symCmp X at') := Lib.hid rfl
          obtain ⟨P, hP⟩ : ∃ P, pos symCmp X at' = P := ⟨_, rfl⟩
          rw [hP] at hpl
          have HPe := Lib.hid hP
          rw [hP]
          clear hP HP
          have hco := Hfit.out.1
          have hfin : ∀ W, Below w7.heap.size w7 W → S.SetAt W s X ∧ S.Own W (.slice ao X.length co) X ∧ (W.cell? ⟨w.heap.size, 0, none⟩ = some (.int .i64 at'.k) ∧ W.cell? ⟨w.heap.size, 1, none⟩ = some (.string at'.t) ∧ W.cell? ⟨w.heap.size, 2, none⟩ = some (.int .i64 at'.n)) ∧ Below w.heap.size w W := fun W h => ⟨HS6.out.below h, HO6.out.below h, S.mem_below (hB3.trans (hb4.mono hB3.size) |>.trans ((hb5.mono (Nat.le_trans hB3.size hb4.size))) |>.trans (hB6.mono (Nat.le_trans (Nat.le_trans hB3.size hb4.size) hb5.size)) |>.trans (h.mono (Nat.le_trans (Nat.le_trans (Nat.le_trans hB3.size hb4.size) hb5.size) hB6.size))) (World.block_lt_of_cell? w2 _ HX2.out.1) HX2.out, hC6.trans (h.mono hC6.size)⟩
          obtain ⟨M, hM⟩ : ∃ M : Nat, min m X.length = M := ⟨_, rfl⟩
          have hmi : min (m : Int) X.length = M := by omega
          have htm : X.take m = X.take M := by rw [← hM, List.take_eq_take_iff]; omega
          have hmX : M ≤ X.length := by omega
          have hmc : M ≤ co := by omega
          have hPc : P ≤ co := by omega
          have Htm := Lib.hid htm
          clear htm hM
          have hnil : ∀ (W : World) (a : Option Addr) (n c : Nat) (K : List SymV), K.length = n → n = 0 → S.SliceOf W (.slice a n c) K := by rintro W a n c K rfl h; exact ⟨a, c, rfl, .inl (List.length_eq_zero_iff.1 h)⟩
          by_cases hml : m ≤ X.length
          · obtain rfl : M = m := by omega
            clear Htm
            by_cases hX0 : X.length = 0
            · have hP0 : P = 0 := by omega
              rcases ao with _ | ad
              · obtain rfl : co = 0 := Hfit.out.2 rfl
                obtain rfl : M = 0 := by omega
                go_wp2_with fail
                refine (S.all_T w7 (some ⟨s, 0, none⟩)).mono ?_
                rintro e w8 ⟨rfl, rfl⟩
                have hb8 : Below w7.heap.size w7 (w7.alloc (.cells #[.pointer (some ⟨s, 0, none⟩)] 23)) := (Below.refl _ w7).alloc (Nat.le_refl _) _
                have hbx := heap_alloc_new w7 (.cells #[.pointer (some ⟨s, 0, none⟩)] 23)
                generalize (w7.alloc (.cells #[.pointer (some ⟨s, 0, none⟩)] 23)) = w8 at hb8 hbx ⊢
                have hbl := lt_of_block hbx
                have hD8 : Below w7.heap.size w7 w8.drew := hb8.drew
                have hxc := (hfin _ hb8).2.2.1
                have hbd : w8.drew.heap[w7.heap.size]? = some (.cells #[.pointer (some ⟨s, 0, none⟩)] 23 (0, 0)) := hbx
                have hfi := S.first_T 64 #[.pointer (some ⟨w7.heap.size, 0, none⟩)] _ X w8.drew 0 (enters_of Try.func64 (by kernel_rfl) rfl)
                  (S.all_stops 2 _ w7.heap.size s X _ hbd (hfin _ hD8).1 (by omega) (Nat.le_refl _)) (by omega) (by omega) (Nat.le_refl _)
                rw [show ((0 : Nat) : Int) = 0 from rfl] at hfi
                have Hbd := Lib.hid hbd
                clear hbx hbd
                go_wp2_with fail
                go_region_held3 (fun W => W.cell? ⟨w.heap.size, 0, none⟩ = some (.int .i64 at'.k) ∧ W.cell? ⟨w.heap.size, 1, none⟩ = some (.string at'.t) ∧ W.cell? ⟨w.heap.size, 2, none⟩ = some (.int .i64 at'.n))
                  (first | go_keep | assumption)
                  (first
                    | ((with_reducible refine hfi.mono ?_); rintro e w9 ⟨v9, rfl, hM9, hB9⟩; have hE9 := hD8.trans (hB9.mono hD8.size); have hL9 := (S.Made.ge hM9).slice; have hh9 := (hfin _ hE9).2.2.1)
                    | ((with_reducible refine (S.syms_T w9 v9 _ (X.take 0) (X.take 0) hL9 (hnil _ _ _ _ _ (by first | (simp; done) | (rw [List.length_take]; omega)) (by omega)) (by first | omega | (simp; done) | (simp; omega)) (by first | omega | (simp; done) | (simp; omega))).mono ?_); rintro e w10 ⟨⟨q1, rfl, hq1⟩, hB10⟩; (obtain rfl : q1 = true := hq1.2 rfl); have hE10 := hE9.trans (hB10.mono hE9.size); have hh10 := (hfin _ hE10).2.2.1; have Hbx10 := Lib.hid (((hB9.trans (hB10.mono hB9.size)).block _ hbl).trans Hbd.out))
                    | (have hli := S.list_T 64 #[.pointer (some ⟨w7.heap.size, 0, none⟩)] _ X w10 (enters_of Try.func64 (by kernel_rfl) rfl) (S.all_stops 2 _ w7.heap.size s X _ Hbx10.out (hfin _ hE10).1 (by omega) (Nat.le_refl _)) (by omega) (Nat.le_refl _); (with_reducible refine hli.mono ?_); clear hli; rintro e w11 ⟨v11, rfl, hM11, hB11⟩; have hE11 := hE10.trans (hB11.mono hE10.size); have hL11 := (S.Made.ge hM11).slice; have hh11 := (hfin _ hE11).2.2.1)
                    | ((with_reducible refine (S.syms_T w11 v11 _ X X hL11 (hnil _ _ _ _ _ (by omega) (by omega)) (by omega) (by omega)).mono ?_); rintro e w12 ⟨⟨q2, rfl, hq2⟩, hB12⟩; (obtain rfl : q2 = true := hq2.2 rfl); have hE12 := hE11.trans (hB12.mono hE11.size); have hh12 := (hfin _ hE12).2.2.1)
                    | ((with_reducible refine (S.from_T w12 (some ⟨s, 0, none⟩) at').mono ?_); rintro e w13 ⟨rfl, hw13⟩; have hst := from_world hw13; have hE13 := hE12.trans (hst.1.mono hE12.size); have hh13 := (hfin _ hE13).2.2.1; have Hst := Lib.hid hst.2; clear hw13 hst)
                    | (have hli := S.list_T 66 #[.pointer (some ⟨w12.heap.size, 0, none⟩), .pointer (some ⟨w12.heap.size + 1, 0, none⟩)] _ (X.drop (pos symCmp X at')) w13 (enters_of Try.func66 (by kernel_rfl) rfl) (S.from_stops 2 _ w12.heap.size (w12.heap.size + 1) s X at' _ Hst.out.1 Hst.out.2 (hfin _ hE13).1 (by omega) (Nat.le_refl _)) (by simp; omega) (Nat.le_refl _); (with_reducible refine hli.mono ?_); clear hli; rintro e w14 ⟨v14, rfl, hM14, hB14⟩; have hE14 := hE13.trans (hB14.mono hE13.size); have hL14 := (S.Made.ge hM14).slice; have hh14 := (hfin _ hE14).2.2.1; rw [HPe.out] at hL14)
                    | ((with_reducible refine (S.syms_T w14 v14 _ (X.drop P) (X.drop P) hL14 (hnil _ _ _ _ _ (by rw [List.length_drop]; omega) (by omega)) (by simp; omega) (by simp; omega)).mono ?_); rintro e w15 ⟨⟨q3, rfl, hq3⟩, hB15⟩; (obtain rfl : q3 = true := hq3.2 rfl); have hE15 := hE14.trans (hB15.mono hE14.size); have hh15 := (hfin _ hE15).2.2.1)
                    | ((with_reducible refine (wakes_T w15).mono ?_); rintro e w16 ⟨rfl, hB16⟩; have hE16 := hE15.trans (hB16.mono hE15.size); have hh16 := (hfin _ hE16).2.2.1)
                    | fail "no arm")
                go_wp2_with fail
                go_ret
                exact ⟨rfl, (hfin _ hE16).2.2.2⟩
              · by_cases hcP : co = P
                · subst hcP
                  obtain rfl : M = 0 := by omega
                  go_wp2_with fail
                  refine (S.all_T w7 (some ⟨s, 0, none⟩)).mono ?_
                  rintro e w8 ⟨rfl, rfl⟩
                  have hb8 : Below w7.heap.size w7 (w7.alloc (.cells #[.pointer (some ⟨s, 0, none⟩)] 23)) := (Below.refl _ w7).alloc (Nat.le_refl _) _
                  have hbx := heap_alloc_new w7 (.cells #[.pointer (some ⟨s, 0, none⟩)] 23)
                  generalize (w7.alloc (.cells #[.pointer (some ⟨s, 0, none⟩)] 23)) = w8 at hb8 hbx ⊢
                  have hbl := lt_of_block hbx
                  have hD8 : Below w7.heap.size w7 w8.drew := hb8.drew
                  have hxc := (hfin _ hb8).2.2.1
                  have hbd : w8.drew.heap[w7.heap.size]? = some (.cells #[.pointer (some ⟨s, 0, none⟩)] 23 (0, 0)) := hbx
                  have hfi := S.first_T 64 #[.pointer (some ⟨w7.heap.size, 0, none⟩)] _ X w8.drew 0 (enters_of Try.func64 (by kernel_rfl) rfl)
                    (S.all_stops 2 _ w7.heap.size s X _ hbd (hfin _ hD8).1 (by omega) (Nat.le_refl _)) (by omega) (by omega) (Nat.le_refl _)
                  rw [show ((0 : Nat) : Int) = 0 from rfl] at hfi
                  have Hbd := Lib.hid hbd
                  clear hbx hbd
                  go_wp2_with fail
                  go_region_held3 (fun W => W.cell? ⟨w.heap.size, 0, none⟩ = some (.int .i64 at'.k) ∧ W.cell? ⟨w.heap.size, 1, none⟩ = some (.string at'.t) ∧ W.cell? ⟨w.heap.size, 2, none⟩ = some (.int .i64 at'.n))
                    (first | go_keep | assumption)
                    (first
                      | ((with_reducible refine hfi.mono ?_); rintro e w9 ⟨v9, rfl, hM9, hB9⟩; have hE9 := hD8.trans (hB9.mono hD8.size); have hL9 := (S.Made.ge hM9).slice; have hh9 := (hfin _ hE9).2.2.1)
                      | ((with_reducible refine (S.syms_T w9 v9 _ (X.take 0) (X.take 0) hL9 (hnil _ _ _ _ _ (by first | (simp; done) | (rw [List.length_take]; omega)) (by omega)) (by first | omega | (simp; done) | (simp; omega)) (by first | omega | (simp; done) | (simp; omega))).mono ?_); rintro e w10 ⟨⟨q1, rfl, hq1⟩, hB10⟩; (obtain rfl : q1 = true := hq1.2 rfl); have hE10 := hE9.trans (hB10.mono hE9.size); have hh10 := (hfin _ hE10).2.2.1; have Hbx10 := Lib.hid (((hB9.trans (hB10.mono hB9.size)).block _ hbl).trans Hbd.out))
                      | (have hli := S.list_T 64 #[.pointer (some ⟨w7.heap.size, 0, none⟩)] _ X w10 (enters_of Try.func64 (by kernel_rfl) rfl) (S.all_stops 2 _ w7.heap.size s X _ Hbx10.out (hfin _ hE10).1 (by omega) (Nat.le_refl _)) (by omega) (Nat.le_refl _); (with_reducible refine hli.mono ?_); clear hli; rintro e w11 ⟨v11, rfl, hM11, hB11⟩; have hE11 := hE10.trans (hB11.mono hE10.size); have hL11 := (S.Made.ge hM11).slice; have hh11 := (hfin _ hE11).2.2.1)
                      | ((with_reducible refine (S.syms_T w11 v11 _ X X hL11 (hnil _ _ _ _ _ (by omega) (by omega)) (by omega) (by omega)).mono ?_); rintro e w12 ⟨⟨q2, rfl, hq2⟩, hB12⟩; (obtain rfl : q2 = true := hq2.2 rfl); have hE12 := hE11.trans (hB12.mono hE11.size); have hh12 := (hfin _ hE12).2.2.1)
                      | ((with_reducible refine (S.from_T w12 (some ⟨s, 0, none⟩) at').mono ?_); rintro e w13 ⟨rfl, hw13⟩; have hst := from_world hw13; have hE13 := hE12.trans (hst.1.mono hE12.size); have hh13 := (hfin _ hE13).2.2.1; have Hst := Lib.hid hst.2; clear hw13 hst)
                      | (have hli := S.list_T 66 #[.pointer (some ⟨w12.heap.size, 0, none⟩), .pointer (some ⟨w12.heap.size + 1, 0, none⟩)] _ (X.drop (pos symCmp X at')) w13 (enters_of Try.func66 (by kernel_rfl) rfl) (S.from_stops 2 _ w12.heap.size (w12.heap.size + 1) s X at' _ Hst.out.1 Hst.out.2 (hfin _ hE13).1 (by omega) (Nat.le_refl _)) (by simp; omega) (Nat.le_refl _); (with_reducible refine hli.mono ?_); clear hli; rintro e w14 ⟨v14, rfl, hM14, hB14⟩; have hE14 := hE13.trans (hB14.mono hE13.size); have hL14 := (S.Made.ge hM14).slice; have hh14 := (hfin _ hE14).2.2.1; rw [HPe.out] at hL14)
                      | ((with_reducible refine (S.syms_T w14 v14 _ (X.drop co) (X.drop co) hL14 (hnil _ _ _ _ _ (by rw [List.length_drop]; omega) (by omega)) (by simp; omega) (by simp; omega)).mono ?_); rintro e w15 ⟨⟨q3, rfl, hq3⟩, hB15⟩; (obtain rfl : q3 = true := hq3.2 rfl); have hE15 := hE14.trans (hB15.mono hE14.size); have hh15 := (hfin _ hE15).2.2.1)
                      | ((with_reducible refine (wakes_T w15).mono ?_); rintro e w16 ⟨rfl, hB16⟩; have hE16 := hE15.trans (hB16.mono hE15.size); have hh16 := (hfin _ hE16).2.2.1)
                      | fail "no arm")
                  go_wp2_with fail
                  go_ret
                  exact ⟨rfl, (hfin _ hE16).2.2.2⟩
                · skip
                  go_wp2_with fail
                  refine (S.all_T w7 (some ⟨s, 0, none⟩)).mono ?_
                  rintro e w8 ⟨rfl, rfl⟩
                  have hb8 : Below w7.heap.size w7 (w7.alloc (.cells #[.pointer (some ⟨s, 0, none⟩)] 23)) := (Below.refl _ w7).alloc (Nat.le_refl _) _
                  have hbx := heap_alloc_new w7 (.cells #[.pointer (some ⟨s, 0, none⟩)] 23)
                  generalize (w7.alloc (.cells #[.pointer (some ⟨s, 0, none⟩)] 23)) = w8 at hb8 hbx ⊢
                  have hbl := lt_of_block hbx
                  have hD8 : Below w7.heap.size w7 w8.drew := hb8.drew
                  have hxc := (hfin _ hb8).2.2.1
                  have hbd : w8.drew.heap[w7.heap.size]? = some (.cells #[.pointer (some ⟨s, 0, none⟩)] 23 (0, 0)) := hbx
                  have hfi := S.first_T 64 #[.pointer (some ⟨w7.heap.size, 0, none⟩)] _ X w8.drew M (enters_of Try.func64 (by kernel_rfl) rfl)
                    (S.all_stops 2 _ w7.heap.size s X _ hbd (hfin _ hD8).1 (by omega) (Nat.le_refl _)) (by omega) (by omega) (Nat.le_refl _)
                  have Hbd := Lib.hid hbd
                  clear hbx hbd
                  go_wp2_with fail
                  go_region_held3 (fun W => W.cell? ⟨w.heap.size, 0, none⟩ = some (.int .i64 at'.k) ∧ W.cell? ⟨w.heap.size, 1, none⟩ = some (.string at'.t) ∧ W.cell? ⟨w.heap.size, 2, none⟩ = some (.int .i64 at'.n))
                    (first | go_keep | assumption)
                    (first
                      | ((with_reducible refine hfi.mono ?_); rintro e w9 ⟨v9, rfl, hM9, hB9⟩; have hE9 := hD8.trans (hB9.mono hD8.size); have hL9 := (S.Made.ge hM9).slice; have hh9 := (hfin _ hE9).2.2.1)
                      | ((with_reducible refine (S.syms_T w9 v9 _ (X.take M) (X.take M) hL9 (hnil _ _ _ _ _ (by first | (simp; done) | (rw [List.length_take]; omega)) (by omega)) (by first | omega | (simp; done) | (simp; omega)) (by first | omega | (simp; done) | (simp; omega))).mono ?_); rintro e w10 ⟨⟨q1, rfl, hq1⟩, hB10⟩; (obtain rfl : q1 = true := hq1.2 rfl); have hE10 := hE9.trans (hB10.mono hE9.size); have hh10 := (hfin _ hE10).2.2.1; have Hbx10 := Lib.hid (((hB9.trans (hB10.mono hB9.size)).block _ hbl).trans Hbd.out))
                      | (have hli := S.list_T 64 #[.pointer (some ⟨w7.heap.size, 0, none⟩)] _ X w10 (enters_of Try.func64 (by kernel_rfl) rfl) (S.all_stops 2 _ w7.heap.size s X _ Hbx10.out (hfin _ hE10).1 (by omega) (Nat.le_refl _)) (by omega) (Nat.le_refl _); (with_reducible refine hli.mono ?_); clear hli; rintro e w11 ⟨v11, rfl, hM11, hB11⟩; have hE11 := hE10.trans (hB11.mono hE10.size); have hL11 := (S.Made.ge hM11).slice; have hh11 := (hfin _ hE11).2.2.1)
                      | ((with_reducible refine (S.syms_T w11 v11 _ X X hL11 (hnil _ _ _ _ _ (by omega) (by omega)) (by omega) (by omega)).mono ?_); rintro e w12 ⟨⟨q2, rfl, hq2⟩, hB12⟩; (obtain rfl : q2 = true := hq2.2 rfl); have hE12 := hE11.trans (hB12.mono hE11.size); have hh12 := (hfin _ hE12).2.2.1)
                      | ((with_reducible refine (S.from_T w12 (some ⟨s, 0, none⟩) at').mono ?_); rintro e w13 ⟨rfl, hw13⟩; have hst := from_world hw13; have hE13 := hE12.trans (hst.1.mono hE12.size); have hh13 := (hfin _ hE13).2.2.1; have Hst := Lib.hid hst.2; clear hw13 hst)
                      | (have hli := S.list_T 66 #[.pointer (some ⟨w12.heap.size, 0, none⟩), .pointer (some ⟨w12.heap.size + 1, 0, none⟩)] _ (X.drop (pos symCmp X at')) w13 (enters_of Try.func66 (by kernel_rfl) rfl) (S.from_stops 2 _ w12.heap.size (w12.heap.size + 1) s X at' _ Hst.out.1 Hst.out.2 (hfin _ hE13).1 (by omega) (Nat.le_refl _)) (by simp; omega) (Nat.le_refl _); (with_reducible refine hli.mono ?_); clear hli; rintro e w14 ⟨v14, rfl, hM14, hB14⟩; have hE14 := hE13.trans (hB14.mono hE13.size); have hL14 := (S.Made.ge hM14).slice; have hh14 := (hfin _ hE14).2.2.1; rw [HPe.out] at hL14)
                      | ((with_reducible refine (S.syms_T w14 v14 _ (X.drop P) (X.drop P) hL14 (hnil _ _ _ _ _ (by rw [List.length_drop]; omega) (by omega)) (by simp; omega) (by simp; omega)).mono ?_); rintro e w15 ⟨⟨q3, rfl, hq3⟩, hB15⟩; (obtain rfl : q3 = true := hq3.2 rfl); have hE15 := hE14.trans (hB15.mono hE14.size); have hh15 := (hfin _ hE15).2.2.1)
                      | ((with_reducible refine (wakes_T w15).mono ?_); rintro e w16 ⟨rfl, hB16⟩; have hE16 := hE15.trans (hB16.mono hE15.size); have hh16 := (hfin _ hE16).2.2.1)
                      | fail "no arm")
                  go_wp2_with fail
                  go_ret
                  exact ⟨rfl, (hfin _ hE16).2.2.2⟩
            · obtain ⟨b, off, rfl⟩ := own_addr (hfin w7 (Below.refl _ _)).2.1 (by omega)
              by_cases hcP : co = P
              · subst hcP
                go_wp2_with fail
                refine (S.all_T w7 (some ⟨s, 0, none⟩)).mono ?_
                rintro e w8 ⟨rfl, rfl⟩
                have hb8 : Below w7.heap.size w7 (w7.alloc (.cells #[.pointer (some ⟨s, 0, none⟩)] 23)) := (Below.refl _ w7).alloc (Nat.le_refl _) _
                have hbx := heap_alloc_new w7 (.cells #[.pointer (some ⟨s, 0, none⟩)] 23)
                generalize (w7.alloc (.cells #[.pointer (some ⟨s, 0, none⟩)] 23)) = w8 at hb8 hbx ⊢
                have hbl := lt_of_block hbx
                have hD8 : Below w7.heap.size w7 w8.drew := hb8.drew
                have hxc := (hfin _ hb8).2.2.1
                have hbd : w8.drew.heap[w7.heap.size]? = some (.cells #[.pointer (some ⟨s, 0, none⟩)] 23 (0, 0)) := hbx
                have hfi := S.first_T 64 #[.pointer (some ⟨w7.heap.size, 0, none⟩)] _ X w8.drew M (enters_of Try.func64 (by kernel_rfl) rfl)
                  (S.all_stops 2 _ w7.heap.size s X _ hbd (hfin _ hD8).1 (by omega) (Nat.le_refl _)) (by omega) (by omega) (Nat.le_refl _)
                have Hbd := Lib.hid hbd
                clear hbx hbd
                go_wp2_with fail
                go_region_held3 (fun W => W.cell? ⟨w.heap.size, 0, none⟩ = some (.int .i64 at'.k) ∧ W.cell? ⟨w.heap.size, 1, none⟩ = some (.string at'.t) ∧ W.cell? ⟨w.heap.size, 2, none⟩ = some (.int .i64 at'.n))
                  (first | go_keep | assumption)
                  (first
                    | ((with_reducible refine hfi.mono ?_); rintro e w9 ⟨v9, rfl, hM9, hB9⟩; have hE9 := hD8.trans (hB9.mono hD8.size); have hL9 := (S.Made.ge hM9).slice; have hh9 := (hfin _ hE9).2.2.1; have ht9 : S.SliceOf w9 _ (X.take M) := own_take (hfin _ hE9).2.1 M (by omega))
                    | ((with_reducible refine (S.syms_T w9 v9 _ (X.take M) (X.take M) hL9 ht9 (by first | omega | (simp; done) | (simp; omega)) (by first | omega | (simp; done) | (simp; omega))).mono ?_); rintro e w10 ⟨⟨q1, rfl, hq1⟩, hB10⟩; (obtain rfl : q1 = true := hq1.2 rfl); have hE10 := hE9.trans (hB10.mono hE9.size); have hh10 := (hfin _ hE10).2.2.1; have Hbx10 := Lib.hid (((hB9.trans (hB10.mono hB9.size)).block _ hbl).trans Hbd.out))
                    | (have hli := S.list_T 64 #[.pointer (some ⟨w7.heap.size, 0, none⟩)] _ X w10 (enters_of Try.func64 (by kernel_rfl) rfl) (S.all_stops 2 _ w7.heap.size s X _ Hbx10.out (hfin _ hE10).1 (by omega) (Nat.le_refl _)) (by omega) (Nat.le_refl _); (with_reducible refine hli.mono ?_); clear hli; rintro e w11 ⟨v11, rfl, hM11, hB11⟩; have hE11 := hE10.trans (hB11.mono hE10.size); have hL11 := (S.Made.ge hM11).slice; have hh11 := (hfin _ hE11).2.2.1; have hs11 : S.SliceOf w11 _ X := (hfin _ hE11).2.1.1)
                    | ((with_reducible refine (S.syms_T w11 v11 _ X X hL11 hs11 (by omega) (by omega)).mono ?_); rintro e w12 ⟨⟨q2, rfl, hq2⟩, hB12⟩; (obtain rfl : q2 = true := hq2.2 rfl); have hE12 := hE11.trans (hB12.mono hE11.size); have hh12 := (hfin _ hE12).2.2.1)
                    | ((with_reducible refine (S.from_T w12 (some ⟨s, 0, none⟩) at').mono ?_); rintro e w13 ⟨rfl, hw13⟩; have hst := from_world hw13; have hE13 := hE12.trans (hst.1.mono hE12.size); have hh13 := (hfin _ hE13).2.2.1; have Hst := Lib.hid hst.2; clear hw13 hst)
                    | (have hli := S.list_T 66 #[.pointer (some ⟨w12.heap.size, 0, none⟩), .pointer (some ⟨w12.heap.size + 1, 0, none⟩)] _ (X.drop (pos symCmp X at')) w13 (enters_of Try.func66 (by kernel_rfl) rfl) (S.from_stops 2 _ w12.heap.size (w12.heap.size + 1) s X at' _ Hst.out.1 Hst.out.2 (hfin _ hE13).1 (by omega) (Nat.le_refl _)) (by simp; omega) (Nat.le_refl _); (with_reducible refine hli.mono ?_); clear hli; rintro e w14 ⟨v14, rfl, hM14, hB14⟩; have hE14 := hE13.trans (hB14.mono hE13.size); have hL14 := (S.Made.ge hM14).slice; have hh14 := (hfin _ hE14).2.2.1; rw [HPe.out] at hL14)
                    | ((with_reducible refine (S.syms_T w14 v14 _ (X.drop co) (X.drop co) hL14 (hnil _ _ _ _ _ (by rw [List.length_drop]; omega) (by omega)) (by simp; omega) (by simp; omega)).mono ?_); rintro e w15 ⟨⟨q3, rfl, hq3⟩, hB15⟩; (obtain rfl : q3 = true := hq3.2 rfl); have hE15 := hE14.trans (hB15.mono hE14.size); have hh15 := (hfin _ hE15).2.2.1)
                    | ((with_reducible refine (wakes_T w15).mono ?_); rintro e w16 ⟨rfl, hB16⟩; have hE16 := hE15.trans (hB16.mono hE15.size); have hh16 := (hfin _ hE16).2.2.1)
                    | fail "no arm")
                go_wp2_with fail
                go_ret
                exact ⟨rfl, (hfin _ hE16).2.2.2⟩
              · skip
                go_wp2_with fail
                refine (S.all_T w7 (some ⟨s, 0, none⟩)).mono ?_
                rintro e w8 ⟨rfl, rfl⟩
                have hb8 : Below w7.heap.size w7 (w7.alloc (.cells #[.pointer (some ⟨s, 0, none⟩)] 23)) := (Below.refl _ w7).alloc (Nat.le_refl _) _
                have hbx := heap_alloc_new w7 (.cells #[.pointer (some ⟨s, 0, none⟩)] 23)
                generalize (w7.alloc (.cells #[.pointer (some ⟨s, 0, none⟩)] 23)) = w8 at hb8 hbx ⊢
                have hbl := lt_of_block hbx
                have hD8 : Below w7.heap.size w7 w8.drew := hb8.drew
                have hxc := (hfin _ hb8).2.2.1
                have hbd : w8.drew.heap[w7.heap.size]? = some (.cells #[.pointer (some ⟨s, 0, none⟩)] 23 (0, 0)) := hbx
                have hfi := S.first_T 64 #[.pointer (some ⟨w7.heap.size, 0, none⟩)] _ X w8.drew M (enters_of Try.func64 (by kernel_rfl) rfl)
                  (S.all_stops 2 _ w7.heap.size s X _ hbd (hfin _ hD8).1 (by omega) (Nat.le_refl _)) (by omega) (by omega) (Nat.le_refl _)
                have Hbd := Lib.hid hbd
                clear hbx hbd
                go_wp2_with fail
                go_region_held3 (fun W => W.cell? ⟨w.heap.size, 0, none⟩ = some (.int .i64 at'.k) ∧ W.cell? ⟨w.heap.size, 1, none⟩ = some (.string at'.t) ∧ W.cell? ⟨w.heap.size, 2, none⟩ = some (.int .i64 at'.n))
                  (first | go_keep | assumption)
                  (first
                    | ((with_reducible refine hfi.mono ?_); rintro e w9 ⟨v9, rfl, hM9, hB9⟩; have hE9 := hD8.trans (hB9.mono hD8.size); have hL9 := (S.Made.ge hM9).slice; have hh9 := (hfin _ hE9).2.2.1; have ht9 : S.SliceOf w9 _ (X.take M) := own_take (hfin _ hE9).2.1 M (by omega))
                    | ((with_reducible refine (S.syms_T w9 v9 _ (X.take M) (X.take M) hL9 ht9 (by first | omega | (simp; done) | (simp; omega)) (by first | omega | (simp; done) | (simp; omega))).mono ?_); rintro e w10 ⟨⟨q1, rfl, hq1⟩, hB10⟩; (obtain rfl : q1 = true := hq1.2 rfl); have hE10 := hE9.trans (hB10.mono hE9.size); have hh10 := (hfin _ hE10).2.2.1; have Hbx10 := Lib.hid (((hB9.trans (hB10.mono hB9.size)).block _ hbl).trans Hbd.out))
                    | (have hli := S.list_T 64 #[.pointer (some ⟨w7.heap.size, 0, none⟩)] _ X w10 (enters_of Try.func64 (by kernel_rfl) rfl) (S.all_stops 2 _ w7.heap.size s X _ Hbx10.out (hfin _ hE10).1 (by omega) (Nat.le_refl _)) (by omega) (Nat.le_refl _); (with_reducible refine hli.mono ?_); clear hli; rintro e w11 ⟨v11, rfl, hM11, hB11⟩; have hE11 := hE10.trans (hB11.mono hE10.size); have hL11 := (S.Made.ge hM11).slice; have hh11 := (hfin _ hE11).2.2.1; have hs11 : S.SliceOf w11 _ X := (hfin _ hE11).2.1.1)
                    | ((with_reducible refine (S.syms_T w11 v11 _ X X hL11 hs11 (by omega) (by omega)).mono ?_); rintro e w12 ⟨⟨q2, rfl, hq2⟩, hB12⟩; (obtain rfl : q2 = true := hq2.2 rfl); have hE12 := hE11.trans (hB12.mono hE11.size); have hh12 := (hfin _ hE12).2.2.1)
                    | ((with_reducible refine (S.from_T w12 (some ⟨s, 0, none⟩) at').mono ?_); rintro e w13 ⟨rfl, hw13⟩; have hst := from_world hw13; have hE13 := hE12.trans (hst.1.mono hE12.size); have hh13 := (hfin _ hE13).2.2.1; have Hst := Lib.hid hst.2; clear hw13 hst)
                    | (have hli := S.list_T 66 #[.pointer (some ⟨w12.heap.size, 0, none⟩), .pointer (some ⟨w12.heap.size + 1, 0, none⟩)] _ (X.drop (pos symCmp X at')) w13 (enters_of Try.func66 (by kernel_rfl) rfl) (S.from_stops 2 _ w12.heap.size (w12.heap.size + 1) s X at' _ Hst.out.1 Hst.out.2 (hfin _ hE13).1 (by omega) (Nat.le_refl _)) (by simp; omega) (Nat.le_refl _); (with_reducible refine hli.mono ?_); clear hli; rintro e w14 ⟨v14, rfl, hM14, hB14⟩; have hE14 := hE13.trans (hB14.mono hE13.size); have hL14 := (S.Made.ge hM14).slice; have hh14 := (hfin _ hE14).2.2.1; rw [HPe.out] at hL14)
                    | ((with_reducible refine (S.syms_T w14 v14 _ (X.drop P) (X.drop P) hL14 (own_drop (hfin _ hE14).2.1 P) (by simp; omega) (by simp; omega)).mono ?_); rintro e w15 ⟨⟨q3, rfl, hq3⟩, hB15⟩; (obtain rfl : q3 = true := hq3.2 rfl); have hE15 := hE14.trans (hB15.mono hE14.size); have hh15 := (hfin _ hE15).2.2.1)
                    | ((with_reducible refine (wakes_T w15).mono ?_); rintro e w16 ⟨rfl, hB16⟩; have hE16 := hE15.trans (hB16.mono hE15.size); have hh16 := (hfin _ hE16).2.2.1)
                    | fail "no arm")
                go_wp2_with fail
                go_ret
                exact ⟨rfl, (hfin _ hE16).2.2.2⟩
          · obtain rfl : M = X.length := by omega
            rw [List.take_length] at Htm
            by_cases hX0 : X.length = 0
            · have hP0 : P = 0 := by omega
              rcases ao with _ | ad
              · obtain rfl : co = 0 := Hfit.out.2 rfl
                go_wp2_with fail
                refine (S.all_T w7 (some ⟨s, 0, none⟩)).mono ?_
                rintro e w8 ⟨rfl, rfl⟩
                have hb8 : Below w7.heap.size w7 (w7.alloc (.cells #[.pointer (some ⟨s, 0, none⟩)] 23)) := (Below.refl _ w7).alloc (Nat.le_refl _) _
                have hbx := heap_alloc_new w7 (.cells #[.pointer (some ⟨s, 0, none⟩)] 23)
                generalize (w7.alloc (.cells #[.pointer (some ⟨s, 0, none⟩)] 23)) = w8 at hb8 hbx ⊢
                have hbl := lt_of_block hbx
                have hD8 : Below w7.heap.size w7 w8.drew := hb8.drew
                have hxc := (hfin _ hb8).2.2.1
                have hbd : w8.drew.heap[w7.heap.size]? = some (.cells #[.pointer (some ⟨s, 0, none⟩)] 23 (0, 0)) := hbx
                have hfi := S.first_T 64 #[.pointer (some ⟨w7.heap.size, 0, none⟩)] _ X w8.drew m (enters_of Try.func64 (by kernel_rfl) rfl)
                  (S.all_stops 2 _ w7.heap.size s X _ hbd (hfin _ hD8).1 (by omega) (Nat.le_refl _)) (by omega) (by omega) (Nat.le_refl _)
                rw [Htm.out] at hfi
                have Hbd := Lib.hid hbd
                clear hbx hbd
                go_wp2_with fail
                go_region_held3 (fun W => W.cell? ⟨w.heap.size, 0, none⟩ = some (.int .i64 at'.k) ∧ W.cell? ⟨w.heap.size, 1, none⟩ = some (.string at'.t) ∧ W.cell? ⟨w.heap.size, 2, none⟩ = some (.int .i64 at'.n))
                  (first | go_keep | assumption)
                  (first
                    | ((with_reducible refine hfi.mono ?_); rintro e w9 ⟨v9, rfl, hM9, hB9⟩; have hE9 := hD8.trans (hB9.mono hD8.size); have hL9 := (S.Made.ge hM9).slice; have hh9 := (hfin _ hE9).2.2.1)
                    | ((with_reducible refine (S.syms_T w9 v9 _ (X) (X) hL9 (hnil _ _ _ _ _ (by omega) (by omega)) (by first | omega | (simp; done) | (simp; omega)) (by first | omega | (simp; done) | (simp; omega))).mono ?_); rintro e w10 ⟨⟨q1, rfl, hq1⟩, hB10⟩; (obtain rfl : q1 = true := hq1.2 rfl); have hE10 := hE9.trans (hB10.mono hE9.size); have hh10 := (hfin _ hE10).2.2.1; have Hbx10 := Lib.hid (((hB9.trans (hB10.mono hB9.size)).block _ hbl).trans Hbd.out))
                    | (have hli := S.list_T 64 #[.pointer (some ⟨w7.heap.size, 0, none⟩)] _ X w10 (enters_of Try.func64 (by kernel_rfl) rfl) (S.all_stops 2 _ w7.heap.size s X _ Hbx10.out (hfin _ hE10).1 (by omega) (Nat.le_refl _)) (by omega) (Nat.le_refl _); (with_reducible refine hli.mono ?_); clear hli; rintro e w11 ⟨v11, rfl, hM11, hB11⟩; have hE11 := hE10.trans (hB11.mono hE10.size); have hL11 := (S.Made.ge hM11).slice; have hh11 := (hfin _ hE11).2.2.1)
                    | ((with_reducible refine (S.syms_T w11 v11 _ X X hL11 (hnil _ _ _ _ _ (by omega) (by omega)) (by omega) (by omega)).mono ?_); rintro e w12 ⟨⟨q2, rfl, hq2⟩, hB12⟩; (obtain rfl : q2 = true := hq2.2 rfl); have hE12 := hE11.trans (hB12.mono hE11.size); have hh12 := (hfin _ hE12).2.2.1)
                    | ((with_reducible refine (S.from_T w12 (some ⟨s, 0, none⟩) at').mono ?_); rintro e w13 ⟨rfl, hw13⟩; have hst := from_world hw13; have hE13 := hE12.trans (hst.1.mono hE12.size); have hh13 := (hfin _ hE13).2.2.1; have Hst := Lib.hid hst.2; clear hw13 hst)
                    | (have hli := S.list_T 66 #[.pointer (some ⟨w12.heap.size, 0, none⟩), .pointer (some ⟨w12.heap.size + 1, 0, none⟩)] _ (X.drop (pos symCmp X at')) w13 (enters_of Try.func66 (by kernel_rfl) rfl) (S.from_stops 2 _ w12.heap.size (w12.heap.size + 1) s X at' _ Hst.out.1 Hst.out.2 (hfin _ hE13).1 (by omega) (Nat.le_refl _)) (by simp; omega) (Nat.le_refl _); (with_reducible refine hli.mono ?_); clear hli; rintro e w14 ⟨v14, rfl, hM14, hB14⟩; have hE14 := hE13.trans (hB14.mono hE13.size); have hL14 := (S.Made.ge hM14).slice; have hh14 := (hfin _ hE14).2.2.1; rw [HPe.out] at hL14)
                    | ((with_reducible refine (S.syms_T w14 v14 _ (X.drop P) (X.drop P) hL14 (hnil _ _ _ _ _ (by rw [List.length_drop]; omega) (by omega)) (by simp; omega) (by simp; omega)).mono ?_); rintro e w15 ⟨⟨q3, rfl, hq3⟩, hB15⟩; (obtain rfl : q3 = true := hq3.2 rfl); have hE15 := hE14.trans (hB15.mono hE14.size); have hh15 := (hfin _ hE15).2.2.1)
                    | ((with_reducible refine (wakes_T w15).mono ?_); rintro e w16 ⟨rfl, hB16⟩; have hE16 := hE15.trans (hB16.mono hE15.size); have hh16 := (hfin _ hE16).2.2.1)
                    | fail "no arm")
                go_wp2_with fail
                go_ret
                exact ⟨rfl, (hfin _ hE16).2.2.2⟩
              · by_cases hcP : co = P
                · subst hcP
                  go_wp2_with fail
                  refine (S.all_T w7 (some ⟨s, 0, none⟩)).mono ?_
                  rintro e w8 ⟨rfl, rfl⟩
                  have hb8 : Below w7.heap.size w7 (w7.alloc (.cells #[.pointer (some ⟨s, 0, none⟩)] 23)) := (Below.refl _ w7).alloc (Nat.le_refl _) _
                  have hbx := heap_alloc_new w7 (.cells #[.pointer (some ⟨s, 0, none⟩)] 23)
                  generalize (w7.alloc (.cells #[.pointer (some ⟨s, 0, none⟩)] 23)) = w8 at hb8 hbx ⊢
                  have hbl := lt_of_block hbx
                  have hD8 : Below w7.heap.size w7 w8.drew := hb8.drew
                  have hxc := (hfin _ hb8).2.2.1
                  have hbd : w8.drew.heap[w7.heap.size]? = some (.cells #[.pointer (some ⟨s, 0, none⟩)] 23 (0, 0)) := hbx
                  have hfi := S.first_T 64 #[.pointer (some ⟨w7.heap.size, 0, none⟩)] _ X w8.drew m (enters_of Try.func64 (by kernel_rfl) rfl)
                    (S.all_stops 2 _ w7.heap.size s X _ hbd (hfin _ hD8).1 (by omega) (Nat.le_refl _)) (by omega) (by omega) (Nat.le_refl _)
                  rw [Htm.out] at hfi
                  have Hbd := Lib.hid hbd
                  clear hbx hbd
                  go_wp2_with fail
                  go_region_held3 (fun W => W.cell? ⟨w.heap.size, 0, none⟩ = some (.int .i64 at'.k) ∧ W.cell? ⟨w.heap.size, 1, none⟩ = some (.string at'.t) ∧ W.cell? ⟨w.heap.size, 2, none⟩ = some (.int .i64 at'.n))
                    (first | go_keep | assumption)
                    (first
                      | ((with_reducible refine hfi.mono ?_); rintro e w9 ⟨v9, rfl, hM9, hB9⟩; have hE9 := hD8.trans (hB9.mono hD8.size); have hL9 := (S.Made.ge hM9).slice; have hh9 := (hfin _ hE9).2.2.1)
                      | ((with_reducible refine (S.syms_T w9 v9 _ (X) (X) hL9 (hnil _ _ _ _ _ (by omega) (by omega)) (by first | omega | (simp; done) | (simp; omega)) (by first | omega | (simp; done) | (simp; omega))).mono ?_); rintro e w10 ⟨⟨q1, rfl, hq1⟩, hB10⟩; (obtain rfl : q1 = true := hq1.2 rfl); have hE10 := hE9.trans (hB10.mono hE9.size); have hh10 := (hfin _ hE10).2.2.1; have Hbx10 := Lib.hid (((hB9.trans (hB10.mono hB9.size)).block _ hbl).trans Hbd.out))
                      | (have hli := S.list_T 64 #[.pointer (some ⟨w7.heap.size, 0, none⟩)] _ X w10 (enters_of Try.func64 (by kernel_rfl) rfl) (S.all_stops 2 _ w7.heap.size s X _ Hbx10.out (hfin _ hE10).1 (by omega) (Nat.le_refl _)) (by omega) (Nat.le_refl _); (with_reducible refine hli.mono ?_); clear hli; rintro e w11 ⟨v11, rfl, hM11, hB11⟩; have hE11 := hE10.trans (hB11.mono hE10.size); have hL11 := (S.Made.ge hM11).slice; have hh11 := (hfin _ hE11).2.2.1)
                      | ((with_reducible refine (S.syms_T w11 v11 _ X X hL11 (hnil _ _ _ _ _ (by omega) (by omega)) (by omega) (by omega)).mono ?_); rintro e w12 ⟨⟨q2, rfl, hq2⟩, hB12⟩; (obtain rfl : q2 = true := hq2.2 rfl); have hE12 := hE11.trans (hB12.mono hE11.size); have hh12 := (hfin _ hE12).2.2.1)
                      | ((with_reducible refine (S.from_T w12 (some ⟨s, 0, none⟩) at').mono ?_); rintro e w13 ⟨rfl, hw13⟩; have hst := from_world hw13; have hE13 := hE12.trans (hst.1.mono hE12.size); have hh13 := (hfin _ hE13).2.2.1; have Hst := Lib.hid hst.2; clear hw13 hst)
                      | (have hli := S.list_T 66 #[.pointer (some ⟨w12.heap.size, 0, none⟩), .pointer (some ⟨w12.heap.size + 1, 0, none⟩)] _ (X.drop (pos symCmp X at')) w13 (enters_of Try.func66 (by kernel_rfl) rfl) (S.from_stops 2 _ w12.heap.size (w12.heap.size + 1) s X at' _ Hst.out.1 Hst.out.2 (hfin _ hE13).1 (by omega) (Nat.le_refl _)) (by simp; omega) (Nat.le_refl _); (with_reducible refine hli.mono ?_); clear hli; rintro e w14 ⟨v14, rfl, hM14, hB14⟩; have hE14 := hE13.trans (hB14.mono hE13.size); have hL14 := (S.Made.ge hM14).slice; have hh14 := (hfin _ hE14).2.2.1; rw [HPe.out] at hL14)
                      | ((with_reducible refine (S.syms_T w14 v14 _ (X.drop co) (X.drop co) hL14 (hnil _ _ _ _ _ (by rw [List.length_drop]; omega) (by omega)) (by simp; omega) (by simp; omega)).mono ?_); rintro e w15 ⟨⟨q3, rfl, hq3⟩, hB15⟩; (obtain rfl : q3 = true := hq3.2 rfl); have hE15 := hE14.trans (hB15.mono hE14.size); have hh15 := (hfin _ hE15).2.2.1)
                      | ((with_reducible refine (wakes_T w15).mono ?_); rintro e w16 ⟨rfl, hB16⟩; have hE16 := hE15.trans (hB16.mono hE15.size); have hh16 := (hfin _ hE16).2.2.1)
                      | fail "no arm")
                  go_wp2_with fail
                  go_ret
                  exact ⟨rfl, (hfin _ hE16).2.2.2⟩
                · skip
                  go_wp2_with fail
                  refine (S.all_T w7 (some ⟨s, 0, none⟩)).mono ?_
                  rintro e w8 ⟨rfl, rfl⟩
                  have hb8 : Below w7.heap.size w7 (w7.alloc (.cells #[.pointer (some ⟨s, 0, none⟩)] 23)) := (Below.refl _ w7).alloc (Nat.le_refl _) _
                  have hbx := heap_alloc_new w7 (.cells #[.pointer (some ⟨s, 0, none⟩)] 23)
                  generalize (w7.alloc (.cells #[.pointer (some ⟨s, 0, none⟩)] 23)) = w8 at hb8 hbx ⊢
                  have hbl := lt_of_block hbx
                  have hD8 : Below w7.heap.size w7 w8.drew := hb8.drew
                  have hxc := (hfin _ hb8).2.2.1
                  have hbd : w8.drew.heap[w7.heap.size]? = some (.cells #[.pointer (some ⟨s, 0, none⟩)] 23 (0, 0)) := hbx
                  have hfi := S.first_T 64 #[.pointer (some ⟨w7.heap.size, 0, none⟩)] _ X w8.drew m (enters_of Try.func64 (by kernel_rfl) rfl)
                    (S.all_stops 2 _ w7.heap.size s X _ hbd (hfin _ hD8).1 (by omega) (Nat.le_refl _)) (by omega) (by omega) (Nat.le_refl _)
                  rw [Htm.out] at hfi
                  have Hbd := Lib.hid hbd
                  clear hbx hbd
                  go_wp2_with fail
                  go_region_held3 (fun W => W.cell? ⟨w.heap.size, 0, none⟩ = some (.int .i64 at'.k) ∧ W.cell? ⟨w.heap.size, 1, none⟩ = some (.string at'.t) ∧ W.cell? ⟨w.heap.size, 2, none⟩ = some (.int .i64 at'.n))
                    (first | go_keep | assumption)
                    (first
                      | ((with_reducible refine hfi.mono ?_); rintro e w9 ⟨v9, rfl, hM9, hB9⟩; have hE9 := hD8.trans (hB9.mono hD8.size); have hL9 := (S.Made.ge hM9).slice; have hh9 := (hfin _ hE9).2.2.1)
                      | ((with_reducible refine (S.syms_T w9 v9 _ (X) (X) hL9 (hnil _ _ _ _ _ (by omega) (by omega)) (by first | omega | (simp; done) | (simp; omega)) (by first | omega | (simp; done) | (simp; omega))).mono ?_); rintro e w10 ⟨⟨q1, rfl, hq1⟩, hB10⟩; (obtain rfl : q1 = true := hq1.2 rfl); have hE10 := hE9.trans (hB10.mono hE9.size); have hh10 := (hfin _ hE10).2.2.1; have Hbx10 := Lib.hid (((hB9.trans (hB10.mono hB9.size)).block _ hbl).trans Hbd.out))
                      | (have hli := S.list_T 64 #[.pointer (some ⟨w7.heap.size, 0, none⟩)] _ X w10 (enters_of Try.func64 (by kernel_rfl) rfl) (S.all_stops 2 _ w7.heap.size s X _ Hbx10.out (hfin _ hE10).1 (by omega) (Nat.le_refl _)) (by omega) (Nat.le_refl _); (with_reducible refine hli.mono ?_); clear hli; rintro e w11 ⟨v11, rfl, hM11, hB11⟩; have hE11 := hE10.trans (hB11.mono hE10.size); have hL11 := (S.Made.ge hM11).slice; have hh11 := (hfin _ hE11).2.2.1)
                      | ((with_reducible refine (S.syms_T w11 v11 _ X X hL11 (hnil _ _ _ _ _ (by omega) (by omega)) (by omega) (by omega)).mono ?_); rintro e w12 ⟨⟨q2, rfl, hq2⟩, hB12⟩; (obtain rfl : q2 = true := hq2.2 rfl); have hE12 := hE11.trans (hB12.mono hE11.size); have hh12 := (hfin _ hE12).2.2.1)
                      | ((with_reducible refine (S.from_T w12 (some ⟨s, 0, none⟩) at').mono ?_); rintro e w13 ⟨rfl, hw13⟩; have hst := from_world hw13; have hE13 := hE12.trans (hst.1.mono hE12.size); have hh13 := (hfin _ hE13).2.2.1; have Hst := Lib.hid hst.2; clear hw13 hst)
                      | (have hli := S.list_T 66 #[.pointer (some ⟨w12.heap.size, 0, none⟩), .pointer (some ⟨w12.heap.size + 1, 0, none⟩)] _ (X.drop (pos symCmp X at')) w13 (enters_of Try.func66 (by kernel_rfl) rfl) (S.from_stops 2 _ w12.heap.size (w12.heap.size + 1) s X at' _ Hst.out.1 Hst.out.2 (hfin _ hE13).1 (by omega) (Nat.le_refl _)) (by simp; omega) (Nat.le_refl _); (with_reducible refine hli.mono ?_); clear hli; rintro e w14 ⟨v14, rfl, hM14, hB14⟩; have hE14 := hE13.trans (hB14.mono hE13.size); have hL14 := (S.Made.ge hM14).slice; have hh14 := (hfin _ hE14).2.2.1; rw [HPe.out] at hL14)
                      | ((with_reducible refine (S.syms_T w14 v14 _ (X.drop P) (X.drop P) hL14 (hnil _ _ _ _ _ (by rw [List.length_drop]; omega) (by omega)) (by simp; omega) (by simp; omega)).mono ?_); rintro e w15 ⟨⟨q3, rfl, hq3⟩, hB15⟩; (obtain rfl : q3 = true := hq3.2 rfl); have hE15 := hE14.trans (hB15.mono hE14.size); have hh15 := (hfin _ hE15).2.2.1)
                      | ((with_reducible refine (wakes_T w15).mono ?_); rintro e w16 ⟨rfl, hB16⟩; have hE16 := hE15.trans (hB16.mono hE15.size); have hh16 := (hfin _ hE16).2.2.1)
                      | fail "no arm")
                  go_wp2_with fail
                  go_ret
                  exact ⟨rfl, (hfin _ hE16).2.2.2⟩
            · obtain ⟨b, off, rfl⟩ := own_addr (hfin w7 (Below.refl _ _)).2.1 (by omega)
              by_cases hcP : co = P
              · subst hcP
                go_wp2_with fail
                refine (S.all_T w7 (some ⟨s, 0, none⟩)).mono ?_
                rintro e w8 ⟨rfl, rfl⟩
                have hb8 : Below w7.heap.size w7 (w7.alloc (.cells #[.pointer (some ⟨s, 0, none⟩)] 23)) := (Below.refl _ w7).alloc (Nat.le_refl _) _
                have hbx := heap_alloc_new w7 (.cells #[.pointer (some ⟨s, 0, none⟩)] 23)
                generalize (w7.alloc (.cells #[.pointer (some ⟨s, 0, none⟩)] 23)) = w8 at hb8 hbx ⊢
                have hbl := lt_of_block hbx
                have hD8 : Below w7.heap.size w7 w8.drew := hb8.drew
                have hxc := (hfin _ hb8).2.2.1
                have hbd : w8.drew.heap[w7.heap.size]? = some (.cells #[.pointer (some ⟨s, 0, none⟩)] 23 (0, 0)) := hbx
                have hfi := S.first_T 64 #[.pointer (some ⟨w7.heap.size, 0, none⟩)] _ X w8.drew m (enters_of Try.func64 (by kernel_rfl) rfl)
                  (S.all_stops 2 _ w7.heap.size s X _ hbd (hfin _ hD8).1 (by omega) (Nat.le_refl _)) (by omega) (by omega) (Nat.le_refl _)
                rw [Htm.out] at hfi
                have Hbd := Lib.hid hbd
                clear hbx hbd
                go_wp2_with fail
                go_region_held3 (fun W => W.cell? ⟨w.heap.size, 0, none⟩ = some (.int .i64 at'.k) ∧ W.cell? ⟨w.heap.size, 1, none⟩ = some (.string at'.t) ∧ W.cell? ⟨w.heap.size, 2, none⟩ = some (.int .i64 at'.n))
                  (first | go_keep | assumption)
                  (first
                    | ((with_reducible refine hfi.mono ?_); rintro e w9 ⟨v9, rfl, hM9, hB9⟩; have hE9 := hD8.trans (hB9.mono hD8.size); have hL9 := (S.Made.ge hM9).slice; have hh9 := (hfin _ hE9).2.2.1; have ht9 : S.SliceOf w9 _ X := (hfin _ hE9).2.1.1)
                    | ((with_reducible refine (S.syms_T w9 v9 _ (X) (X) hL9 ht9 (by first | omega | (simp; done) | (simp; omega)) (by first | omega | (simp; done) | (simp; omega))).mono ?_); rintro e w10 ⟨⟨q1, rfl, hq1⟩, hB10⟩; (obtain rfl : q1 = true := hq1.2 rfl); have hE10 := hE9.trans (hB10.mono hE9.size); have hh10 := (hfin _ hE10).2.2.1; have Hbx10 := Lib.hid (((hB9.trans (hB10.mono hB9.size)).block _ hbl).trans Hbd.out))
                    | (have hli := S.list_T 64 #[.pointer (some ⟨w7.heap.size, 0, none⟩)] _ X w10 (enters_of Try.func64 (by kernel_rfl) rfl) (S.all_stops 2 _ w7.heap.size s X _ Hbx10.out (hfin _ hE10).1 (by omega) (Nat.le_refl _)) (by omega) (Nat.le_refl _); (with_reducible refine hli.mono ?_); clear hli; rintro e w11 ⟨v11, rfl, hM11, hB11⟩; have hE11 := hE10.trans (hB11.mono hE10.size); have hL11 := (S.Made.ge hM11).slice; have hh11 := (hfin _ hE11).2.2.1; have hs11 : S.SliceOf w11 _ X := (hfin _ hE11).2.1.1)
                    | ((with_reducible refine (S.syms_T w11 v11 _ X X hL11 hs11 (by omega) (by omega)).mono ?_); rintro e w12 ⟨⟨q2, rfl, hq2⟩, hB12⟩; (obtain rfl : q2 = true := hq2.2 rfl); have hE12 := hE11.trans (hB12.mono hE11.size); have hh12 := (hfin _ hE12).2.2.1)
                    | ((with_reducible refine (S.from_T w12 (some ⟨s, 0, none⟩) at').mono ?_); rintro e w13 ⟨rfl, hw13⟩; have hst := from_world hw13; have hE13 := hE12.trans (hst.1.mono hE12.size); have hh13 := (hfin _ hE13).2.2.1; have Hst := Lib.hid hst.2; clear hw13 hst)
                    | (have hli := S.list_T 66 #[.pointer (some ⟨w12.heap.size, 0, none⟩), .pointer (some ⟨w12.heap.size + 1, 0, none⟩)] _ (X.drop (pos symCmp X at')) w13 (enters_of Try.func66 (by kernel_rfl) rfl) (S.from_stops 2 _ w12.heap.size (w12.heap.size + 1) s X at' _ Hst.out.1 Hst.out.2 (hfin _ hE13).1 (by omega) (Nat.le_refl _)) (by simp; omega) (Nat.le_refl _); (with_reducible refine hli.mono ?_); clear hli; rintro e w14 ⟨v14, rfl, hM14, hB14⟩; have hE14 := hE13.trans (hB14.mono hE13.size); have hL14 := (S.Made.ge hM14).slice; have hh14 := (hfin _ hE14).2.2.1; rw [HPe.out] at hL14)
                    | ((with_reducible refine (S.syms_T w14 v14 _ (X.drop co) (X.drop co) hL14 (hnil _ _ _ _ _ (by rw [List.length_drop]; omega) (by omega)) (by simp; omega) (by simp; omega)).mono ?_); rintro e w15 ⟨⟨q3, rfl, hq3⟩, hB15⟩; (obtain rfl : q3 = true := hq3.2 rfl); have hE15 := hE14.trans (hB15.mono hE14.size); have hh15 := (hfin _ hE15).2.2.1)
                    | ((with_reducible refine (wakes_T w15).mono ?_); rintro e w16 ⟨rfl, hB16⟩; have hE16 := hE15.trans (hB16.mono hE15.size); have hh16 := (hfin _ hE16).2.2.1)
                    | fail "no arm")
                go_wp2_with fail
                go_ret
                exact ⟨rfl, (hfin _ hE16).2.2.2⟩
              · skip
                go_wp2_with fail
                refine (S.all_T w7 (some ⟨s, 0, none⟩)).mono ?_
                rintro e w8 ⟨rfl, rfl⟩
                have hb8 : Below w7.heap.size w7 (w7.alloc (.cells #[.pointer (some ⟨s, 0, none⟩)] 23)) := (Below.refl _ w7).alloc (Nat.le_refl _) _
                have hbx := heap_alloc_new w7 (.cells #[.pointer (some ⟨s, 0, none⟩)] 23)
                generalize (w7.alloc (.cells #[.pointer (some ⟨s, 0, none⟩)] 23)) = w8 at hb8 hbx ⊢
                have hbl := lt_of_block hbx
                have hD8 : Below w7.heap.size w7 w8.drew := hb8.drew
                have hxc := (hfin _ hb8).2.2.1
                have hbd : w8.drew.heap[w7.heap.size]? = some (.cells #[.pointer (some ⟨s, 0, none⟩)] 23 (0, 0)) := hbx
                have hfi := S.first_T 64 #[.pointer (some ⟨w7.heap.size, 0, none⟩)] _ X w8.drew m (enters_of Try.func64 (by kernel_rfl) rfl)
                  (S.all_stops 2 _ w7.heap.size s X _ hbd (hfin _ hD8).1 (by omega) (Nat.le_refl _)) (by omega) (by omega) (Nat.le_refl _)
                rw [Htm.out] at hfi
                have Hbd := Lib.hid hbd
                clear hbx hbd
                go_wp2_with fail
                go_region_held3 (fun W => W.cell? ⟨w.heap.size, 0, none⟩ = some (.int .i64 at'.k) ∧ W.cell? ⟨w.heap.size, 1, none⟩ = some (.string at'.t) ∧ W.cell? ⟨w.heap.size, 2, none⟩ = some (.int .i64 at'.n))
                  (first | go_keep | assumption)
                  (first
                    | ((with_reducible refine hfi.mono ?_); rintro e w9 ⟨v9, rfl, hM9, hB9⟩; have hE9 := hD8.trans (hB9.mono hD8.size); have hL9 := (S.Made.ge hM9).slice; have hh9 := (hfin _ hE9).2.2.1; have ht9 : S.SliceOf w9 _ X := (hfin _ hE9).2.1.1)
                    | ((with_reducible refine (S.syms_T w9 v9 _ (X) (X) hL9 ht9 (by first | omega | (simp; done) | (simp; omega)) (by first | omega | (simp; done) | (simp; omega))).mono ?_); rintro e w10 ⟨⟨q1, rfl, hq1⟩, hB10⟩; (obtain rfl : q1 = true := hq1.2 rfl); have hE10 := hE9.trans (hB10.mono hE9.size); have hh10 := (hfin _ hE10).2.2.1; have Hbx10 := Lib.hid (((hB9.trans (hB10.mono hB9.size)).block _ hbl).trans Hbd.out))
                    | (have hli := S.list_T 64 #[.pointer (some ⟨w7.heap.size, 0, none⟩)] _ X w10 (enters_of Try.func64 (by kernel_rfl) rfl) (S.all_stops 2 _ w7.heap.size s X _ Hbx10.out (hfin _ hE10).1 (by omega) (Nat.le_refl _)) (by omega) (Nat.le_refl _); (with_reducible refine hli.mono ?_); clear hli; rintro e w11 ⟨v11, rfl, hM11, hB11⟩; have hE11 := hE10.trans (hB11.mono hE10.size); have hL11 := (S.Made.ge hM11).slice; have hh11 := (hfin _ hE11).2.2.1; have hs11 : S.SliceOf w11 _ X := (hfin _ hE11).2.1.1)
                    | ((with_reducible refine (S.syms_T w11 v11 _ X X hL11 hs11 (by omega) (by omega)).mono ?_); rintro e w12 ⟨⟨q2, rfl, hq2⟩, hB12⟩; (obtain rfl : q2 = true := hq2.2 rfl); have hE12 := hE11.trans (hB12.mono hE11.size); have hh12 := (hfin _ hE12).2.2.1)
                    | ((with_reducible refine (S.from_T w12 (some ⟨s, 0, none⟩) at').mono ?_); rintro e w13 ⟨rfl, hw13⟩; have hst := from_world hw13; have hE13 := hE12.trans (hst.1.mono hE12.size); have hh13 := (hfin _ hE13).2.2.1; have Hst := Lib.hid hst.2; clear hw13 hst)
                    | (have hli := S.list_T 66 #[.pointer (some ⟨w12.heap.size, 0, none⟩), .pointer (some ⟨w12.heap.size + 1, 0, none⟩)] _ (X.drop (pos symCmp X at')) w13 (enters_of Try.func66 (by kernel_rfl) rfl) (S.from_stops 2 _ w12.heap.size (w12.heap.size + 1) s X at' _ Hst.out.1 Hst.out.2 (hfin _ hE13).1 (by omega) (Nat.le_refl _)) (by simp; omega) (Nat.le_refl _); (with_reducible refine hli.mono ?_); clear hli; rintro e w14 ⟨v14, rfl, hM14, hB14⟩; have hE14 := hE13.trans (hB14.mono hE13.size); have hL14 := (S.Made.ge hM14).slice; have hh14 := (hfin _ hE14).2.2.1; rw [HPe.out] at hL14)
                    | ((with_reducible refine (S.syms_T w14 v14 _ (X.drop P) (X.drop P) hL14 (own_drop (hfin _ hE14).2.1 P) (by simp; omega) (by simp; omega)).mono ?_); rintro e w15 ⟨⟨q3, rfl, hq3⟩, hB15⟩; (obtain rfl : q3 = true := hq3.2 rfl); have hE15 := hE14.trans (hB15.mono hE14.size); have hh15 := (hfin _ hE15).2.2.1)
                    | ((with_reducible refine (wakes_T w15).mono ?_); rintro e w16 ⟨rfl, hB16⟩; have hE16 := hE15.trans (hB16.mono hE15.size); have hh16 := (hfin _ hE16).2.2.1)
                    | fail "no arm")
                go_wp2_with fail
                go_ret
                exact ⟨rfl, (hfin _ hE16).2.2.2⟩

theorem seqs_big (w : World) (v : Value) (xs : List SymV) (at' : SymV) (n : Int) (hv : S.SliceOf w v xs) (hx : 60 < xs.length) :
    Calls Try.prog 5 #[v, .agg #[.int .i64 at'.k, .string at'.t, .int .i64 at'.n], .int .i64 n] w fun e w' => e = .returned (.bool true) ∧ Below w.heap.size w w' := by
  obtain ⟨a1, cap1, rfl, -⟩ := hv
  go_enter Try.func5, Try.ntmps5
  go_wp2_with fail
  have hB0 : Below w.heap.size w (w.alloc (.cells #[.int .i64 at'.k, .string at'.t, .int .i64 at'.n] 26)) := (Below.refl _ w).alloc (Nat.le_refl _) _
  generalize (w.alloc (.cells #[.int .i64 at'.k, .string at'.t, .int .i64 at'.n] 26)) = W0 at hB0 ⊢
  refine (wakes_T W0).mono ?_
  rintro e w1 ⟨rfl, hb⟩
  go_wp2_with fail
  go_ret
  exact ⟨rfl, hB0.trans (hb.mono hB0.size)⟩

theorem seqs_any (w : World) (v : Value) (xs : List SymV) (at' : SymV) (n : Int) (hv : S.SliceOf w v xs) :
    Calls Try.prog 5 #[v, .agg #[.int .i64 at'.k, .string at'.t, .int .i64 at'.n], .int .i64 n] w fun e w' => e = .returned (.bool true) ∧ Below w.heap.size w w' := by
  by_cases h1 : xs.length ≤ 60
  · exact seqs_walk w v xs at' n hv h1
  · exact seqs_big w v xs at' n hv (by omega)

end Go.Proofs.Ytpkkdmhmnmjebaa
