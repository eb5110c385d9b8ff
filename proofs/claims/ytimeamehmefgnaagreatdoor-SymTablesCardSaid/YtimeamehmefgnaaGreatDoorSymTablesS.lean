/- SymTables returns true, whatever it is given. Conditions: strconv's table of powers and its two errors lie as the program lays them; the list of calls lies in memory. -/
import Derived.Test.YtimeamehmefgnaaGreatDoorRefTabWS
import Derived.Test.YtimeamehmefgnaaGreatDoorWakesSS
import Derived.Test.YtimeamehmefgnaaGreatDoorActs4
import Derived.Test.YtimeamehmefgnaaGreatDoorSymEq
namespace Go.Proofs.YtimeamehmefgnaaGreatDoor
open Go Go.RowKit Go.Shelf

theorem putE_room2 {L xs : List SymV} {room : Int} (h : (L.length : Int) ≤ room) : ((putE L xs room).2.length : Int) ≤ room := by
  unfold putE
  split
  · split
    · assumption
    · exact h
  · exact h

theorem freshE_room {L : List SymV} {room c : Int} (h : (L.length : Int) ≤ room) : ((freshE L room c).2.2.length : Int) ≤ room := by
  unfold freshE
  split
  · split
    · rename_i h1 h2
      have h3 : (put symCmp L (freshS c (maxN L c + 1))).length ≤ L.length + 1 := length_put symCmp L _
      have h4 := h2.1
      show (((put symCmp L (freshS c (maxN L c + 1))).length : Nat) : Int) ≤ room
      omega
    · exact h
  · exact h

theorem But.below1 {s B : Nat} {a w w' : World} (h : Below B a w) (hb : But s w w') (hs : B ≤ s) (hB : B ≤ w.heap.size) : Below B a w' :=
  ⟨hb.os.trans h.os, hb.tape.trans h.tape, hb.output.trans h.output, Nat.le_trans h.size hb.size, fun k hk => (hb.block k (by omega) (by omega)).trans (h.block k hk)⟩

theorem symtables_no (w : World) (room : Int) (v : Value) (hE : Env w) (h : room < 1 ∨ 4096 < room) :
    Calls Tryz.prog 3 #[.int .i64 room, v] w fun e w' => e = .returned (.bool true) ∧ Below w.heap.size w w' := by
  have hno := newtab_no w room h
  by_cases h1 : room < 1
  · have f1 : (room < 1) = True := eq_true h1
    clear h h1
    go_enter Tryz.func3, Tryz.ntmps3
    go_wp2_with fail
    refine hno.mono ?_
    rintro e _ ⟨rfl, rfl⟩
    go_wp2_with fail
    refine (wakes_T w hE).mono ?_
    rintro e w1 ⟨rfl, hB1⟩
    go_wp2_with fail
    go_ret
    exact ⟨rfl, hB1⟩
  · have f1 : (room < 1) = False := eq_false h1
    have f2 : (4096 < room) = True := eq_true (by omega)
    clear h h1
    go_enter Tryz.func3, Tryz.ntmps3
    go_wp2_with fail
    refine hno.mono ?_
    rintro e _ ⟨rfl, rfl⟩
    go_wp2_with fail
    refine (wakes_T w hE).mono ?_
    rintro e w1 ⟨rfl, hB1⟩
    go_wp2_with fail
    go_ret
    exact ⟨rfl, hB1⟩

theorem symtables_long (w : World) (room : Int) (v : Value) (acts : List A4) (hv : Acts4Of w v acts) (hE : Env w) (h1 : 1 ≤ room) (h2 : room ≤ 4096) (h : 100 < acts.length) :
    Calls Tryz.prog 3 #[.int .i64 room, v] w fun e w' => e = .returned (.bool true) ∧ Below w.heap.size w w' := by
  obtain ⟨a, cap, rfl, -⟩ := hv
  have f1 : (room < 1) = False := eq_false (by omega)
  have f2 : (4096 < room) = False := eq_false (by omega)
  have f3 : ((100 : Int) < (acts.length : Int)) = True := eq_true (by omega)
  have hnew := newtab_T w room h1 h2
  clear h h1 h2
  go_enter Tryz.func3, Tryz.ntmps3
  go_wp2_with fail
  refine hnew.mono ?_
  rintro e w1 ⟨t, s, m, ms, rfl, -, -, -, -, hB1⟩
  go_wp2_with fail
  refine (wakes_T w1 (hE.below hB1)).mono ?_
  rintro e w2 ⟨rfl, hB2⟩
  go_wp2_with fail
  go_ret
  exact ⟨rfl, hB1.trans (hB2.mono hB1.size)⟩

set_option maxRecDepth 100000 in
set_option maxHeartbeats 12800000 in
theorem symtables_short (w : World) (room : Int) (v : Value) (acts : List A4) (hv : Acts4Of w v acts) (hE : Env w) (h1 : 1 ≤ room) (h2 : room ≤ 4096) (h : acts.length ≤ 100) :
    Calls Tryz.prog 3 #[.int .i64 room, v] w fun e w' => e = .returned (.bool true) ∧ Below w.heap.size w w' := by
  have f1 : (room < 1) = False := eq_false (by omega)
  have f2 : (4096 < room) = False := eq_false (by omega)
  have f3 : ((100 : Int) < (acts.length : Int)) = False := eq_false (by omega)
  have hnew := newtab_T w room h1 h2
  obtain ⟨a, cap, rfl, hc⟩ := hv
  have Hc := Lib.hid hc
  clear hc
  go_enter Tryz.func3, Tryz.ntmps3
  go_wp2_with fail
  refine hnew.mono ?_
  rintro e w1 ⟨t, s, m, ms, rfl, ht, hsw, hmsw, hT1, hB1⟩
  obtain ⟨ls1, ls2⟩ := Table.lt2 hT1
  have hBr : Below w1.heap.size w1 (w1.alloc (.cells #[.int .i64 room, .slice none 0 0] 31)) := (Below.refl _ w1).alloc (Nat.le_refl _) _
  have hbr := heap_alloc_new w1 (.cells #[.int .i64 room, .slice none 0 0] 31)
  have hszr : (w1.alloc (.cells #[.int .i64 room, .slice none 0 0] 31)).heap.size = w1.heap.size + 1 := by simp
  have hTr := hT1.below hBr
  have hCr := hB1.trans (hBr.mono hB1.size)
  have hrw0 := hB1.size
  clear hT1 hnew
  go_wp2_with fail
  generalize (w1.alloc (.cells #[.int .i64 room, .slice none 0 0] 31)) = wl at hBr hbr hszr hTr hCr ⊢
  obtain ⟨r, hr⟩ : ∃ r, w1.heap.size = r := ⟨_, rfl⟩
  obtain ⟨H, hH⟩ : ∃ H, r + 1 = H := ⟨_, rfl⟩
  rw [hr] at hbr hszr ls1 ls2 hrw0 ⊢
  have hHr : H ≤ r + 1 := by omega
  have hrH : r < H := by omega
  have hsH : s < H := by omega
  have hmsH : ms < H := by omega
  have hrs : r ≠ s := by omega
  have hrms : r ≠ ms := by omega
  have hrw : w.heap.size ≤ r := hrw0
  have hHl : H ≤ wl.heap.size := by omega
  have hRl : RTabAt H wl r room (.slice none 0 0) [] := ⟨hbr, ⟨none, 0, rfl, .inl rfl⟩, by rintro a n c e; cases e; exact ⟨Nat.le_refl _, fun _ => rfl⟩, List.Pairwise.nil⟩
  clear hbr hszr hr hH hBr
  go_loopg [8] (acts.length - 0) (fun k i wr => ∃ (q : Nat) (v' : Value) (L : List SymV), i = .int .i64 q ∧ v' = v' ∧ q ≤ acts.length ∧ Hid (k = acts.length - q) ∧ Below w.heap.size w wr ∧ Hid (TableAt wr t s m ms L room) ∧ Hid (RTabAt H wr r room v' L) ∧ Hid ((L.length : Int) ≤ room))
  case atStart => exact ⟨0, .slice none 0 0, [], rfl, rfl, by omega, Lib.hid rfl, hCr, Lib.hid hTr, Lib.hid hRl, Lib.hid (by simp; omega)⟩
  case round =>
    obtain ⟨q, v', L, rfl, -, hq, Hk, hC, HT, HR, HL⟩ := hrel
    have hlr := HL.out
    have hwr := hC.size
    have hsl := HT.out.2.1.lt
    obtain ⟨ls3, ls4⟩ := Table.lt2 HT.out
    have hrl : r < wr.heap.size := lt_of_block HR.out.1
    by_cases hlt : q < acts.length
    · obtain ⟨b, off, rfl, hel⟩ : ∃ b off, a = some ⟨b, off, none⟩ ∧ ∀ (i : Nat) (x : A4), acts[i]? = some x → A4At w b (off + i * 6) x ∧ S.SliceOf w x.v x.l := by
        rcases Hc.out with h | h
        · rw [h] at hlt; simp at hlt
        · exact h
      obtain ⟨y, hy⟩ : ∃ y, acts[q]? = some y := ⟨acts[q], by simp [hlt]⟩
      obtain ⟨hat, hsy⟩ := hel q y hy
      have hbl : b < w.heap.size := World.block_lt_of_cell? w _ hat.1
      obtain ⟨e0, e1, e2, e3, e4, e5⟩ := hat.below hC hbl
      have Hsl := Lib.hid (fun W (hB : Below w.heap.size w W) => hsy.below hB)
      clear hel hy hat hsy
      have hB2 : Below wr.heap.size wr (wr.alloc (.cells #[.int .i64 y.d, .int .u8 y.c, .int .i64 y.s.k, .string y.s.t, .int .i64 y.s.n, .slice y.a y.l.length y.cap] 35)) := (Below.refl _ wr).alloc (Nat.le_refl _) _
      have hb2 := heap_alloc_new wr (.cells #[.int .i64 y.d, .int .u8 y.c, .int .i64 y.s.k, .string y.s.t, .int .i64 y.s.n, .slice y.a y.l.length y.cap] 35)
      have hT2 := HT.out.below hB2
      have hR2 := HR.out.below hB2
      have hC2 := hC.trans (hB2.mono hC.size)
      have hH2 : H ≤ (wr.alloc (.cells #[.int .i64 y.d, .int .u8 y.c, .int .i64 y.s.k, .string y.s.t, .int .i64 y.s.n, .slice y.a y.l.length y.cap] 35)).heap.size := by have := lt_of_block hR2.1; omega
      have hval := hT2.2.2.2
      by_cases hbig : 20 < y.l.length ∨ 100 < y.s.t.size
      · by_cases hb1 : 20 < y.l.length
        · have g1 : ((20 : Int) < (y.l.length : Int)) = True := eq_true (by omega)
          clear hbig hb1
          go_wp2_with fail
          refine (wakes_T _ (hE.below hC2)).mono ?_
          rintro e w3 ⟨rfl, hB3⟩
          go_wp2_with fail
          go_ret
          exact ⟨rfl, hC2.trans (hB3.mono hC2.size)⟩
        · have g1 : ((20 : Int) < (y.l.length : Int)) = False := eq_false (by omega)
          have g2 : ((100 : Int) < (y.s.t.size : Int)) = True := eq_true (by omega)
          clear hbig hb1
          go_wp2_with fail
          refine (wakes_T _ (hE.below hC2)).mono ?_
          rintro e w3 ⟨rfl, hB3⟩
          go_wp2_with fail
          go_ret
          exact ⟨rfl, hC2.trans (hB3.mono hC2.size)⟩
      · have g1 : ((20 : Int) < (y.l.length : Int)) = False := eq_false (by omega)
        have g2 : ((100 : Int) < (y.s.t.size : Int)) = False := eq_false (by omega)
        have hyl : y.l.length ≤ 20 := by omega
        clear hbig
        go_wp2_with fail
        generalize (wr.alloc (.cells #[.int .i64 y.d, .int .u8 y.c, .int .i64 y.s.k, .string y.s.t, .int .i64 y.s.n, .slice y.a y.l.length y.cap] 35)) = w2 at hB2 hb2 hT2 hR2 hC2 hH2 ⊢
        have HX := Lib.hid (fun (W : World) (h : ∀ k, k < w2.heap.size → k ≠ s → k ≠ ms → k ≠ r → W.heap[k]? = w2.heap[k]?) => (by
          have := (h _ (lt_of_block hb2) (by omega) (by omega) (by omega)).trans hb2
          simp [World.cell?, this] : W.cell? ⟨wr.heap.size, 0, none⟩ = some (.int .i64 y.d) ∧ W.cell? ⟨wr.heap.size, 1, none⟩ = some (.int .u8 y.c) ∧ W.cell? ⟨wr.heap.size, 2, none⟩ = some (.int .i64 y.s.k) ∧ W.cell? ⟨wr.heap.size, 3, none⟩ = some (.string y.s.t) ∧ W.cell? ⟨wr.heap.size, 4, none⟩ = some (.int .i64 y.s.n) ∧ W.cell? ⟨wr.heap.size, 5, none⟩ = some (.slice y.a y.l.length y.cap)))
        have Hb2 := Lib.hid hb2
        clear e0 e1 e2 e3 e4 e5 hb2
        refine (within_any w2 y.d 6 (by decide) (by decide)).mono ?_
        rintro e w' ⟨⟨k, rfl, hk⟩, hww⟩
        obtain rfl := hww.symm
        have hk6 : k < 6 := by omega
        clear hk
        rcases k with _ | _ | _ | _ | _ | _ | k
        · go_wp2_with fail
          obtain ⟨E, hE⟩ : ∃ E, (putE L y.l room).1 = E := ⟨_, rfl⟩
          obtain ⟨L2, hL2⟩ : ∃ L2, (putE L y.l room).2 = L2 := ⟨_, rfl⟩
          have Hl2 := Lib.hid (show (L2.length : Int) ≤ room by rw [← hL2]; exact putE_room2 hlr)
          have k1 := tabput_any w2.drew t s m ms L room y.v y.l (hT2.below (Below.refl _ _).drew) (by omega) (Hsl.out _ hC2.drew) (by omega)
          rw [hE, hL2] at k1
          have k1b := fun (W : World) (hR : RTabAt H W r room v' L) (hH : H ≤ W.heap.size) (hC : Below w.heap.size w W) => reftabput_T H W r room v' y.v L y.l hR hH hrH (by omega) (Hsl.out _ hC) (by omega)
          rw [hE, hL2] at k1b
          have Hk1b := Lib.hid k1b
          obtain ⟨-, -, -, -, -, x5⟩ := HX.out w2 (fun k _ _ _ _ => rfl)
          have HT2 := Lib.hid hT2
          have HR2 := Lib.hid hR2
          clear hE hL2 k1b hT2 hR2
          go_region_held3 (fun W => W.cell? ⟨wr.heap.size, 5, none⟩ = some (.slice y.a y.l.length y.cap))
            (first | go_keep | assumption)
            (first
              | ((with_reducible refine k1.mono ?_); rintro e w3 ⟨rfl, hT3, hb3⟩; have hb3' : But2 s ms w2 w3 := (But2.of_below (Below.refl _ _).drew).trans hb3; have hR3 := HR2.out.but2 hb3' hsH hmsH hrs hrms; have hC3 := But2.below hC2 hb3' hsw hmsw hC2.size; have x5b : w3.cell? ⟨wr.heap.size, 5, none⟩ = some (.slice y.a y.l.length y.cap) := (HX.out w3 (fun k h1 h2 h3 _ => hb3'.block k h1 h2 h3)).2.2.2.2.2; have k2 := Hk1b.out w3 hR3 (Nat.le_trans hH2 hb3'.size) hC3)
              | ((with_reducible refine k2.mono ?_); rintro e w4 ⟨rfl, ⟨v4, hR4⟩, hb4⟩; have hb4' := (fun k (h1 : k < w2.heap.size) (h2 : k ≠ s) (h3 : k ≠ ms) (h4 : k ≠ r) => (hb4.block k (Nat.lt_of_lt_of_le h1 hb3'.size) h4).trans (hb3'.block k h1 h2 h3)); have x5c : w4.cell? ⟨wr.heap.size, 5, none⟩ = some (.slice y.a y.l.length y.cap) := (HX.out w4 hb4').2.2.2.2.2)
              | fail "no arm")
          have hT4 := hT3.but hb4 hR3.1 (by decide) (by decide) (by decide) (by decide) (by decide) (by decide)
          have hC4 : Below w.heap.size w w4 := But.below1 hC3 hb4 hrw hC3.size
          clear k1 k2 hT3 hR3 x5 x5b x5c
          obtain ⟨a2, cap2, rfl, -⟩ := id hR4.2.1
          obtain ⟨-, c1, -⟩ := hR4.cells
          have c1d : w4.drew.cell? ⟨r, 1, none⟩ = some (.slice a2 L2.length cap2) := c1
          have hln := tablen_T w4.drew t s m ms L2 room (hT4.below (Below.refl _ _).drew)
          have HT9 := Lib.hid hT4
          have HR9 := Lib.hid hR4
          have HC9 := Lib.hid hC4
          clear hT4 hR4 hC4
          go_wp2_with fail
          go_region_held3 (fun W => W.cell? ⟨r, 1, none⟩ = some (.slice a2 L2.length cap2))
            (first | go_keep | assumption)
            (first
              | ((with_reducible refine hln.mono ?_); rintro e w9 ⟨rfl, rfl⟩; have hS9 := c1d)
              | fail "no arm")
          go_wp2_with fail
          go_roundg (acts.length - (q + 1))
          case measure => rw [Hk.out]; omega
          case rel => exact ⟨q + 1, .slice a2 L2.length cap2, L2, by go_num, by trivial, by omega, Lib.hid rfl, HC9.out.drew, Lib.hid (HT9.out.below (Below.refl _ _).drew), Lib.hid (HR9.out.below (Below.refl _ _).drew), Hl2⟩
        · go_wp2_with fail
          obtain ⟨E, hE⟩ : ∃ E, (putE L y.l room).1 = E := ⟨_, rfl⟩
          obtain ⟨L2, hL2⟩ : ∃ L2, (putE L y.l room).2 = L2 := ⟨_, rfl⟩
          have Hl2 := Lib.hid (show (L2.length : Int) ≤ room by rw [← hL2]; exact putE_room2 hlr)
          have k1 := tabput_any w2.drew t s m ms L room y.v y.l (hT2.below (Below.refl _ _).drew) (by omega) (Hsl.out _ hC2.drew) (by omega)
          rw [hE, hL2] at k1
          have k1b := fun (W : World) (hR : RTabAt H W r room v' L) (hH : H ≤ W.heap.size) (hC : Below w.heap.size w W) => reftabput_T H W r room v' y.v L y.l hR hH hrH (by omega) (Hsl.out _ hC) (by omega)
          rw [hE, hL2] at k1b
          have Hk1b := Lib.hid k1b
          obtain ⟨-, -, -, -, -, x5⟩ := HX.out w2 (fun k _ _ _ _ => rfl)
          have HT2 := Lib.hid hT2
          have HR2 := Lib.hid hR2
          clear hE hL2 k1b hT2 hR2
          go_region_held3 (fun W => W.cell? ⟨wr.heap.size, 5, none⟩ = some (.slice y.a y.l.length y.cap))
            (first | go_keep | assumption)
            (first
              | ((with_reducible refine k1.mono ?_); rintro e w3 ⟨rfl, hT3, hb3⟩; have hb3' : But2 s ms w2 w3 := (But2.of_below (Below.refl _ _).drew).trans hb3; have hR3 := HR2.out.but2 hb3' hsH hmsH hrs hrms; have hC3 := But2.below hC2 hb3' hsw hmsw hC2.size; have x5b : w3.cell? ⟨wr.heap.size, 5, none⟩ = some (.slice y.a y.l.length y.cap) := (HX.out w3 (fun k h1 h2 h3 _ => hb3'.block k h1 h2 h3)).2.2.2.2.2; have k2 := Hk1b.out w3 hR3 (Nat.le_trans hH2 hb3'.size) hC3)
              | ((with_reducible refine k2.mono ?_); rintro e w4 ⟨rfl, ⟨v4, hR4⟩, hb4⟩; have hb4' := (fun k (h1 : k < w2.heap.size) (h2 : k ≠ s) (h3 : k ≠ ms) (h4 : k ≠ r) => (hb4.block k (Nat.lt_of_lt_of_le h1 hb3'.size) h4).trans (hb3'.block k h1 h2 h3)); have x5c : w4.cell? ⟨wr.heap.size, 5, none⟩ = some (.slice y.a y.l.length y.cap) := (HX.out w4 hb4').2.2.2.2.2)
              | fail "no arm")
          have hT4 := hT3.but hb4 hR3.1 (by decide) (by decide) (by decide) (by decide) (by decide) (by decide)
          have hC4 : Below w.heap.size w w4 := But.below1 hC3 hb4 hrw hC3.size
          clear k1 k2 hT3 hR3 x5 x5b x5c
          obtain ⟨a2, cap2, rfl, -⟩ := id hR4.2.1
          obtain ⟨-, c1, -⟩ := hR4.cells
          have c1d : w4.drew.cell? ⟨r, 1, none⟩ = some (.slice a2 L2.length cap2) := c1
          have hln := tablen_T w4.drew t s m ms L2 room (hT4.below (Below.refl _ _).drew)
          have HT9 := Lib.hid hT4
          have HR9 := Lib.hid hR4
          have HC9 := Lib.hid hC4
          clear hT4 hR4 hC4
          go_wp2_with fail
          go_region_held3 (fun W => W.cell? ⟨r, 1, none⟩ = some (.slice a2 L2.length cap2))
            (first | go_keep | assumption)
            (first
              | ((with_reducible refine hln.mono ?_); rintro e w9 ⟨rfl, rfl⟩; have hS9 := c1d)
              | fail "no arm")
          go_wp2_with fail
          go_roundg (acts.length - (q + 1))
          case measure => rw [Hk.out]; omega
          case rel => exact ⟨q + 1, .slice a2 L2.length cap2, L2, by go_num, by trivial, by omega, Lib.hid rfl, HC9.out.drew, Lib.hid (HT9.out.below (Below.refl _ _).drew), Lib.hid (HR9.out.below (Below.refl _ _).drew), Hl2⟩
        · obtain ⟨E, hE⟩ : ∃ E, (freshE L room y.c).1 = E := ⟨_, rfl⟩
          obtain ⟨X, hX⟩ : ∃ X, (freshE L room y.c).2.1 = X := ⟨_, rfl⟩
          obtain ⟨L2, hL2⟩ : ∃ L2, (freshE L room y.c).2.2 = L2 := ⟨_, rfl⟩
          have Hl2 := Lib.hid (show (L2.length : Int) ≤ room by rw [← hL2]; exact freshE_room hlr)
          have k1 := fresh_any w2 t s m ms L room y.c hT2 (by omega)
          have k2 := fun (W : World) hR hH => reftabfresh_T H W r room y.c v' L hR hH hrH hval (by omega)
          rw [hE, hX, hL2] at k1 k2
          have hs1 : same ⟨X.k, X.t, X.n⟩ ⟨X.k, X.t, X.n⟩ = true := same_iff.2 rfl
          have hsq := sym_eql
          have Hk2 := Lib.hid k2
          obtain ⟨-, x1, -⟩ := HX.out w2 (fun k _ _ _ _ => rfl)
          clear hE hX hL2 k2
          go_wp2_with fail
          refine k1.mono ?_
          rintro e w3 ⟨rfl, hT3, hb3⟩
          have hR3 := hR2.but2 hb3 hsH hmsH hrs hrms
          have hC3 := But2.below hC2 hb3 hsw hmsw hC2.size
          have hBa := box1_S w3 X
          have hba := heap_alloc_new w3 (.cells #[.int .i64 X.k, .string X.t, .int .i64 X.n] 33)
          have hTa := hT3.below hBa
          have hRa := hR3.below hBa
          have hCa := hC3.trans (hBa.mono hC3.size)
          have x1a : (w3.alloc (.cells #[.int .i64 X.k, .string X.t, .int .i64 X.n] 33)).cell? ⟨wr.heap.size, 1, none⟩ = some (.int .u8 y.c) := (HX.out _ (fun k h1 h2 h3 _ => (hBa.block k (Nat.lt_of_lt_of_le h1 hb3.size)).trans (hb3.block k h1 h2 h3))).2.1
          clear hT2 hR2 hT3 hR3 k1 x1
          go_wp2_with fail
          generalize (w3.alloc (.cells #[.int .i64 X.k, .string X.t, .int .i64 X.n] 33)) = wa at hBa hba hTa hRa hCa x1a ⊢
          refine (Hk2.out wa hRa (Nat.le_trans hH2 (Nat.le_trans hb3.size hBa.size))).mono ?_
          rintro e w4 ⟨rfl, ⟨v4, hR4⟩, hb4⟩
          have hT4 := hTa.but hb4 hRa.1 (by decide) (by decide) (by decide) (by decide) (by decide) (by decide)
          have hC4 : Below w.heap.size w w4 := But.below1 hCa hb4 hrw hCa.size
          have hba4 := (hb4.block _ (lt_of_block hba) (by have := hb3.size; omega)).trans hba
          have hBe := box1_S w4 X
          have hbe := heap_alloc_new w4 (.cells #[.int .i64 X.k, .string X.t, .int .i64 X.n] 33)
          have hTe := hT4.below hBe
          have hRe := hR4.below hBe
          have hCe := hC4.trans (hBe.mono hC4.size)
          have hbae := (hBe.block _ (lt_of_block hba4)).trans hba4
          have hz : ∀ W : World, W.heap[w3.heap.size]? = some (.cells #[.int .i64 X.k, .string X.t, .int .i64 X.n] 33 (0, 0)) → (W.cell? ⟨w3.heap.size, 0, none⟩ = some (.int .i64 X.k) ∧ W.cell? ⟨w3.heap.size, 1, none⟩ = some (.string X.t) ∧ W.cell? ⟨w3.heap.size, 2, none⟩ = some (.int .i64 X.n)) := by
            intro W h
            simp [World.cell?, h]
          obtain ⟨z0, z1, z2⟩ := hz _ hbae
          clear hz
          have n1 : ¬ w4.heap.size = w3.heap.size := by have := lt_of_block hba4; omega
          have n2 : ¬ w3.heap.size = w4.heap.size := by have := lt_of_block hba4; omega
          clear hTa hRa hT4 hR4 hba hba4 x1a hCa hC4 hbae
          go_wp2_with fail
          generalize (w4.alloc (.cells #[.int .i64 X.k, .string X.t, .int .i64 X.n] 33)) = we at hBe hbe hTe hRe hCe ⊢
          clear hbe z0 z1 z2
          obtain ⟨a2, cap2, rfl, -⟩ := id hRe.2.1
          obtain ⟨-, c1, -⟩ := hRe.cells
          have c1d : we.drew.cell? ⟨r, 1, none⟩ = some (.slice a2 L2.length cap2) := c1
          have hln := tablen_T we.drew t s m ms L2 room (hTe.below (Below.refl _ _).drew)
          have HT9 := Lib.hid hTe
          have HR9 := Lib.hid hRe
          have HC9 := Lib.hid hCe
          clear hTe hRe hCe
          go_region_held3 (fun W => W.cell? ⟨r, 1, none⟩ = some (.slice a2 L2.length cap2))
            (first | go_keep | assumption)
            (first
              | ((with_reducible refine hln.mono ?_); rintro e w9 ⟨rfl, rfl⟩; have hS9 := c1d)
              | fail "no arm")
          go_wp2_with fail
          go_roundg (acts.length - (q + 1))
          case measure => rw [Hk.out]; omega
          case rel => exact ⟨q + 1, .slice a2 L2.length cap2, L2, by go_num, by trivial, by omega, Lib.hid rfl, HC9.out.drew, Lib.hid (HT9.out.below (Below.refl _ _).drew), Lib.hid (HR9.out.below (Below.refl _ _).drew), Hl2⟩
        · obtain ⟨E, hE⟩ : ∃ E, (freshE L room y.c).1 = E := ⟨_, rfl⟩
          obtain ⟨X, hX⟩ : ∃ X, (freshE L room y.c).2.1 = X := ⟨_, rfl⟩
          obtain ⟨L2, hL2⟩ : ∃ L2, (freshE L room y.c).2.2 = L2 := ⟨_, rfl⟩
          have Hl2 := Lib.hid (show (L2.length : Int) ≤ room by rw [← hL2]; exact freshE_room hlr)
          have k1 := fresh_any w2 t s m ms L room y.c hT2 (by omega)
          have k2 := fun (W : World) hR hH => reftabfresh_T H W r room y.c v' L hR hH hrH hval (by omega)
          rw [hE, hX, hL2] at k1 k2
          have hs1 : same ⟨X.k, X.t, X.n⟩ ⟨X.k, X.t, X.n⟩ = true := same_iff.2 rfl
          have hsq := sym_eql
          have Hk2 := Lib.hid k2
          obtain ⟨-, x1, -⟩ := HX.out w2 (fun k _ _ _ _ => rfl)
          clear hE hX hL2 k2
          go_wp2_with fail
          refine k1.mono ?_
          rintro e w3 ⟨rfl, hT3, hb3⟩
          have hR3 := hR2.but2 hb3 hsH hmsH hrs hrms
          have hC3 := But2.below hC2 hb3 hsw hmsw hC2.size
          have hBa := box1_S w3 X
          have hba := heap_alloc_new w3 (.cells #[.int .i64 X.k, .string X.t, .int .i64 X.n] 33)
          have hTa := hT3.below hBa
          have hRa := hR3.below hBa
          have hCa := hC3.trans (hBa.mono hC3.size)
          have x1a : (w3.alloc (.cells #[.int .i64 X.k, .string X.t, .int .i64 X.n] 33)).cell? ⟨wr.heap.size, 1, none⟩ = some (.int .u8 y.c) := (HX.out _ (fun k h1 h2 h3 _ => (hBa.block k (Nat.lt_of_lt_of_le h1 hb3.size)).trans (hb3.block k h1 h2 h3))).2.1
          clear hT2 hR2 hT3 hR3 k1 x1
          go_wp2_with fail
          generalize (w3.alloc (.cells #[.int .i64 X.k, .string X.t, .int .i64 X.n] 33)) = wa at hBa hba hTa hRa hCa x1a ⊢
          refine (Hk2.out wa hRa (Nat.le_trans hH2 (Nat.le_trans hb3.size hBa.size))).mono ?_
          rintro e w4 ⟨rfl, ⟨v4, hR4⟩, hb4⟩
          have hT4 := hTa.but hb4 hRa.1 (by decide) (by decide) (by decide) (by decide) (by decide) (by decide)
          have hC4 : Below w.heap.size w w4 := But.below1 hCa hb4 hrw hCa.size
          have hba4 := (hb4.block _ (lt_of_block hba) (by have := hb3.size; omega)).trans hba
          have hBe := box1_S w4 X
          have hbe := heap_alloc_new w4 (.cells #[.int .i64 X.k, .string X.t, .int .i64 X.n] 33)
          have hTe := hT4.below hBe
          have hRe := hR4.below hBe
          have hCe := hC4.trans (hBe.mono hC4.size)
          have hbae := (hBe.block _ (lt_of_block hba4)).trans hba4
          have hz : ∀ W : World, W.heap[w3.heap.size]? = some (.cells #[.int .i64 X.k, .string X.t, .int .i64 X.n] 33 (0, 0)) → (W.cell? ⟨w3.heap.size, 0, none⟩ = some (.int .i64 X.k) ∧ W.cell? ⟨w3.heap.size, 1, none⟩ = some (.string X.t) ∧ W.cell? ⟨w3.heap.size, 2, none⟩ = some (.int .i64 X.n)) := by
            intro W h
            simp [World.cell?, h]
          obtain ⟨z0, z1, z2⟩ := hz _ hbae
          clear hz
          have n1 : ¬ w4.heap.size = w3.heap.size := by have := lt_of_block hba4; omega
          have n2 : ¬ w3.heap.size = w4.heap.size := by have := lt_of_block hba4; omega
          clear hTa hRa hT4 hR4 hba hba4 x1a hCa hC4 hbae
          go_wp2_with fail
          generalize (w4.alloc (.cells #[.int .i64 X.k, .string X.t, .int .i64 X.n] 33)) = we at hBe hbe hTe hRe hCe ⊢
          clear hbe z0 z1 z2
          obtain ⟨a2, cap2, rfl, -⟩ := id hRe.2.1
          obtain ⟨-, c1, -⟩ := hRe.cells
          have c1d : we.drew.cell? ⟨r, 1, none⟩ = some (.slice a2 L2.length cap2) := c1
          have hln := tablen_T we.drew t s m ms L2 room (hTe.below (Below.refl _ _).drew)
          have HT9 := Lib.hid hTe
          have HR9 := Lib.hid hRe
          have HC9 := Lib.hid hCe
          clear hTe hRe hCe
          go_region_held3 (fun W => W.cell? ⟨r, 1, none⟩ = some (.slice a2 L2.length cap2))
            (first | go_keep | assumption)
            (first
              | ((with_reducible refine hln.mono ?_); rintro e w9 ⟨rfl, rfl⟩; have hS9 := c1d)
              | fail "no arm")
          go_wp2_with fail
          go_roundg (acts.length - (q + 1))
          case measure => rw [Hk.out]; omega
          case rel => exact ⟨q + 1, .slice a2 L2.length cap2, L2, by go_num, by trivial, by omega, Lib.hid rfl, HC9.out.drew, Lib.hid (HT9.out.below (Below.refl _ _).drew), Lib.hid (HR9.out.below (Below.refl _ _).drew), Hl2⟩
        · obtain ⟨hh, hhe⟩ : ∃ b, has symCmp L y.s = b := ⟨_, rfl⟩
          have k1 := tabhas_T w2.drew t s m ms L room y.s (hT2.below (Below.refl _ _).drew) (by omega)
          rw [hhe] at k1
          have hbt : r < w2.heap.size := lt_of_block hR2.1
          obtain ⟨a1, cap1, rfl, -⟩ := id hR2.2.1
          obtain ⟨-, -, x2, x3, x4, -⟩ := HX.out w2 (fun k _ _ _ _ => rfl)
          obtain ⟨-, c1, -⟩ := hR2.cells
          have HT2 := Lib.hid hT2
          have HR2 := Lib.hid hR2
          clear hT2 hR2
          go_wp2_with fail
          go_region_held3 (fun W => (W.cell? ⟨wr.heap.size, 2, none⟩ = some (.int .i64 y.s.k) ∧ W.cell? ⟨wr.heap.size, 3, none⟩ = some (.string y.s.t) ∧ W.cell? ⟨wr.heap.size, 4, none⟩ = some (.int .i64 y.s.n)) ∧ W.cell? ⟨r, 1, none⟩ = some (.slice a1 L.length cap1))
            (first | go_keep | assumption)
            (first
              | ((with_reducible refine k1.mono ?_); rintro e w3 ⟨rfl, hB3⟩; have hD3 : Below w2.heap.size w2 w3 := (Below.refl _ w2).drew.trans hB3; obtain ⟨-, -, y2, y3, y4, -⟩ := HX.out w3 (fun k h _ _ _ => hD3.block k h); have hR3 := HR2.out.below hD3; obtain ⟨-, c3, -⟩ := hR3.cells; have k2 := S.has_T w3 _ L y.s hR3.2.1.slice (by omega); rw [hhe] at k2; have hS3 : (w3.cell? ⟨wr.heap.size, 2, none⟩ = some (.int .i64 y.s.k) ∧ w3.cell? ⟨wr.heap.size, 3, none⟩ = some (.string y.s.t) ∧ w3.cell? ⟨wr.heap.size, 4, none⟩ = some (.int .i64 y.s.n)) ∧ w3.cell? ⟨r, 1, none⟩ = some (.slice a1 L.length cap1) := ⟨⟨y2, y3, y4⟩, c3⟩)
              | ((with_reducible refine k2.mono ?_); rintro e w4 ⟨rfl, hB4⟩; have hD4 : Below w2.heap.size w2 w4 := hD3.trans (hB4.mono hD3.size); obtain ⟨-, -, q2, q3, q4, -⟩ := HX.out w4 (fun k h _ _ _ => hD4.block k h); obtain ⟨-, c4, -⟩ := (HR2.out.below hD4).cells; have hS4 : (w4.cell? ⟨wr.heap.size, 2, none⟩ = some (.int .i64 y.s.k) ∧ w4.cell? ⟨wr.heap.size, 3, none⟩ = some (.string y.s.t) ∧ w4.cell? ⟨wr.heap.size, 4, none⟩ = some (.int .i64 y.s.n)) ∧ w4.cell? ⟨r, 1, none⟩ = some (.slice a1 L.length cap1) := ⟨⟨q2, q3, q4⟩, c4⟩)
              | fail "no arm")
          have hT4 := HT2.out.below hD4
          have hR4 := HR2.out.below hD4
          have hC4 := hC2.trans (hD4.mono hC2.size)
          clear k1 k2 hR3 x2 x3 x4 c1 y2 y3 y4 c3 hS3 q2 q3 q4 c4 hS4
          obtain ⟨-, c1, -⟩ := hR4.cells
          have c1d : w4.drew.cell? ⟨r, 1, none⟩ = some (.slice a1 L.length cap1) := c1
          have hln := tablen_T w4.drew t s m ms L room (hT4.below (Below.refl _ _).drew)
          have HT9 := Lib.hid hT4
          have HR9 := Lib.hid hR4
          have HC9 := Lib.hid hC4
          clear hT4 hR4 hC4
          go_wp2_with fail
          go_region_held3 (fun W => W.cell? ⟨r, 1, none⟩ = some (.slice a1 L.length cap1))
            (first | go_keep | assumption)
            (first
              | ((with_reducible refine hln.mono ?_); rintro e w9 ⟨rfl, rfl⟩; have hS9 := c1d)
              | fail "no arm")
          go_wp2_with fail
          go_roundg (acts.length - (q + 1))
          case measure => rw [Hk.out]; omega
          case rel => exact ⟨q + 1, .slice a1 L.length cap1, L, by go_num, by trivial, by omega, Lib.hid rfl, HC9.out.drew, Lib.hid (HT9.out.below (Below.refl _ _).drew), Lib.hid (HR9.out.below (Below.refl _ _).drew), HL⟩
        · obtain ⟨nx, hnx⟩ : ∃ n, nextV L y.c = n := ⟨_, rfl⟩
          have k1 := next_T w2.drew t s m ms L room y.c (hT2.below (Below.refl _ _).drew) (by omega)
          rw [hnx] at k1
          obtain ⟨-, x1, -⟩ := HX.out w2 (fun k _ _ _ _ => rfl)
          have HT2 := Lib.hid hT2
          have HR2 := Lib.hid hR2
          clear hT2 hR2
          go_wp2_with fail
          go_region_held3 (fun W => W.cell? ⟨wr.heap.size, 1, none⟩ = some (.int .u8 y.c))
            (first | go_keep | assumption)
            (first
              | ((with_reducible refine k1.mono ?_); rintro e w3 ⟨rfl, hB3⟩; have hD3 : Below w2.heap.size w2 w3 := (Below.refl _ w2).drew.trans hB3; have y1 := (HX.out w3 (fun k h _ _ _ => hD3.block k h)).2.1; have hR3 := HR2.out.below hD3; have k2 := refnext_T H w3 r room y.c _ L hR3 hval (by omega); rw [hnx] at k2)
              | ((with_reducible refine k2.mono ?_); rintro e w4 ⟨rfl, hB4⟩; have hD4 : Below w2.heap.size w2 w4 := hD3.trans (hB4.mono hD3.size); have z1 := (HX.out w4 (fun k h _ _ _ => hD4.block k h)).2.1)
              | fail "no arm")
          have hT4 := HT2.out.below hD4
          have hR4 := HR2.out.below hD4
          have hC4 := hC2.trans (hD4.mono hC2.size)
          clear k1 k2 hR3 x1 y1 z1
          obtain ⟨a2, cap2, rfl, -⟩ := id hR4.2.1
          obtain ⟨-, c1, -⟩ := hR4.cells
          have c1d : w4.drew.cell? ⟨r, 1, none⟩ = some (.slice a2 L.length cap2) := c1
          have hln := tablen_T w4.drew t s m ms L room (hT4.below (Below.refl _ _).drew)
          have HT9 := Lib.hid hT4
          have HR9 := Lib.hid hR4
          have HC9 := Lib.hid hC4
          clear hT4 hR4 hC4
          go_wp2_with fail
          go_region_held3 (fun W => W.cell? ⟨r, 1, none⟩ = some (.slice a2 L.length cap2))
            (first | go_keep | assumption)
            (first
              | ((with_reducible refine hln.mono ?_); rintro e w9 ⟨rfl, rfl⟩; have hS9 := c1d)
              | fail "no arm")
          go_wp2_with fail
          go_roundg (acts.length - (q + 1))
          case measure => rw [Hk.out]; omega
          case rel => exact ⟨q + 1, .slice a2 L.length cap2, L, by go_num, by trivial, by omega, Lib.hid rfl, HC9.out.drew, Lib.hid (HT9.out.below (Below.refl _ _).drew), Lib.hid (HR9.out.below (Below.refl _ _).drew), HL⟩
        · omega
    · obtain rfl : q = acts.length := by omega
      obtain ⟨a2, cap2, rfl, -⟩ := id HR.out.2.1
      obtain ⟨-, c1, -⟩ := HR.out.cells
      have k1 := taball_T wr.drew t s m ms L room (HT.out.below (Below.refl _ _).drew)
      have k2 := tablist_T wr.drew t s m ms L room (HT.out.below (Below.refl _ _).drew) (by omega)
      have hBa : Below wr.heap.size wr (wr.drew.alloc (.cells #[.pointer (some ⟨s, 0, none⟩)] 55)) := (Below.refl _ wr).drew.alloc (Nat.le_refl _) _
      have ca : (wr.drew.alloc (.cells #[.pointer (some ⟨s, 0, none⟩)] 55)).cell? ⟨r, 1, none⟩ = some (.slice a2 L.length cap2) := (HR.out.below hBa).cells.2.1
      go_wp2_with fail
      go_region_held3 (fun W => W.cell? ⟨r, 1, none⟩ = some (.slice a2 L.length cap2))
        (first | go_keep | assumption)
        (first
          | ((with_reducible refine k1.mono ?_); rintro e w3 ⟨rfl, rfl⟩; have ca1 := ca)
          | ((refine k2.mono ?_); rintro e w4 ⟨z, Bz, rfl, hBz, hMd, hB4⟩; have hD4 : Below wr.heap.size wr w4 := (Below.refl _ wr).drew.trans hB4; have hR4 := HR.out.below hD4; have c4 := hR4.cells.2.1; have k3 := S.syms_T w4 z _ L L hMd.ge.slice hR4.2.1.slice (by omega) (by omega))
          | ((with_reducible refine k3.mono ?_); rintro e w5 ⟨⟨bq, rfl, hbq⟩, hB5⟩; obtain rfl := hbq.2 (by trivial); have hD5 : Below wr.heap.size wr w5 := hD4.trans (hB5.mono hD4.size); have c5 := (HR.out.below hD5).cells.2.1; have k4 := wakes_T w5 (hE.below (hC.trans (hD5.mono hC.size))))
          | ((with_reducible refine k4.mono ?_); rintro e w6 ⟨rfl, hB6⟩; have hD6 : Below wr.heap.size wr w6 := hD5.trans (hB6.mono hD5.size); have c6 := (HR.out.below hD6).cells.2.1)
          | fail "no arm")
      go_wp2_with fail
      go_ret
      exact ⟨rfl, hC.trans (hD6.mono hC.size)⟩

theorem symtables_walk (w : World) (room : Int) (v : Value) (acts : List A4) (hv : Acts4Of w v acts) (hE : Env w) :
    Calls Tryz.prog 3 #[.int .i64 room, v] w fun e w' => e = .returned (.bool true) ∧ Below w.heap.size w w' := by
  by_cases h1 : room < 1 ∨ 4096 < room
  · exact symtables_no w room v hE h1
  · by_cases h2 : 100 < acts.length
    · exact symtables_long w room v acts hv hE (by omega) (by omega) h2
    · exact symtables_short w room v acts hv hE (by omega) (by omega) (by omega)

end Go.Proofs.YtimeamehmefgnaaGreatDoor
