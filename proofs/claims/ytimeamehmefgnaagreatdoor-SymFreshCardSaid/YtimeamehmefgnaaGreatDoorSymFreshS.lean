/- SymFresh returns true, whatever it is given. Conditions: strconv's table of powers and its two errors lie as the program lays them; the two lists lie in memory. -/
import Derived.Test.YtimeamehmefgnaaGreatDoorMgTab
import Derived.Test.YtimeamehmefgnaaGreatDoorWakesSS
import Derived.Test.YtimeamehmefgnaaGreatDoorBytesIn
import Derived.Test.YtimeamehmefgnaaGreatDoorSymEq
import Derived.Deep.RegionHeldLaw
namespace Go.Proofs.YtimeamehmefgnaaGreatDoor
open Go Go.RowKit Go.Shelf

theorem putE_room {L xs : List SymV} {room : Int} (h : (L.length : Int) ≤ room) : ((putE L xs room).2.length : Int) ≤ room := by
  unfold putE
  split
  · split
    · assumption
    · exact h
  · exact h

theorem fresh_facts {L L0 : List SymV} {c : Int} (hc : capI c = true) (h0 : ∀ x ∈ L0, x ∈ L) :
    (put symCmp L (freshS c (maxN L c + 1))).length = L.length + 1 ∧ has symCmp (put symCmp L (freshS c (maxN L c + 1))) (freshS c (maxN L c + 1)) = true ∧ has symCmp L0 (freshS c (maxN L c + 1)) = false ∧
    nextV (put symCmp L (freshS c (maxN L c + 1))) c = maxN L c + 1 + 1 ∧ ∀ x ∈ L, x ∈ put symCmp L (freshS c (maxN L c + 1)) := by
  have hh : hd (freshS c (maxN L c + 1)).t = c := (enc_cap hc).2.2
  have hi : isId c (freshS c (maxN L c + 1)) = true := by rw [isId_one rfl, hh]; simp
  refine ⟨put_new_length rfl (by rw [hh]; exact Int.le_refl _), (has_iff S.symCmp_exact).2 ((mem_put S.symCmp_exact).2 (.inl rfl)), ?_, ?_, fun x hx => (mem_put S.symCmp_exact).2 (.inr hx)⟩
  · rw [← Bool.not_eq_true, has_iff S.symCmp_exact]
    intro hm
    have := (maxN_is L c).2.1 _ (h0 _ hm) hi
    simp only [freshS] at this
    omega
  · rw [nextV, if_pos hc, maxN_put, if_pos hi]
    simp only [freshS]
    omega

theorem symfresh_long (w : World) (n : Int) (v u : Value) (zs : List Int) (xs : List SymV) (hv : BytesOf w v zs) (hu : S.SliceOf w u xs) (hE : Env w) (h : 80 < zs.length ∨ 20 < xs.length) :
    Calls Tryz.prog 4 #[.int .i64 n, v, u] w fun e w' => e = .returned (.bool true) ∧ Below w.heap.size w w' := by
  obtain ⟨a, cap, rfl, -⟩ := hv
  obtain ⟨b, cap2, rfl, -⟩ := hu
  go_enter Tryz.func4, Tryz.ntmps4
  go_wp2_with fail
  refine (within_any w n 60 (by decide) (by decide)).mono ?_
  rintro e w' ⟨⟨k, rfl, hk⟩, hww⟩
  obtain rfl := hww.symm
  have hw : IntKind.i64.wrap (1 + (k : Int)) = 1 + (k : Int) := IntWalk.i64_in _ (by omega)
  go_wp2_with fail
  refine (newtab_T _ (1 + (k : Int)) (by omega) (by omega)).mono ?_
  rintro e w1 ⟨t, s, m, ms, rfl, ht, hs, hms, hT1, hB1⟩
  by_cases h1 : 80 < zs.length
  · have f1 : ((80 : Int) < (zs.length : Int)) = True := eq_true (by omega)
    clear h h1
    go_wp2_with fail
    refine (wakes_T w1 (hE.below hB1)).mono ?_
    rintro e w2 ⟨rfl, hB2⟩
    go_wp2_with fail
    go_ret
    exact ⟨rfl, hB1.trans (hB2.mono hB1.size)⟩
  · have f1 : ((80 : Int) < (zs.length : Int)) = False := eq_false (by omega)
    have f2 : ((20 : Int) < (xs.length : Int)) = True := eq_true (by omega)
    clear h h1
    go_wp2_with fail
    refine (wakes_T w1 (hE.below hB1)).mono ?_
    rintro e w2 ⟨rfl, hB2⟩
    go_wp2_with fail
    go_ret
    exact ⟨rfl, hB1.trans (hB2.mono hB1.size)⟩

set_option maxRecDepth 100000 in
set_option maxHeartbeats 6400000 in
theorem symfresh_short (w : World) (n : Int) (v u : Value) (zs : List Int) (xs : List SymV) (hv : BytesOf w v zs) (hu : S.SliceOf w u xs) (hE : Env w) (hz : zs.length ≤ 80) (hx : xs.length ≤ 20) :
    Calls Tryz.prog 4 #[.int .i64 n, v, u] w fun e w' => e = .returned (.bool true) ∧ Below w.heap.size w w' := by
  have f1 : ((80 : Int) < (zs.length : Int)) = False := eq_false (by omega)
  have f2 : ((20 : Int) < (xs.length : Int)) = False := eq_false (by omega)
  have Hv := Lib.hid (fun W (hB : Below w.heap.size w W) => hv.below hB)
  have Hu := Lib.hid (fun W (hB : Below w.heap.size w W) => hu.below hB)
  obtain ⟨a, cap, rfl, -⟩ := hv
  obtain ⟨b, cap2, rfl, -⟩ := hu
  have Hz := Lib.hid hz
  have Hx := Lib.hid hx
  clear hz hx
  have hsn := sym_neq
  have hcl := conv_letter
  go_enter Tryz.func4, Tryz.ntmps4
  go_wp2_with fail
  refine (within_any w n 60 (by decide) (by decide)).mono ?_
  rintro e w' ⟨⟨k, rfl, hk⟩, hww⟩
  obtain rfl := hww.symm
  have hw : IntKind.i64.wrap (1 + (k : Int)) = 1 + (k : Int) := IntWalk.i64_in _ (by omega)
  go_wp2_with fail
  clear hw
  obtain ⟨room, hroom⟩ : ∃ r : Int, 1 + (k : Int) = r := ⟨_, rfl⟩
  have hr1 : 1 ≤ room := by omega
  have hr2 : room ≤ 60 := by omega
  rw [hroom]
  clear hk hroom
  refine (newtab_T _ room (by omega) (by omega)).mono ?_
  rintro e w1 ⟨t, s, m, ms, rfl, ht, hs, hms, hT1, hB1⟩
  go_wp2_with fail
  refine (tabput_any w1 t s m ms [] room _ xs hT1 (by simp) (Hu.out w1 hB1) (by have := Hx.out; omega)).mono ?_
  have hl1 := putE_room (L := []) (xs := xs) (room := room) (by simp; omega)
  obtain ⟨L0, hL0⟩ : ∃ L, (putE [] xs room).2 = L := ⟨_, rfl⟩
  rw [hL0] at hl1 ⊢
  rintro e w2 ⟨rfl, hT2, hb2⟩
  have hC2 : Below w.heap.size w w2 := But2.below hB1 hb2 hs hms hB1.size
  have Hl1 := Lib.hid hl1
  clear hT1 hL0 hl1
  go_wp2_with fail
  refine (taball_T w2 t s m ms L0 room hT2).mono ?_
  rintro e w3 ⟨rfl, rfl⟩
  go_wp2_with fail
  refine (tablist_T w2 t s m ms L0 room hT2 (by have := Hl1.out; omega)).mono ?_
  rintro e w3 ⟨z, B, rfl, hB, hMd, hB3⟩
  have hC3 := hC2.trans (hB3.mono hC2.size)
  have hT3 := hT2.below hB3
  have hSl3 := SliceIn.of_ge hMd.ge
  obtain ⟨ls1, ls2⟩ := Table.lt2 hT2
  have hsz3 := hB3.size
  clear hT2 hMd
  go_wp2_with fail
  go_loopg [9] (zs.length - 0) (fun k i wr => ∃ (q : Nat) (L : List SymV), i = .int .i64 q ∧ q ≤ zs.length ∧ Hid (k = zs.length - q) ∧ Below w.heap.size w wr ∧ Hid (TableAt wr t s m ms L room) ∧ Hid (SliceIn B w3.heap.size wr z L0) ∧ Hid (∀ x ∈ L0, x ∈ L) ∧ Hid ((L.length : Int) ≤ room))
  case atStart => exact ⟨0, L0, rfl, by omega, Lib.hid rfl, hC3, Lib.hid hT3, Lib.hid hSl3, Lib.hid (fun _ h => h), Hl1⟩
  case round =>
    obtain ⟨q, L, rfl, hq, Hk, hC, HT, HS, HI, HL⟩ := hrel
    have hz80 := Hz.out
    by_cases hlt : q < zs.length
    · obtain ⟨az, capz, hz0, hc⟩ := Hv.out wr hC
      cases hz0
      obtain ⟨bl, off, rfl, hel⟩ : ∃ b off, a = some ⟨b, off, none⟩ ∧ ∀ (i : Nat) (z : Int), zs[i]? = some z → wr.cell? ⟨b, off + i, none⟩ = some (.int .u8 z) := by
        rcases hc with h | h
        · rw [h] at hlt; simp at hlt
        · exact h
      obtain ⟨c, hcq⟩ : ∃ c, zs[q]? = some c := ⟨zs[q], by simp [hlt]⟩
      have hcell := hel q c hcq
      have Hcell := Lib.hid (fun W (hB : Below w.heap.size w W) => (by
        obtain ⟨az, capz, hz0, hc⟩ := Hv.out W hB
        cases hz0
        rcases hc with h | ⟨b', off', he, h⟩
        · rw [h] at hlt; simp at hlt
        · cases he; exact h q c hcq : W.cell? ⟨bl, off + q, none⟩ = some (.int .u8 c)))
      have hLr := HL.out
      have hLen : (L.length : Int) ≤ 60 := by omega
      clear hel hc hcq
      have k1 := tablen_T wr t s m ms L room HT.out
      go_wp2_with fail
      refine k1.mono ?_
      rintro e _ ⟨rfl, rfl⟩
      by_cases hok : capI c = true ∧ (L.length : Int) < room ∧ maxN L c + 1 ≤ 1048576
      · obtain ⟨h1, h2, h3⟩ := hok
        have hadd := fresh_ok wr t s m ms L room c HT.out (by omega) h1 h2 h3
        have hg0 := maxN_nonneg L c
        obtain ⟨hln, hhas, hno, hnx, hin⟩ := fresh_facts (L0 := L0) h1 HI.out
        obtain ⟨g, hgg⟩ : ∃ g, maxN L c = g := ⟨_, rfl⟩
        rw [hgg] at hadd hg0 h3 hln hhas hno hnx hin
        obtain ⟨L', hL'⟩ : ∃ L', put symCmp L (freshS c (g + 1)) = L' := ⟨_, rfl⟩
        rw [hL'] at hadd hln hhas hnx hin
        dsimp only [freshS] at hadd hhas hno
        have HL' := Lib.hid (show ∀ x ∈ L0, x ∈ L' from fun x hx => hin x (HI.out x hx))
        have Hlr' := Lib.hid (show (L'.length : Int) ≤ room by omega)
        have HL7 := Lib.hid (show L'.length ≤ 100 by omega)
        have hw1 : IntKind.i64.wrap ((L.length : Int) + 1) = (L.length : Int) + 1 := IntWalk.i64_in _ (by omega)
        have hw2 : IntKind.i64.wrap (g + 1 + 1) = g + 1 + 1 := IntWalk.i64_in _ (by omega)
        have Hln := Lib.hid (show (L'.length : Int) = (L.length : Int) + 1 by omega)
        clear hgg hL' hin hln h2
        go_wp2_with fail
        refine hadd.mono ?_
        rintro e w7 ⟨rfl, hT7, hb7⟩
        have hC7 : Below w.heap.size w w7 := But2.below hC hb7 hs hms hC.size
        have hSl7 := HS.out.but2 hb7 (.inl (by omega)) (.inl (by omega))
        have hB8 : Below w7.heap.size w7 (w7.alloc (.cells #[.int .i64 1, .string (letterB c), .int .i64 (g + 1)] 33)) := (Below.refl _ w7).alloc (Nat.le_refl _) _
        have hb8 := heap_alloc_new w7 (.cells #[.int .i64 1, .string (letterB c), .int .i64 (g + 1)] 33)
        have hT8 := hT7.below hB8
        have hSl8 := hSl7.below hB8
        have hC8 := hC7.trans (hB8.mono hC7.size)
        have hbl : bl < w.heap.size := by
          have h0 := Hv.out w (Below.refl _ _)
          exact World.block_lt_of_cell? w _ (Hcell.out w (Below.refl _ _))
        clear hT7 hSl7 hadd hcell
        go_wp2_with fail
        generalize (w7.alloc (.cells #[.int .i64 1, .string (letterB c), .int .i64 (g + 1)] 33)) = w8 at hB8 hb8 hT8 hSl8 hC8 ⊢
        have HF := Lib.hid (fun W (hB : Below w8.heap.size w8 W) => (⟨⟨by have := (hB.block _ (lt_of_block hb8)).trans hb8; simp [World.cell?, this], by have := (hB.block _ (lt_of_block hb8)).trans hb8; simp [World.cell?, this], by have := (hB.block _ (lt_of_block hb8)).trans hb8; simp [World.cell?, this]⟩, Hcell.out W (hC8.trans (hB.mono hC8.size))⟩ : (W.cell? ⟨w7.heap.size, 0, none⟩ = some (.int .i64 1) ∧ W.cell? ⟨w7.heap.size, 1, none⟩ = some (.string (letterB c)) ∧ W.cell? ⟨w7.heap.size, 2, none⟩ = some (.int .i64 (g + 1))) ∧ W.cell? ⟨bl, off + q, none⟩ = some (.int .u8 c)))
        have hlt8 := lt_of_block hb8
        have hbl8 : bl < w8.heap.size := Nat.lt_of_lt_of_le hbl hC8.size
        have H8 := Lib.hid hb8
        clear hb8
        obtain ⟨⟨x0, x1, x2⟩, x3⟩ := HF.out w8 (Below.refl _ _)
        have HT8 := Lib.hid hT8
        have HSl8 := Lib.hid hSl8
        have k1 := tablen_T w8.drew t s m ms L' room (hT8.below (Below.refl _ _).drew)
        rw [Hln.out] at k1
        have k2 := tabhas_T w8.drew t s m ms L' room ⟨1, letterB c, g + 1⟩ (hT8.below (Below.refl _ _).drew) (by have := HL7.out; omega)
        rw [hhas] at k2
        clear hT8 hSl8 hhas
        go_region_held_law (fun W => (W.cell? ⟨w7.heap.size, 0, none⟩ = some (.int .i64 1) ∧ W.cell? ⟨w7.heap.size, 1, none⟩ = some (.string (letterB c)) ∧ W.cell? ⟨w7.heap.size, 2, none⟩ = some (.int .i64 (g + 1))) ∧ W.cell? ⟨bl, off + q, none⟩ = some (.int .u8 c))
          (first | go_keep | assumption)
          (first
            | (go_at_call 17; (with_reducible refine k1.mono ?_); rintro e w9 ⟨rfl, rfl⟩; have hF9 := HF.out w8.drew (Below.refl _ _).drew)
            | (go_at_call 13; (with_reducible refine k2.mono ?_); rintro e w9 ⟨rfl, hB9⟩; have hC9 : Below w8.heap.size w8 w9 := (Below.refl _ w8).drew.trans hB9; have hF9 := HF.out w9 hC9; obtain ⟨⟨y0, y1, y2⟩, y3⟩ := id hF9; have n1 : ¬ w9.heap.size = w7.heap.size := (by have := hC9.size; omega); have n2 : ¬ w9.heap.size = bl := (by have := hC9.size; omega); have hBa : Below w8.heap.size w8 (w9.alloc (.cells #[.int .u8 c] 5)) := hC9.alloc hC9.size _; have hFa := HF.out _ hBa; have k3 := S.has_T (w9.alloc (.cells #[.int .u8 c] 5)) z L0 ⟨1, letterB c, g + 1⟩ (HSl8.out.below hBa).slice (by have := Hl1.out; omega); rw [hno] at k3)
            | (go_at_call 14; (with_reducible refine k3.mono ?_); rintro e w10 ⟨rfl, hB10⟩; have hC10 : Below w8.heap.size w8 w10 := hBa.trans (hB10.mono hBa.size); have hF10 := HF.out w10 hC10; obtain ⟨⟨z0, z1, z2⟩, z3⟩ := id hF10; have k4 := next_T w10 t s m ms L' room c (HT8.out.below hC10) (by have := HL7.out; omega); rw [hnx] at k4)
            | (go_at_call 15; (with_reducible refine k4.mono ?_); rintro e w11 ⟨rfl, hB11⟩; have hC11 : Below w8.heap.size w8 w11 := hC10.trans (hB11.mono hC10.size); have hF11 := HF.out w11 hC11)
            | fail "no arm")
        clear x0 x1 x2 x3 y0 y1 y2 y3 z0 z1 z2 z3 hF9 hFa hF10 hF11
        go_wp2_with fail
        go_roundg (zs.length - (q + 1))
        case measure => rw [Hk.out]; omega
        case rel => exact ⟨q + 1, L', by go_num, by omega, Lib.hid rfl, hC8.trans (hC11.mono hC8.size), Lib.hid (HT8.out.below hC11), Lib.hid (HSl8.out.below hC11), HL', Hlr'⟩
      · by_cases hcp : capI c = true
        · have hfl := fresh_full wr t s m ms L room c HT.out (by omega) hcp (by
            by_cases h : room ≤ (L.length : Int)
            · exact .inl h
            · exact .inr (by by_cases h' : 1048576 < maxN L c + 1; exact h'; exact absurd ⟨hcp, by omega, by omega⟩ hok))
          have hs1 : same ⟨0, ⟨#[]⟩, 0⟩ ⟨0, ⟨#[]⟩, 0⟩ = true := same_iff.2 rfl
          have hnx : nextV L c = maxN L c + 1 := by simp [nextV, hcp]
          have hg0 := maxN_nonneg L c
          by_cases hlr : (L.length : Int) < room
          · have hgt : 1048576 < maxN L c + 1 := by
              by_cases h' : 1048576 < maxN L c + 1
              · exact h'
              · exact absurd ⟨hcp, hlr, by omega⟩ hok
            have hgf : (maxN L c + 1 ≤ 1048576) = False := eq_false (by omega)
            clear hok
            go_wp2_with fail
            refine hfl.mono ?_
            rintro e w7 ⟨rfl, hB7⟩
            have hC7 := hC.trans (hB7.mono hC.size)
            have hB8 : Below w7.heap.size w7 (w7.alloc (.cells #[.int .i64 0, .string ⟨#[]⟩, .int .i64 0] 33)) := (Below.refl _ w7).alloc (Nat.le_refl _) _
            have hb8 := heap_alloc_new w7 (.cells #[.int .i64 0, .string ⟨#[]⟩, .int .i64 0] 33)
            have hD8 : Below wr.heap.size wr _ := hB7.trans (hB8.mono hB7.size)
            have hC8 := hC7.trans (hB8.mono hC7.size)
            clear hfl
            go_wp2_with fail
            generalize (w7.alloc (.cells #[.int .i64 0, .string ⟨#[]⟩, .int .i64 0] 33)) = w8 at hB8 hb8 hD8 hC8 ⊢
            have x0 : w8.cell? ⟨w7.heap.size, 0, none⟩ = some (.int .i64 0) := by simp [World.cell?, hb8]
            have x1 : w8.cell? ⟨w7.heap.size, 1, none⟩ = some (.string ⟨#[]⟩) := by simp [World.cell?, hb8]
            have x2 : w8.cell? ⟨w7.heap.size, 2, none⟩ = some (.int .i64 0) := by simp [World.cell?, hb8]
            have x3 := Hcell.out w8 hC8
            have k1 := tablen_T w8 t s m ms L room (HT.out.below hD8)
            have k2 := next_T w8 t s m ms L room c (HT.out.below hD8) (by omega)
            rw [hnx] at k2
            clear hb8 hnx
            go_wp2_with fail
            refine k1.mono ?_
            rintro e _ ⟨rfl, rfl⟩
            go_wp2_with fail
            refine k2.mono ?_
            rintro e w9 ⟨rfl, hB9⟩
            clear x0 x1 x2 x3
            go_wp2_with fail
            go_roundg (zs.length - (q + 1))
            case measure => rw [Hk.out]; omega
            case rel => exact ⟨q + 1, L, by go_num, by omega, Lib.hid rfl, hC8.trans (hB9.mono hC8.size), Lib.hid (HT.out.below (hD8.trans (hB9.mono hD8.size))), Lib.hid (HS.out.below (hD8.trans (hB9.mono hD8.size))), HI, HL⟩
          · have hlf : ((L.length : Int) < room) = False := eq_false hlr
            clear hok hlr
            go_wp2_with fail
            refine hfl.mono ?_
            rintro e w7 ⟨rfl, hB7⟩
            have hC7 := hC.trans (hB7.mono hC.size)
            have hB8 : Below w7.heap.size w7 (w7.alloc (.cells #[.int .i64 0, .string ⟨#[]⟩, .int .i64 0] 33)) := (Below.refl _ w7).alloc (Nat.le_refl _) _
            have hb8 := heap_alloc_new w7 (.cells #[.int .i64 0, .string ⟨#[]⟩, .int .i64 0] 33)
            have hD8 : Below wr.heap.size wr _ := hB7.trans (hB8.mono hB7.size)
            have hC8 := hC7.trans (hB8.mono hC7.size)
            clear hfl
            go_wp2_with fail
            generalize (w7.alloc (.cells #[.int .i64 0, .string ⟨#[]⟩, .int .i64 0] 33)) = w8 at hB8 hb8 hD8 hC8 ⊢
            have x0 : w8.cell? ⟨w7.heap.size, 0, none⟩ = some (.int .i64 0) := by simp [World.cell?, hb8]
            have x1 : w8.cell? ⟨w7.heap.size, 1, none⟩ = some (.string ⟨#[]⟩) := by simp [World.cell?, hb8]
            have x2 : w8.cell? ⟨w7.heap.size, 2, none⟩ = some (.int .i64 0) := by simp [World.cell?, hb8]
            have k1 := tablen_T w8 t s m ms L room (HT.out.below hD8)
            clear hb8 hnx
            go_wp2_with fail
            refine k1.mono ?_
            rintro e _ ⟨rfl, rfl⟩
            clear x0 x1 x2
            go_wp2_with fail
            go_roundg (zs.length - (q + 1))
            case measure => rw [Hk.out]; omega
            case rel => exact ⟨q + 1, L, by go_num, by omega, Lib.hid rfl, hC8, Lib.hid (HT.out.below hD8), Lib.hid (HS.out.below hD8), HI, HL⟩
        · have hfl := fresh_arg wr t s m ms L room c HT.out (by omega) (by simpa using hcp)
          have hs1 : same ⟨0, ⟨#[]⟩, 0⟩ ⟨0, ⟨#[]⟩, 0⟩ = true := same_iff.2 rfl
          clear hok
          go_wp2_with fail
          refine hfl.mono ?_
          rintro e w7 ⟨rfl, hB7⟩
          have hC7 := hC.trans (hB7.mono hC.size)
          have hB8 : Below w7.heap.size w7 (w7.alloc (.cells #[.int .i64 0, .string ⟨#[]⟩, .int .i64 0] 33)) := (Below.refl _ w7).alloc (Nat.le_refl _) _
          have hb8 := heap_alloc_new w7 (.cells #[.int .i64 0, .string ⟨#[]⟩, .int .i64 0] 33)
          have hD8 : Below wr.heap.size wr _ := hB7.trans (hB8.mono hB7.size)
          have hC8 := hC7.trans (hB8.mono hC7.size)
          clear hfl
          go_wp2_with fail
          generalize (w7.alloc (.cells #[.int .i64 0, .string ⟨#[]⟩, .int .i64 0] 33)) = w8 at hB8 hb8 hD8 hC8 ⊢
          have x0 : w8.cell? ⟨w7.heap.size, 0, none⟩ = some (.int .i64 0) := by simp [World.cell?, hb8]
          have x1 : w8.cell? ⟨w7.heap.size, 1, none⟩ = some (.string ⟨#[]⟩) := by simp [World.cell?, hb8]
          have x2 : w8.cell? ⟨w7.heap.size, 2, none⟩ = some (.int .i64 0) := by simp [World.cell?, hb8]
          have k1 := tablen_T w8 t s m ms L room (HT.out.below hD8)
          clear hb8
          go_wp2_with fail
          refine k1.mono ?_
          rintro e _ ⟨rfl, rfl⟩
          clear x0 x1 x2
          go_wp2_with fail
          go_roundg (zs.length - (q + 1))
          case measure => rw [Hk.out]; omega
          case rel => exact ⟨q + 1, L, by go_num, by omega, Lib.hid rfl, hC8, Lib.hid (HT.out.below hD8), Lib.hid (HS.out.below hD8), HI, HL⟩
    · obtain rfl : q = zs.length := by omega
      have hLr := HL.out
      have k1 := tablen_T wr t s m ms L room HT.out
      have k2 := wakes_T wr (hE.below hC)
      go_wp2_with fail
      refine k1.mono ?_
      rintro e _ ⟨rfl, rfl⟩
      go_wp2_with fail
      refine k2.mono ?_
      rintro e w9 ⟨rfl, hB9⟩
      go_wp2_with fail
      go_ret
      exact ⟨rfl, hC.trans (hB9.mono hC.size)⟩

theorem symfresh_walk (w : World) (n : Int) (v : Value) (zs : List Int) (hv : BytesOf w v zs) (u : Value) (xs : List SymV) (hu : S.SliceOf w u xs) (hE : Env w) :
    Calls Tryz.prog 4 #[.int .i64 n, v, u] w fun e w' => e = .returned (.bool true) ∧ Below w.heap.size w w' := by
  by_cases h : 80 < zs.length ∨ 20 < xs.length
  · exact symfresh_long w n v u zs xs hv hu hE h
  · exact symfresh_short w n v u zs xs hv hu hE (by omega) (by omega)

end Go.Proofs.YtimeamehmefgnaaGreatDoor
