/- BookPlays returns true, whatever it is given. Conditions: none but that the list lies in memory. -/
import Derived.Test.YtbpibbcehfkeeaaPlainMoreS
import Derived.Test.YtbpibbcehfkeeaaPlainDropS
import Derived.Test.YtbpibbcehfkeeaaMapNoneE
import Derived.Test.YtbpibbcehfkeeaaBActs
import Derived.Deep.QuietTactic
import Derived.BigQuiet
import Derived.Deep.CutRange
import Derived.Deep.CutBlock
import Derived.Test.YtbpibbcehfkeeaaBookKit
namespace Go.Proofs.Ytbpibbcehfkeeaa
open Go Go.RowKit

set_option maxRecDepth 100000 in
set_option maxHeartbeats 3200000 in
theorem bplays_walk (w : World) (v : Value) (l : List ActV) (hv : ActsOf w v l) (hl : l.length ≤ 200) :
    Calls Try.prog 3 #[v] w fun e w' => e = .returned (.bool true) ∧ Below w.heap.size w w' := by
  obtain ⟨a, cap, rfl, hc⟩ := hv
  have f1 : ((200 : Int) < (l.length : Int)) = False := eq_false (by omega)
  have hse := sym_equal'
  have hsg := sym_guard
  go_enter Try.func3, Try.ntmps3
  go_wp2_with fail
  refine (E.mapnew_T w).mono ?_
  rintro e w1 ⟨m, s, rfl, hm, hs', hM, hB1⟩
  have hp0 := heap_alloc_new w1 (.cells #[.slice none 0 0, .slice none 0 0] 32)
  have hBp : Below w1.heap.size w1 (w1.alloc (.cells #[.slice none 0 0, .slice none 0 0] 32)) := (Below.refl _ w1).alloc (Nat.le_refl _) _
  have hm1 := lt_of_block hM.1
  have hs1 := hM.2.lt
  have hsz2 : (w1.alloc (.cells #[.slice none 0 0, .slice none 0 0] 32)).heap.size = w1.heap.size + 1 := by simp
  go_wp2_with fail
  generalize w1.alloc (.cells #[.slice none 0 0, .slice none 0 0] 32) = w2 at hp0 hBp hsz2 ⊢
  have hM2 := hM.below hBp
  have hB2 := hB1.trans (hBp.mono hB1.size)
  have hP2 : S.PL w2 w1.heap.size [] := ⟨_, _, w2.heap.size, by omega, Nat.le_refl _, hp0, ⟨none, 0, rfl, .inl rfl⟩, by rintro a n c e; cases e; exact ⟨Nat.le_refl _, fun _ => rfl⟩, I.Rw.nil _⟩
  obtain ⟨p, hp⟩ : ∃ p, w1.heap.size = p := ⟨_, rfl⟩
  rw [hp] at hP2 hm1 hs1 hp0 ⊢
  clear hp0 hM hsz2
  go_loopg [5] (l.length - 0) (fun k i wr => ∃ (j : Nat) (L : List EntV), i = .int .i64 j ∧ j ≤ l.length ∧ L.length ≤ j ∧ Hid (k = l.length - j) ∧ Hid (Sorted entCmp L) ∧ Hid (E.MapAt wr m s L) ∧ Hid (S.PL wr p L) ∧ Below w.heap.size w wr)
  case atStart => exact ⟨0, [], rfl, by omega, by simp, Lib.hid rfl, Lib.hid List.Pairwise.nil, Lib.hid hM2, Lib.hid hP2, hB2⟩
  case round =>
    obtain ⟨j, L, rfl, hj, hLj, Hk, Hso, HM, HP, hB⟩ := hrel
    by_cases hlt : j < l.length
    · obtain ⟨b, off, rfl, hel⟩ : ∃ b off, a = some ⟨b, off, none⟩ ∧ ∀ i x, l[i]? = some x → ActAt w b (off + i * 5) x := by
        rcases hc with h | h
        · rw [h] at hlt; simp at hlt
        · exact h
      obtain ⟨x, hx⟩ : ∃ x, l[j]? = some x := ⟨l[j], by simp [hlt]⟩
      have hac0 := hel j x hx
      have hbl := World.block_lt_of_cell? w _ hac0.1
      obtain ⟨g0, g1, g2, g3, g4⟩ := hac0.below hB hbl
      have Hac0 := Lib.hid hac0
      clear hel hx hac0
      go_wp2_with fail
      have hBx : Below wr.heap.size wr (wr.alloc (.cells #[.int .i64 x.s.k, .string x.s.t, .int .i64 x.s.n] 26)) := (Below.refl _ wr).alloc (Nat.le_refl _) _
      have hbx := heap_alloc_new wr (.cells #[.int .i64 x.s.k, .string x.s.t, .int .i64 x.s.n] 26)
      have HM1 := Lib.hid (HM.out.below hBx)
      have HP1 := Lib.hid (HP.out.below hBx)
      have hC1 := hB.trans (hBx.mono hB.size)
      have hsr : s < wr.heap.size := HM.out.2.lt
      have hpr : p < wr.heap.size := by obtain ⟨vk, vv, K, h1, h2, -⟩ := HP.out; omega
      generalize (wr.alloc (.cells #[.int .i64 x.s.k, .string x.s.t, .int .i64 x.s.n] 26)) = W1 at hBx hbx HM1 HP1 hC1 ⊢
      have hpf := S.plfind_T W1 p L x.s HP1.out Hso.out (by omega)
      obtain ⟨kk, hkk⟩ : ∃ kk : Int, (if has entCmp L ⟨x.s, 0⟩ = true then (pos entCmp L ⟨x.s, 0⟩ : Int) else -1) = kk := ⟨_, rfl⟩
      rw [hkk] at hpf
      have Hkk := Lib.hid hkk
      clear hkk
      refine hpf.mono ?_
      rintro e w2 ⟨rfl, hB2⟩
      have HM2 := Lib.hid (HM1.out.below hB2)
      have HP2 := Lib.hid (HP1.out.below hB2)
      have hC2 := hC1.trans (hB2.mono hC1.size)
      have hbx2 := (hB2.block _ (lt_of_block hbx)).trans hbx
      obtain ⟨i0, i1, i2, i3, i4⟩ := Hac0.out.below hC2 hbl
      have HX2 := Lib.hid hbx2
      have b0 : w2.cell? ⟨wr.heap.size, 0, none⟩ = some (.int .i64 x.s.k) := I.cell_of_heap hbx2 (i := 0) rfl
      have b1 : w2.cell? ⟨wr.heap.size, 1, none⟩ = some (.string x.s.t) := I.cell_of_heap hbx2 (i := 1) rfl
      have b2 : w2.cell? ⟨wr.heap.size, 2, none⟩ = some (.int .i64 x.s.n) := I.cell_of_heap hbx2 (i := 2) rfl
      have hxl := lt_of_block hbx2
      have Hkb := Lib.hid (fun W (h : But s w2.drew W) => (by
        have e1 : W.heap[wr.heap.size]? = _ := (h.block _ hxl (by omega)).trans hbx2
        have e2 : W.cell? ⟨b, off + j * 5 + 1, none⟩ = w2.cell? ⟨b, off + j * 5 + 1, none⟩ := World.cell?_of_block (h.block b (World.block_lt_of_cell? w2 _ i1) (by omega))
        exact ⟨⟨I.cell_of_heap e1 (i := 0) rfl, I.cell_of_heap e1 (i := 1) rfl, I.cell_of_heap e1 (i := 2) rfl⟩, e2.trans i1⟩ : (W.cell? ⟨wr.heap.size, 0, none⟩ = some (.int .i64 x.s.k) ∧ W.cell? ⟨wr.heap.size, 1, none⟩ = some (.string x.s.t) ∧ W.cell? ⟨wr.heap.size, 2, none⟩ = some (.int .i64 x.s.n)) ∧ W.cell? ⟨b, off + j * 5 + 1, none⟩ = some (.int .i64 x.n)))
      clear g0 g1 g2 g3 g4 hbx hbx2
      go_wp2_with fail
      refine (within_any _ x.d 5 (by omega) (by omega)).mono ?_
      rintro e w3 ⟨⟨k, rfl, hk⟩, rfl⟩
      have hk5 : k < 5 := by omega
      clear hk
      go_upto_block 2 with fail
      go_cut [8, 9, 10, 11] from 32 to 203 (fun s8 s9 s10 s11 wx => ∃ L6 : List EntV, L6.length ≤ L.length + 1 ∧ Hid (Sorted entCmp L6) ∧ Hid (E.MapAt wx m s L6) ∧ Hid (S.PL wx p L6) ∧ Below w.heap.size w wx)
      case first =>
        cases hh : has entCmp L ⟨x.s, 0⟩
        · have hkk := Hkk.out
          rw [hh, if_neg (by simp)] at hkk
          subst hkk
          have Hh := Lib.hid hh
          clear hh
          rcases k with _ | _ | _ | _ | _ | k
          · as_aux_lemma =>
              have hput := E.mapput_T w3.drew m s L ⟨x.s, x.n⟩ (HM2.out.below (Below.refl _ _).drew) (by omega)
              rw [show has entCmp L ⟨x.s, x.n⟩ = false from Hh.out] at hput
              go_wp2_with fail
              go_region_held3 (fun W => (W.cell? ⟨wr.heap.size, 0, none⟩ = some (.int .i64 x.s.k) ∧ W.cell? ⟨wr.heap.size, 1, none⟩ = some (.string x.s.t) ∧ W.cell? ⟨wr.heap.size, 2, none⟩ = some (.int .i64 x.s.n)) ∧ W.cell? ⟨b, off + j * 5 + 1, none⟩ = some (.int .i64 x.n))
                (first | go_keep | assumption)
                (first
                  | ((with_reducible refine hput.mono ?_); rintro e w5 ⟨rfl, hM5, hb5⟩; have hS5 := Hkb.out w5 hb5)
                  | fail "no arm")
              have hb5' : But s w3 w5 := (But.of_below (Below.refl _ _).drew).trans hb5
              have hB5 : Below w.heap.size w w5 := But.below hC2 hb5' hs' hC2.size
              have hlen : (put entCmp (E.drop entCmp L ⟨x.s, x.n⟩) ⟨x.s, x.n⟩).length ≤ L.length + 1 := S.length_putE L ⟨x.s, x.n⟩
              have hput2 := S.plainput_T w5.drew p L ⟨x.s, x.n⟩ ((HP2.out.but hb5' hs1).below (Below.refl _ _).drew) Hso.out (by omega)
              obtain ⟨⟨q0, q1, q2⟩, q3⟩ := hS5
              have HX5 := Lib.hid ((hb5'.block _ hxl (by omega)).trans HX2.out)
              have Hkc := Lib.hid (fun W (h : S.Ch p w5.drew W) => (⟨S.box_ch (hbx := HX5.out) h, (h.below.cell (p := ⟨b, off + j * 5 + 1, none⟩) (show b < p by omega)).trans q3⟩ : (W.cell? ⟨wr.heap.size, 0, none⟩ = some (.int .i64 x.s.k) ∧ W.cell? ⟨wr.heap.size, 1, none⟩ = some (.string x.s.t) ∧ W.cell? ⟨wr.heap.size, 2, none⟩ = some (.int .i64 x.s.n)) ∧ W.cell? ⟨b, off + j * 5 + 1, none⟩ = some (.int .i64 x.n)))
              clear hb5 hput
              go_wp2_with fail
              go_region_held3 (fun W => (W.cell? ⟨wr.heap.size, 0, none⟩ = some (.int .i64 x.s.k) ∧ W.cell? ⟨wr.heap.size, 1, none⟩ = some (.string x.s.t) ∧ W.cell? ⟨wr.heap.size, 2, none⟩ = some (.int .i64 x.s.n)) ∧ W.cell? ⟨b, off + j * 5 + 1, none⟩ = some (.int .i64 x.n))
                (first | go_keep | assumption)
                (first
                  | ((with_reducible refine hput2.mono ?_); rintro e w6 ⟨⟨u, rfl⟩, hP6, hC6⟩; have hS6 := Hkc.out w6 hC6)
                  | fail "no arm")
              have hC6' : S.Ch p w5 w6 := (S.Ch.of_below (Below.refl _ _).drew (by have := hb5'.size; omega)).trans hC6
              have hM6 := S.mapat_ch hM5 hC6'
              have hso6 : Sorted entCmp (put entCmp (E.drop entCmp L ⟨x.s, x.n⟩) ⟨x.s, x.n⟩) := S.sorted_putE ⟨x.s, x.n⟩ Hso.out
              have hB6 := hB5.trans (hC6'.below.mono (by omega))
              generalize put entCmp (E.drop entCmp L ⟨x.s, x.n⟩) ⟨x.s, x.n⟩ = L6 at hlen hM6 hP6 hso6
              have HM6 := Lib.hid hM6
              have HP6 := Lib.hid hP6
              have Hso6 := Lib.hid hso6
              clear hM5 hM6 hP6 hso6 q0 q1 q2 q3 hC6 hput2
              go_wp2_with fail
              go_meet
              case rel => exact ⟨_, hlen, Hso6, HM6, HP6, hB6⟩
          · as_aux_lemma =>
              have hput := E.mapput_T w3.drew m s L ⟨x.s, x.n⟩ (HM2.out.below (Below.refl _ _).drew) (by omega)
              rw [show has entCmp L ⟨x.s, x.n⟩ = false from Hh.out] at hput
              go_wp2_with fail
              go_region_held3 (fun W => (W.cell? ⟨wr.heap.size, 0, none⟩ = some (.int .i64 x.s.k) ∧ W.cell? ⟨wr.heap.size, 1, none⟩ = some (.string x.s.t) ∧ W.cell? ⟨wr.heap.size, 2, none⟩ = some (.int .i64 x.s.n)) ∧ W.cell? ⟨b, off + j * 5 + 1, none⟩ = some (.int .i64 x.n))
                (first | go_keep | assumption)
                (first
                  | ((with_reducible refine hput.mono ?_); rintro e w5 ⟨rfl, hM5, hb5⟩; have hS5 := Hkb.out w5 hb5)
                  | fail "no arm")
              have hb5' : But s w3 w5 := (But.of_below (Below.refl _ _).drew).trans hb5
              have hB5 : Below w.heap.size w w5 := But.below hC2 hb5' hs' hC2.size
              have hlen : (put entCmp (E.drop entCmp L ⟨x.s, x.n⟩) ⟨x.s, x.n⟩).length ≤ L.length + 1 := S.length_putE L ⟨x.s, x.n⟩
              have hput2 := S.plainput_T w5.drew p L ⟨x.s, x.n⟩ ((HP2.out.but hb5' hs1).below (Below.refl _ _).drew) Hso.out (by omega)
              obtain ⟨⟨q0, q1, q2⟩, q3⟩ := hS5
              have HX5 := Lib.hid ((hb5'.block _ hxl (by omega)).trans HX2.out)
              have Hkc := Lib.hid (fun W (h : S.Ch p w5.drew W) => (⟨S.box_ch (hbx := HX5.out) h, (h.below.cell (p := ⟨b, off + j * 5 + 1, none⟩) (show b < p by omega)).trans q3⟩ : (W.cell? ⟨wr.heap.size, 0, none⟩ = some (.int .i64 x.s.k) ∧ W.cell? ⟨wr.heap.size, 1, none⟩ = some (.string x.s.t) ∧ W.cell? ⟨wr.heap.size, 2, none⟩ = some (.int .i64 x.s.n)) ∧ W.cell? ⟨b, off + j * 5 + 1, none⟩ = some (.int .i64 x.n)))
              clear hb5 hput
              go_wp2_with fail
              go_region_held3 (fun W => (W.cell? ⟨wr.heap.size, 0, none⟩ = some (.int .i64 x.s.k) ∧ W.cell? ⟨wr.heap.size, 1, none⟩ = some (.string x.s.t) ∧ W.cell? ⟨wr.heap.size, 2, none⟩ = some (.int .i64 x.s.n)) ∧ W.cell? ⟨b, off + j * 5 + 1, none⟩ = some (.int .i64 x.n))
                (first | go_keep | assumption)
                (first
                  | ((with_reducible refine hput2.mono ?_); rintro e w6 ⟨⟨u, rfl⟩, hP6, hC6⟩; have hS6 := Hkc.out w6 hC6)
                  | fail "no arm")
              have hC6' : S.Ch p w5 w6 := (S.Ch.of_below (Below.refl _ _).drew (by have := hb5'.size; omega)).trans hC6
              have hM6 := S.mapat_ch hM5 hC6'
              have hso6 : Sorted entCmp (put entCmp (E.drop entCmp L ⟨x.s, x.n⟩) ⟨x.s, x.n⟩) := S.sorted_putE ⟨x.s, x.n⟩ Hso.out
              have hB6 := hB5.trans (hC6'.below.mono (by omega))
              generalize put entCmp (E.drop entCmp L ⟨x.s, x.n⟩) ⟨x.s, x.n⟩ = L6 at hlen hM6 hP6 hso6
              have HM6 := Lib.hid hM6
              have HP6 := Lib.hid hP6
              have Hso6 := Lib.hid hso6
              clear hM5 hM6 hP6 hso6 q0 q1 q2 q3 hC6 hput2
              go_wp2_with fail
              go_meet
              case rel => exact ⟨_, hlen, Hso6, HM6, HP6, hB6⟩
          · as_aux_lemma =>
              have hput := E.mapput_T w3.drew m s L ⟨x.s, x.n⟩ (HM2.out.below (Below.refl _ _).drew) (by omega)
              rw [show has entCmp L ⟨x.s, x.n⟩ = false from Hh.out] at hput
              go_wp2_with fail
              go_region_held3 (fun W => (W.cell? ⟨wr.heap.size, 0, none⟩ = some (.int .i64 x.s.k) ∧ W.cell? ⟨wr.heap.size, 1, none⟩ = some (.string x.s.t) ∧ W.cell? ⟨wr.heap.size, 2, none⟩ = some (.int .i64 x.s.n)) ∧ W.cell? ⟨b, off + j * 5 + 1, none⟩ = some (.int .i64 x.n))
                (first | go_keep | assumption)
                (first
                  | ((with_reducible refine hput.mono ?_); rintro e w5 ⟨rfl, hM5, hb5⟩; have hS5 := Hkb.out w5 hb5)
                  | fail "no arm")
              have hb5' : But s w3 w5 := (But.of_below (Below.refl _ _).drew).trans hb5
              have hB5 : Below w.heap.size w w5 := But.below hC2 hb5' hs' hC2.size
              have hlen : (put entCmp (E.drop entCmp L ⟨x.s, x.n⟩) ⟨x.s, x.n⟩).length ≤ L.length + 1 := S.length_putE L ⟨x.s, x.n⟩
              have hput2 := S.plainput_T w5.drew p L ⟨x.s, x.n⟩ ((HP2.out.but hb5' hs1).below (Below.refl _ _).drew) Hso.out (by omega)
              obtain ⟨⟨q0, q1, q2⟩, q3⟩ := hS5
              have HX5 := Lib.hid ((hb5'.block _ hxl (by omega)).trans HX2.out)
              have Hkc := Lib.hid (fun W (h : S.Ch p w5.drew W) => (⟨S.box_ch (hbx := HX5.out) h, (h.below.cell (p := ⟨b, off + j * 5 + 1, none⟩) (show b < p by omega)).trans q3⟩ : (W.cell? ⟨wr.heap.size, 0, none⟩ = some (.int .i64 x.s.k) ∧ W.cell? ⟨wr.heap.size, 1, none⟩ = some (.string x.s.t) ∧ W.cell? ⟨wr.heap.size, 2, none⟩ = some (.int .i64 x.s.n)) ∧ W.cell? ⟨b, off + j * 5 + 1, none⟩ = some (.int .i64 x.n)))
              clear hb5 hput
              go_wp2_with fail
              go_region_held3 (fun W => (W.cell? ⟨wr.heap.size, 0, none⟩ = some (.int .i64 x.s.k) ∧ W.cell? ⟨wr.heap.size, 1, none⟩ = some (.string x.s.t) ∧ W.cell? ⟨wr.heap.size, 2, none⟩ = some (.int .i64 x.s.n)) ∧ W.cell? ⟨b, off + j * 5 + 1, none⟩ = some (.int .i64 x.n))
                (first | go_keep | assumption)
                (first
                  | ((with_reducible refine hput2.mono ?_); rintro e w6 ⟨⟨u, rfl⟩, hP6, hC6⟩; have hS6 := Hkc.out w6 hC6)
                  | fail "no arm")
              have hC6' : S.Ch p w5 w6 := (S.Ch.of_below (Below.refl _ _).drew (by have := hb5'.size; omega)).trans hC6
              have hM6 := S.mapat_ch hM5 hC6'
              have hso6 : Sorted entCmp (put entCmp (E.drop entCmp L ⟨x.s, x.n⟩) ⟨x.s, x.n⟩) := S.sorted_putE ⟨x.s, x.n⟩ Hso.out
              have hB6 := hB5.trans (hC6'.below.mono (by omega))
              generalize put entCmp (E.drop entCmp L ⟨x.s, x.n⟩) ⟨x.s, x.n⟩ = L6 at hlen hM6 hP6 hso6
              have HM6 := Lib.hid hM6
              have HP6 := Lib.hid hP6
              have Hso6 := Lib.hid hso6
              clear hM5 hM6 hP6 hso6 q0 q1 q2 q3 hC6 hput2
              go_wp2_with fail
              go_meet
              case rel => exact ⟨_, hlen, Hso6, HM6, HP6, hB6⟩
          · as_aux_lemma =>
              have hdr := mapdrop_T w3 m s L x.s HM2.out (by omega)
              rw [S.valOf_no Hh.out, Hh.out] at hdr
              go_wp2_with fail
              refine hdr.mono ?_
              rintro e w5 ⟨rfl, hM5, hb5⟩
              have hB5 : Below w.heap.size w w5 := But.below hC2 hb5 hs' hC2.size
              have HP5 := Lib.hid (HP2.out.but hb5 hs1)
              have hbx5 : w5.heap[wr.heap.size]? = _ := (hb5.block _ hxl (by omega)).trans HX2.out
              have q0 : w5.cell? ⟨wr.heap.size, 0, none⟩ = some (.int .i64 x.s.k) := I.cell_of_heap hbx5 (i := 0) rfl
              have q1 : w5.cell? ⟨wr.heap.size, 1, none⟩ = some (.string x.s.t) := I.cell_of_heap hbx5 (i := 1) rfl
              have q2 : w5.cell? ⟨wr.heap.size, 2, none⟩ = some (.int .i64 x.s.n) := I.cell_of_heap hbx5 (i := 2) rfl
              clear hdr
              have hlen : (E.drop entCmp L ⟨x.s, 0⟩).length ≤ L.length + 1 := by have := E.length_drop entCmp L ⟨x.s, 0⟩; omega
              have hso6 : Sorted entCmp (E.drop entCmp L ⟨x.s, 0⟩) := E.sorted_drop _ _ Hso.out
              have Hso6 := Lib.hid hso6
              have Hlen := Lib.hid hlen
              have hdl2 := S.plaindrop_T w5 p L x.s HP5.out Hso.out (by omega)
              generalize E.drop entCmp L ⟨x.s, 0⟩ = L6 at hM5 hdl2 Hso6 Hlen
              have HM5 := Lib.hid hM5
              clear hM5 hso6 hlen hbx5
              go_wp2_with fail
              refine hdl2.mono ?_
              rintro e w6 ⟨⟨u, rfl⟩, hP6, hC6⟩
              have HM6 := Lib.hid (S.mapat_ch HM5.out hC6)
              have HP6 := Lib.hid hP6
              have hB6 := hB5.trans (hC6.below.mono (by omega))
              clear hP6
              go_wp2_with fail
              go_meet
              case rel => exact ⟨L6, Hlen.out, Hso6, HM6, HP6, hB6⟩
          · as_aux_lemma =>
              go_wp2_with fail
              refine (E.mapget_no w3 m s L x.s HM2.out (by omega) Hh.out).mono ?_
              rintro e w5 ⟨rfl, hb5⟩
              have hB5 : Below w.heap.size w w5 := hC2.trans (hb5.mono hC2.size)
              have HP5 := Lib.hid (HP2.out.below hb5)
              have HM6 := Lib.hid (HM2.out.below hb5)
              have HP6 := HP5
              go_wp2_with fail
              go_meet
              case rel => exact ⟨L, by omega, Hso, HM6, HP6, hB5⟩
          · exfalso; omega
        · obtain ⟨y, hy0, -⟩ := has_at entCmp_lin L ⟨x.s, 0⟩ Hso.out hh
          obtain ⟨P, hP⟩ : ∃ P, pos entCmp L ⟨x.s, 0⟩ = P := ⟨_, rfl⟩
          have Hy2 := Lib.hid hy0
          have hkk := Hkk.out
          rw [hh, if_pos rfl, hP] at hkk
          have HPo := Lib.hid hP
          have Hy : Hid (L[pos entCmp L ⟨x.s, 0⟩]? = some y) := Lib.hid hy0
          rw [hP] at hy0
          have hPl : P < L.length := (List.getElem?_eq_some_iff.1 hy0).1
          have HyP := Lib.hid hy0
          subst hkk
          have Hh := Lib.hid hh
          clear hh hP hy0
          rcases k with _ | _ | _ | _ | _ | k
          · as_aux_lemma =>
              have hput := E.mapput_T w3.drew m s L ⟨x.s, x.n⟩ (HM2.out.below (Below.refl _ _).drew) (by omega)
              rw [show has entCmp L ⟨x.s, x.n⟩ = true from Hh.out] at hput
              go_wp2_with fail
              go_region_held3 (fun W => (W.cell? ⟨wr.heap.size, 0, none⟩ = some (.int .i64 x.s.k) ∧ W.cell? ⟨wr.heap.size, 1, none⟩ = some (.string x.s.t) ∧ W.cell? ⟨wr.heap.size, 2, none⟩ = some (.int .i64 x.s.n)) ∧ W.cell? ⟨b, off + j * 5 + 1, none⟩ = some (.int .i64 x.n))
                (first | go_keep | assumption)
                (first
                  | ((with_reducible refine hput.mono ?_); rintro e w5 ⟨rfl, hM5, hb5⟩; have hS5 := Hkb.out w5 hb5)
                  | fail "no arm")
              have hb5' : But s w3 w5 := (But.of_below (Below.refl _ _).drew).trans hb5
              have hB5 : Below w.heap.size w w5 := But.below hC2 hb5' hs' hC2.size
              have hlen : (put entCmp (E.drop entCmp L ⟨x.s, x.n⟩) ⟨x.s, x.n⟩).length ≤ L.length + 1 := S.length_putE L ⟨x.s, x.n⟩
              have hput2 := S.plainput_T w5.drew p L ⟨x.s, x.n⟩ ((HP2.out.but hb5' hs1).below (Below.refl _ _).drew) Hso.out (by omega)
              obtain ⟨⟨q0, q1, q2⟩, q3⟩ := hS5
              have HX5 := Lib.hid ((hb5'.block _ hxl (by omega)).trans HX2.out)
              have Hkc := Lib.hid (fun W (h : S.Ch p w5.drew W) => (⟨S.box_ch (hbx := HX5.out) h, (h.below.cell (p := ⟨b, off + j * 5 + 1, none⟩) (show b < p by omega)).trans q3⟩ : (W.cell? ⟨wr.heap.size, 0, none⟩ = some (.int .i64 x.s.k) ∧ W.cell? ⟨wr.heap.size, 1, none⟩ = some (.string x.s.t) ∧ W.cell? ⟨wr.heap.size, 2, none⟩ = some (.int .i64 x.s.n)) ∧ W.cell? ⟨b, off + j * 5 + 1, none⟩ = some (.int .i64 x.n)))
              clear hb5 hput
              go_wp2_with fail
              go_region_held3 (fun W => (W.cell? ⟨wr.heap.size, 0, none⟩ = some (.int .i64 x.s.k) ∧ W.cell? ⟨wr.heap.size, 1, none⟩ = some (.string x.s.t) ∧ W.cell? ⟨wr.heap.size, 2, none⟩ = some (.int .i64 x.s.n)) ∧ W.cell? ⟨b, off + j * 5 + 1, none⟩ = some (.int .i64 x.n))
                (first | go_keep | assumption)
                (first
                  | ((with_reducible refine hput2.mono ?_); rintro e w6 ⟨⟨u, rfl⟩, hP6, hC6⟩; have hS6 := Hkc.out w6 hC6)
                  | fail "no arm")
              have hC6' : S.Ch p w5 w6 := (S.Ch.of_below (Below.refl _ _).drew (by have := hb5'.size; omega)).trans hC6
              have hM6 := S.mapat_ch hM5 hC6'
              have hso6 : Sorted entCmp (put entCmp (E.drop entCmp L ⟨x.s, x.n⟩) ⟨x.s, x.n⟩) := S.sorted_putE ⟨x.s, x.n⟩ Hso.out
              have hB6 := hB5.trans (hC6'.below.mono (by omega))
              generalize put entCmp (E.drop entCmp L ⟨x.s, x.n⟩) ⟨x.s, x.n⟩ = L6 at hlen hM6 hP6 hso6
              have HM6 := Lib.hid hM6
              have HP6 := Lib.hid hP6
              have Hso6 := Lib.hid hso6
              clear hM5 hM6 hP6 hso6 q0 q1 q2 q3 hC6 hput2
              go_wp2_with fail
              go_meet
              case rel => exact ⟨_, hlen, Hso6, HM6, HP6, hB6⟩
          · as_aux_lemma =>
              have hput := E.mapput_T w3.drew m s L ⟨x.s, x.n⟩ (HM2.out.below (Below.refl _ _).drew) (by omega)
              rw [show has entCmp L ⟨x.s, x.n⟩ = true from Hh.out] at hput
              go_wp2_with fail
              go_region_held3 (fun W => (W.cell? ⟨wr.heap.size, 0, none⟩ = some (.int .i64 x.s.k) ∧ W.cell? ⟨wr.heap.size, 1, none⟩ = some (.string x.s.t) ∧ W.cell? ⟨wr.heap.size, 2, none⟩ = some (.int .i64 x.s.n)) ∧ W.cell? ⟨b, off + j * 5 + 1, none⟩ = some (.int .i64 x.n))
                (first | go_keep | assumption)
                (first
                  | ((with_reducible refine hput.mono ?_); rintro e w5 ⟨rfl, hM5, hb5⟩; have hS5 := Hkb.out w5 hb5)
                  | fail "no arm")
              have hb5' : But s w3 w5 := (But.of_below (Below.refl _ _).drew).trans hb5
              have hB5 : Below w.heap.size w w5 := But.below hC2 hb5' hs' hC2.size
              have hlen : (put entCmp (E.drop entCmp L ⟨x.s, x.n⟩) ⟨x.s, x.n⟩).length ≤ L.length + 1 := S.length_putE L ⟨x.s, x.n⟩
              have hput2 := S.plainput_T w5.drew p L ⟨x.s, x.n⟩ ((HP2.out.but hb5' hs1).below (Below.refl _ _).drew) Hso.out (by omega)
              obtain ⟨⟨q0, q1, q2⟩, q3⟩ := hS5
              have HX5 := Lib.hid ((hb5'.block _ hxl (by omega)).trans HX2.out)
              have Hkc := Lib.hid (fun W (h : S.Ch p w5.drew W) => (⟨S.box_ch (hbx := HX5.out) h, (h.below.cell (p := ⟨b, off + j * 5 + 1, none⟩) (show b < p by omega)).trans q3⟩ : (W.cell? ⟨wr.heap.size, 0, none⟩ = some (.int .i64 x.s.k) ∧ W.cell? ⟨wr.heap.size, 1, none⟩ = some (.string x.s.t) ∧ W.cell? ⟨wr.heap.size, 2, none⟩ = some (.int .i64 x.s.n)) ∧ W.cell? ⟨b, off + j * 5 + 1, none⟩ = some (.int .i64 x.n)))
              clear hb5 hput
              go_wp2_with fail
              go_region_held3 (fun W => (W.cell? ⟨wr.heap.size, 0, none⟩ = some (.int .i64 x.s.k) ∧ W.cell? ⟨wr.heap.size, 1, none⟩ = some (.string x.s.t) ∧ W.cell? ⟨wr.heap.size, 2, none⟩ = some (.int .i64 x.s.n)) ∧ W.cell? ⟨b, off + j * 5 + 1, none⟩ = some (.int .i64 x.n))
                (first | go_keep | assumption)
                (first
                  | ((with_reducible refine hput2.mono ?_); rintro e w6 ⟨⟨u, rfl⟩, hP6, hC6⟩; have hS6 := Hkc.out w6 hC6)
                  | fail "no arm")
              have hC6' : S.Ch p w5 w6 := (S.Ch.of_below (Below.refl _ _).drew (by have := hb5'.size; omega)).trans hC6
              have hM6 := S.mapat_ch hM5 hC6'
              have hso6 : Sorted entCmp (put entCmp (E.drop entCmp L ⟨x.s, x.n⟩) ⟨x.s, x.n⟩) := S.sorted_putE ⟨x.s, x.n⟩ Hso.out
              have hB6 := hB5.trans (hC6'.below.mono (by omega))
              generalize put entCmp (E.drop entCmp L ⟨x.s, x.n⟩) ⟨x.s, x.n⟩ = L6 at hlen hM6 hP6 hso6
              have HM6 := Lib.hid hM6
              have HP6 := Lib.hid hP6
              have Hso6 := Lib.hid hso6
              clear hM5 hM6 hP6 hso6 q0 q1 q2 q3 hC6 hput2
              go_wp2_with fail
              go_meet
              case rel => exact ⟨_, hlen, Hso6, HM6, HP6, hB6⟩
          · as_aux_lemma =>
              have hput := E.mapput_T w3.drew m s L ⟨x.s, x.n⟩ (HM2.out.below (Below.refl _ _).drew) (by omega)
              rw [show has entCmp L ⟨x.s, x.n⟩ = true from Hh.out] at hput
              go_wp2_with fail
              go_region_held3 (fun W => (W.cell? ⟨wr.heap.size, 0, none⟩ = some (.int .i64 x.s.k) ∧ W.cell? ⟨wr.heap.size, 1, none⟩ = some (.string x.s.t) ∧ W.cell? ⟨wr.heap.size, 2, none⟩ = some (.int .i64 x.s.n)) ∧ W.cell? ⟨b, off + j * 5 + 1, none⟩ = some (.int .i64 x.n))
                (first | go_keep | assumption)
                (first
                  | ((with_reducible refine hput.mono ?_); rintro e w5 ⟨rfl, hM5, hb5⟩; have hS5 := Hkb.out w5 hb5)
                  | fail "no arm")
              have hb5' : But s w3 w5 := (But.of_below (Below.refl _ _).drew).trans hb5
              have hB5 : Below w.heap.size w w5 := But.below hC2 hb5' hs' hC2.size
              have hlen : (put entCmp (E.drop entCmp L ⟨x.s, x.n⟩) ⟨x.s, x.n⟩).length ≤ L.length + 1 := S.length_putE L ⟨x.s, x.n⟩
              have hput2 := S.plainput_T w5.drew p L ⟨x.s, x.n⟩ ((HP2.out.but hb5' hs1).below (Below.refl _ _).drew) Hso.out (by omega)
              obtain ⟨⟨q0, q1, q2⟩, q3⟩ := hS5
              have HX5 := Lib.hid ((hb5'.block _ hxl (by omega)).trans HX2.out)
              have Hkc := Lib.hid (fun W (h : S.Ch p w5.drew W) => (⟨S.box_ch (hbx := HX5.out) h, (h.below.cell (p := ⟨b, off + j * 5 + 1, none⟩) (show b < p by omega)).trans q3⟩ : (W.cell? ⟨wr.heap.size, 0, none⟩ = some (.int .i64 x.s.k) ∧ W.cell? ⟨wr.heap.size, 1, none⟩ = some (.string x.s.t) ∧ W.cell? ⟨wr.heap.size, 2, none⟩ = some (.int .i64 x.s.n)) ∧ W.cell? ⟨b, off + j * 5 + 1, none⟩ = some (.int .i64 x.n)))
              clear hb5 hput
              go_wp2_with fail
              go_region_held3 (fun W => (W.cell? ⟨wr.heap.size, 0, none⟩ = some (.int .i64 x.s.k) ∧ W.cell? ⟨wr.heap.size, 1, none⟩ = some (.string x.s.t) ∧ W.cell? ⟨wr.heap.size, 2, none⟩ = some (.int .i64 x.s.n)) ∧ W.cell? ⟨b, off + j * 5 + 1, none⟩ = some (.int .i64 x.n))
                (first | go_keep | assumption)
                (first
                  | ((with_reducible refine hput2.mono ?_); rintro e w6 ⟨⟨u, rfl⟩, hP6, hC6⟩; have hS6 := Hkc.out w6 hC6)
                  | fail "no arm")
              have hC6' : S.Ch p w5 w6 := (S.Ch.of_below (Below.refl _ _).drew (by have := hb5'.size; omega)).trans hC6
              have hM6 := S.mapat_ch hM5 hC6'
              have hso6 : Sorted entCmp (put entCmp (E.drop entCmp L ⟨x.s, x.n⟩) ⟨x.s, x.n⟩) := S.sorted_putE ⟨x.s, x.n⟩ Hso.out
              have hB6 := hB5.trans (hC6'.below.mono (by omega))
              generalize put entCmp (E.drop entCmp L ⟨x.s, x.n⟩) ⟨x.s, x.n⟩ = L6 at hlen hM6 hP6 hso6
              have HM6 := Lib.hid hM6
              have HP6 := Lib.hid hP6
              have Hso6 := Lib.hid hso6
              clear hM5 hM6 hP6 hso6 q0 q1 q2 q3 hC6 hput2
              go_wp2_with fail
              go_meet
              case rel => exact ⟨_, hlen, Hso6, HM6, HP6, hB6⟩
          · as_aux_lemma =>
              have hdr := mapdrop_T w3 m s L x.s HM2.out (by omega)
              rw [S.valOf_get Hh.out Hy.out, Hh.out] at hdr
              go_wp2_with fail
              refine hdr.mono ?_
              rintro e w5 ⟨rfl, hM5, hb5⟩
              have hB5 : Below w.heap.size w w5 := But.below hC2 hb5 hs' hC2.size
              have HP5 := Lib.hid (HP2.out.but hb5 hs1)
              have hbx5 : w5.heap[wr.heap.size]? = _ := (hb5.block _ hxl (by omega)).trans HX2.out
              have q0 : w5.cell? ⟨wr.heap.size, 0, none⟩ = some (.int .i64 x.s.k) := I.cell_of_heap hbx5 (i := 0) rfl
              have q1 : w5.cell? ⟨wr.heap.size, 1, none⟩ = some (.string x.s.t) := I.cell_of_heap hbx5 (i := 1) rfl
              have q2 : w5.cell? ⟨wr.heap.size, 2, none⟩ = some (.int .i64 x.s.n) := I.cell_of_heap hbx5 (i := 2) rfl
              have hy := HyP.out
              clear hdr
              obtain ⟨ak, ck, av, cv, hpl5, hrow5⟩ := HP5.out.rows
              obtain ⟨bk, ok, gk, ov, rfl, rfl, -, u3⟩ := hrow5 P y hy
              obtain ⟨t0, t1, -, -⟩ := S.plain_cells hpl5
              clear hpl5 hrow5 hy
              have hlen : (E.drop entCmp L ⟨x.s, 0⟩).length ≤ L.length + 1 := by have := E.length_drop entCmp L ⟨x.s, 0⟩; omega
              have hso6 : Sorted entCmp (E.drop entCmp L ⟨x.s, 0⟩) := E.sorted_drop _ _ Hso.out
              have Hso6 := Lib.hid hso6
              have Hlen := Lib.hid hlen
              have hdl2 := S.plaindrop_T w5 p L x.s HP5.out Hso.out (by omega)
              generalize E.drop entCmp L ⟨x.s, 0⟩ = L6 at hM5 hdl2 Hso6 Hlen
              have HM5 := Lib.hid hM5
              clear hM5 hso6 hlen hbx5
              go_wp2_with fail
              refine hdl2.mono ?_
              rintro e w6 ⟨⟨u, rfl⟩, hP6, hC6⟩
              have HM6 := Lib.hid (S.mapat_ch HM5.out hC6)
              have HP6 := Lib.hid hP6
              have hB6 := hB5.trans (hC6.below.mono (by omega))
              clear hP6
              go_wp2_with fail
              go_meet
              case rel => exact ⟨L6, Hlen.out, Hso6, HM6, HP6, hB6⟩
          · as_aux_lemma =>
              go_wp2_with fail
              refine (E.mapget_yes w3 m s L x.s HM2.out (by omega) Hh.out).mono ?_
              rintro e w5 ⟨⟨y', rfl, hy'⟩, hb5⟩
              have hy := HyP.out
              obtain rfl : y' = y := Option.some.inj (hy'.symm.trans Hy2.out)
              have hB5 : Below w.heap.size w w5 := hC2.trans (hb5.mono hC2.size)
              have HP5 := Lib.hid (HP2.out.below hb5)
              obtain ⟨ak, ck, av, cv, hpl5, hrow5⟩ := HP5.out.rows
              obtain ⟨bk, ok, gk, ov, rfl, rfl, -, u3⟩ := hrow5 P y' hy
              obtain ⟨t0, t1, -, -⟩ := S.plain_cells hpl5
              clear hpl5 hrow5 hy hy'
              have HM6 := Lib.hid (HM2.out.below hb5)
              have HP6 := HP5
              go_wp2_with fail
              go_meet
              case rel => exact ⟨L, by omega, Hso, HM6, HP6, hB5⟩
          · exfalso; omega
      case rest =>
        obtain ⟨L6, hlen, Hso6, HM6, HP6, hB6⟩ := hcut
        go_wp2_with fail
        rcases L6 with _ | ⟨y, L7⟩
        · as_aux_lemma =>
            refine (E.mapfirst_none_T wc m s HM6.out).mono ?_
            rintro e w7 ⟨rfl, hB7⟩
            have hB7' := hB6.trans (hB7.mono hB6.size)
            have hs0 : same ⟨0, ⟨#[]⟩, 0⟩ ⟨0, ⟨#[]⟩, 0⟩ = true := same_iff.2 rfl
            have hBa : Below w7.heap.size w7 (w7.alloc (.cells #[.int .i64 0, .string ⟨#[]⟩, .int .i64 0] 26)) := (Below.refl _ w7).alloc (Nat.le_refl _) _
            have hba := heap_alloc_new w7 (.cells #[.int .i64 0, .string ⟨#[]⟩, .int .i64 0] 26)
            go_wp2_with fail
            generalize w7.alloc (.cells #[.int .i64 0, .string ⟨#[]⟩, .int .i64 0] 26) = w8 at hBa hba ⊢
            have HM8 := Lib.hid ((HM6.out.below hB7).below hBa)
            have HP8 := Lib.hid ((HP6.out.below hB7).below hBa)
            have hB8 := hB7'.trans (hBa.mono hB7'.size)
            have hln8 := fun n => E.maplen_T (w8.drewN n) m s [] (HM8.out.below (below_drewN _ _ _))
            simp only [show ((([] : List EntV).length : Nat) : Int) = 0 from rfl] at hln8
            have Hln8 := Lib.hid hln8
            clear hln8
            obtain ⟨ak, ck, av, cv, hpl8, -⟩ := HP8.out.rows
            obtain ⟨t0, t1, -, -⟩ := S.plain_cells hpl8
            simp only [List.length_nil] at t0 t1
            have a0 : w8.cell? ⟨w7.heap.size, 0, none⟩ = some (.int .i64 0) := I.cell_of_heap hba (i := 0) rfl
            have a1 : w8.cell? ⟨w7.heap.size, 1, none⟩ = some (.string ⟨#[]⟩) := I.cell_of_heap hba (i := 1) rfl
            have a2 : w8.cell? ⟨w7.heap.size, 2, none⟩ = some (.int .i64 0) := I.cell_of_heap hba (i := 2) rfl
            have t0' : ∀ n, (w8.drewN n).cell? ⟨p, 0, none⟩ = some (.slice ak 0 ck) := fun _ => t0
            have t1' : ∀ n, (w8.drewN n).cell? ⟨p, 1, none⟩ = some (.slice av 0 cv) := fun _ => t1
            have a0' : ∀ n, (w8.drewN n).cell? ⟨w7.heap.size, 0, none⟩ = some (.int .i64 0) := fun _ => a0
            have a1' : ∀ n, (w8.drewN n).cell? ⟨w7.heap.size, 1, none⟩ = some (.string ⟨#[]⟩) := fun _ => a1
            have a2' : ∀ n, (w8.drewN n).cell? ⟨w7.heap.size, 2, none⟩ = some (.int .i64 0) := fun _ => a2
            clear hba hpl8
            go_big_quiet (first | (go_at_call 20; exact Calls.quiet_of_same ((Hln8.out _).mono fun _ _ h => ⟨h.1, h.2.symm⟩)))
            go_wp2_with fail
            go_roundg (l.length - (j + 1))
            case measure => rw [Hk.out]; omega
            case rel => exact ⟨j + 1, [], by go_num, by omega, by simp, Lib.hid rfl, Lib.hid List.Pairwise.nil, Lib.hid (HM8.out.below (below_drewN _ _ _)), Lib.hid (HP8.out.below (below_drewN _ _ _)), hB8.trans (below_drewN _ _ _)⟩
        · as_aux_lemma =>
            have hl7 : (y :: L7).length ≤ 201 := by omega
            refine (E.mapfirst_T wc m s y L7 HM6.out (by omega)).mono ?_
            rintro e w7 ⟨rfl, hB7⟩
            have hB7' := hB6.trans (hB7.mono hB6.size)
            have hsy : same ⟨y.key.k, y.key.t, y.key.n⟩ ⟨y.key.k, y.key.t, y.key.n⟩ = true := same_iff.2 rfl
            have hBa : Below w7.heap.size w7 (w7.alloc (.cells #[.int .i64 y.key.k, .string y.key.t, .int .i64 y.key.n] 26)) := (Below.refl _ w7).alloc (Nat.le_refl _) _
            have hba := heap_alloc_new w7 (.cells #[.int .i64 y.key.k, .string y.key.t, .int .i64 y.key.n] 26)
            go_wp2_with fail
            generalize w7.alloc (.cells #[.int .i64 y.key.k, .string y.key.t, .int .i64 y.key.n] 26) = w8 at hBa hba ⊢
            have HM8 := Lib.hid ((HM6.out.below hB7).below hBa)
            have HP8 := Lib.hid ((HP6.out.below hB7).below hBa)
            have hB8 := hB7'.trans (hBa.mono hB7'.size)
            have hln8 := fun n => E.maplen_T (w8.drewN n) m s (y :: L7) (HM8.out.below (below_drewN _ _ _))
            obtain ⟨ak, ck, av, cv, hpl8, hrow8⟩ := HP8.out.rows
            obtain ⟨bk, ok, gk, ov, rfl, rfl, ⟨u0, u1, u2⟩, u3⟩ := hrow8 0 y rfl
            obtain ⟨t0, t1, -, -⟩ := S.plain_cells hpl8
            simp only [Nat.zero_mul, Nat.add_zero] at u0 u1 u2 u3
            obtain ⟨nn, hnn⟩ : ∃ nn, (y :: L7).length = nn := ⟨_, rfl⟩
            rw [hnn] at t0 t1 hl7
            simp only [hnn] at hln8
            have Hln8 := Lib.hid hln8
            have hn1 : ((0 : Int) < (nn : Int)) = True := eq_true (by rw [← hnn]; simp <;> omega)
            have hn2 : decide ((0 : Int) < (nn : Int)) = true := decide_eq_true (by rw [← hnn]; simp <;> omega)
            have hn3 : 0 < nn := by rw [← hnn]; simp
            have Hnn := Lib.hid hnn
            have a0 : w8.cell? ⟨w7.heap.size, 0, none⟩ = some (.int .i64 y.key.k) := I.cell_of_heap hba (i := 0) rfl
            have a1 : w8.cell? ⟨w7.heap.size, 1, none⟩ = some (.string y.key.t) := I.cell_of_heap hba (i := 1) rfl
            have a2 : w8.cell? ⟨w7.heap.size, 2, none⟩ = some (.int .i64 y.key.n) := I.cell_of_heap hba (i := 2) rfl
            have t0' : ∀ n, (w8.drewN n).cell? ⟨p, 0, none⟩ = some (.slice (some ⟨bk, ok, none⟩) nn ck) := fun _ => t0
            have t1' : ∀ n, (w8.drewN n).cell? ⟨p, 1, none⟩ = some (.slice (some ⟨gk, ov, none⟩) nn cv) := fun _ => t1
            have a0' : ∀ n, (w8.drewN n).cell? ⟨w7.heap.size, 0, none⟩ = some (.int .i64 y.key.k) := fun _ => a0
            have a1' : ∀ n, (w8.drewN n).cell? ⟨w7.heap.size, 1, none⟩ = some (.string y.key.t) := fun _ => a1
            have a2' : ∀ n, (w8.drewN n).cell? ⟨w7.heap.size, 2, none⟩ = some (.int .i64 y.key.n) := fun _ => a2
            have u0' : ∀ n, (w8.drewN n).cell? ⟨bk, ok, none⟩ = some (.int .i64 y.key.k) := fun _ => u0
            have u1' : ∀ n, (w8.drewN n).cell? ⟨bk, ok + 1, none⟩ = some (.string y.key.t) := fun _ => u1
            have u2' : ∀ n, (w8.drewN n).cell? ⟨bk, ok + 2, none⟩ = some (.int .i64 y.key.n) := fun _ => u2
            have u3' : ∀ n, (w8.drewN n).cell? ⟨gk, ov, none⟩ = some (.int .i64 y.v) := fun _ => u3
            clear hba hpl8 hrow8 hnn hln8
            go_big_quiet (first | (go_at_call 20; exact Calls.quiet_of_same ((Hln8.out _).mono fun _ _ h => ⟨h.1, h.2.symm⟩)))
            go_wp2_with fail
            go_roundg (l.length - (j + 1))
            case measure => rw [Hk.out]; omega
            case rel => exact ⟨j + 1, y :: L7, by go_num, by omega, by omega, Lib.hid rfl, Hso6, Lib.hid (HM8.out.below (below_drewN _ _ _)), Lib.hid (HP8.out.below (below_drewN _ _ _)), hB8.trans (below_drewN _ _ _)⟩
    · obtain rfl : j = l.length := by omega
      go_wp2_with fail
      refine (E.lawpairs_T wr m s L ⟨0, ⟨#[]⟩, 0⟩ 1000 HM.out (by omega) (by omega) (by omega)).mono ?_
      rintro e w8 ⟨vk, vv, rfl, hrk, hrv, hB8⟩
      have hk8 := row_keys hrk
      have hv8 := row_vals hrv
      obtain ⟨qk, qv, K, -, -, hpl, hka, -, hva⟩ := HP.out.below hB8
      obtain ⟨c0, c1, -, -⟩ := S.plain_cells hpl
      have hka8 := Lib.hid hka.slice
      have hva8 := Lib.hid (rw_ints hva)
      have Hk8 := Lib.hid hk8
      have Hv8 := Lib.hid hv8
      have Hpl := Lib.hid hpl
      clear hrk hrv hk8 hv8 hka hva hpl
      go_wp2_with fail
      refine (S.syms_T w8 vk qk (S.keysL L) (S.keysL L) Hk8.out hka8.out (by simp; omega) (by simp; omega)).mono ?_
      rintro e w9 ⟨⟨b, rfl, hbt⟩, hB9⟩
      obtain rfl : b = true := hbt.2 rfl
      have hpl9 : S.PlainAt w9 p qk qv := (hB9.block _ (lt_of_block Hpl.out)).trans Hpl.out
      obtain ⟨d0, d1, -, -⟩ := S.plain_cells hpl9
      clear hpl9 c0 c1 hbt
      go_wp2_with fail
      refine (ints2_T w9 vv qv (S.valsL L) (Hv8.out.below hB9) (hva8.out.below hB9) (by simp; omega)).mono ?_
      rintro e w10 ⟨rfl, hB10⟩
      go_wp2_with fail
      refine (wakes_T w10).mono ?_
      rintro e w11 ⟨rfl, hB11⟩
      go_wp2_with fail
      go_ret
      have t1 := hB.trans (hB8.mono hB.size)
      have t2 := t1.trans (hB9.mono t1.size)
      have t3 := t2.trans (hB10.mono t2.size)
      exact ⟨rfl, t3.trans (hB11.mono t3.size)⟩

set_option maxRecDepth 100000 in
set_option maxHeartbeats 400000 in
theorem bplays_any (w : World) (v : Value) (l : List ActV) (hv : ActsOf w v l) :
    Calls Try.prog 3 #[v] w fun e w' => e = .returned (.bool true) ∧ Below w.heap.size w w' := by
  by_cases h : l.length ≤ 200
  · exact bplays_walk w v l hv h
  · obtain ⟨a, cap, rfl, -⟩ := hv
    have f1 : ((200 : Int) < (l.length : Int)) = True := eq_true (by omega)
    clear h
    go_enter Try.func3, Try.ntmps3
    go_wp2_with fail
    refine (E.mapnew_T w).mono ?_
    rintro e w1 ⟨m, s, rfl, hm, hs', hM, hB1⟩
    go_wp2_with fail
    refine (wakes_T w1).mono ?_
    rintro e w2 ⟨rfl, hB2⟩
    go_wp2_with fail
    go_ret
    exact ⟨rfl, hB1.trans (hB2.mono hB1.size)⟩

end Go.Proofs.Ytbpibbcehfkeeaa
