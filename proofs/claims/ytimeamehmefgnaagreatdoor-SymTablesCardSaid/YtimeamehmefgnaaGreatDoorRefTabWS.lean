/- What Put and Fresh of the statements' own table do. Conditions: it lies in memory; at most 10000 symbols, all right. -/
import Derived.Test.YtimeamehmefgnaaGreatDoorRefTabS
namespace Go.Proofs.YtimeamehmefgnaaGreatDoor
open Go Go.RowKit Go.Shelf

theorem putsV_take {L xs : List SymV} {j : Nat} {x : SymV} (hx : xs[j]? = some x) : putsV L (xs.take (j + 1)) = put symCmp (putsV L (xs.take j)) x := by
  rw [List.take_add_one, hx]
  simp [putsV, List.foldl_append]

theorem RTabAt.store {H : Nat} {w : World} {r : Nat} {room : Int} {v v' : Value} {L L' : List SymV} (h : RTabAt H w r room v L) (hr : r < H) (hs : S.SliceGe H w v' L') (hf : S.Fits v') (ho : Sorted symCmp L') : RTabAt H (w.setCell ⟨r, 1, none⟩ v') r room v' L' :=
  ⟨by have := S.set_block (o := 1) h.1 v'; simpa using this, hs.but ((But.refl r w).setCell _ _) hr, hf, ho⟩

/-- A slice of the values xs, in a block from H on that is not b0. -/
def SliceNo (b0 H : Nat) (w : World) (v : Value) (xs : List SymV) : Prop :=
  ∃ a cap, v = .slice a xs.length cap ∧ (xs = [] ∨ ∃ b off, H ≤ b ∧ b ≠ b0 ∧ a = some ⟨b, off, none⟩ ∧ S.Elems w b off xs)

theorem SliceNo.ge {b0 H : Nat} {w : World} {v : Value} {xs : List SymV} (h : SliceNo b0 H w v xs) : S.SliceGe H w v xs := by
  obtain ⟨a, cap, rfl, h | ⟨b, off, hb, -, h⟩⟩ := h
  · exact ⟨a, cap, rfl, .inl h⟩
  · exact ⟨a, cap, rfl, .inr ⟨b, off, hb, h⟩⟩

theorem SliceNo.of_ge {b0 H : Nat} {w : World} {v : Value} {xs : List SymV} (h : S.SliceGe H w v xs) (hb : w.heap.size ≤ b0) : SliceNo b0 H w v xs := by
  obtain ⟨a, cap, rfl, h | ⟨b, off, hb, rfl, h⟩⟩ := h
  · exact ⟨a, cap, rfl, .inl h⟩
  · cases xs with
    | nil => exact ⟨_, cap, rfl, .inl rfl⟩
    | cons x xs => exact ⟨_, cap, rfl, .inr ⟨b, off, hb, by have : b < w.heap.size := World.block_lt_of_cell? w _ (h 0 x rfl).1; omega, rfl, h⟩⟩

theorem SliceNo.of_new {b0 H B : Nat} {w : World} {v : Value} {xs : List SymV} (h : S.SliceGe B w v xs) (h1 : H ≤ B) (h2 : b0 < B) : SliceNo b0 H w v xs := by
  obtain ⟨a, cap, rfl, h | ⟨b, off, hb, rfl, h⟩⟩ := h
  · exact ⟨a, cap, rfl, .inl h⟩
  · exact ⟨_, cap, rfl, .inr ⟨b, off, by omega, by omega, rfl, h⟩⟩

theorem SliceNo.below {b0 H : Nat} {w w' : World} {v : Value} {xs : List SymV} (h : SliceNo b0 H w v xs) (hB : Below w.heap.size w w') : SliceNo b0 H w' v xs := by
  obtain ⟨a, cap, rfl, h | ⟨b, off, hb, hn, rfl, h⟩⟩ := h
  · exact ⟨a, cap, rfl, .inl h⟩
  · cases xs with
    | nil => exact ⟨_, cap, rfl, .inl rfl⟩
    | cons x xs => exact ⟨_, cap, rfl, .inr ⟨b, off, hb, hn, rfl, h.below hB (World.block_lt_of_cell? w _ (h 0 x rfl).1)⟩⟩

theorem SliceNo.but {b0 H : Nat} {w w' : World} {v : Value} {xs : List SymV} (h : SliceNo b0 H w v xs) (hb : But b0 w w') : S.SliceGe H w' v xs := by
  obtain ⟨a, cap, rfl, h | ⟨b, off, hB, hn, rfl, h⟩⟩ := h
  · exact ⟨a, cap, rfl, .inl h⟩
  · exact ⟨_, cap, rfl, .inr ⟨b, off, hB, rfl, h.but hb hn⟩⟩

theorem SliceNo.butr {b0 H r : Nat} {w w' : World} {v : Value} {xs : List SymV} (h : SliceNo b0 H w v xs) (hb : But r w w') (hr : r < H) : SliceNo b0 H w' v xs := by
  obtain ⟨a, cap, rfl, h | ⟨b, off, hB, hn, rfl, h⟩⟩ := h
  · exact ⟨a, cap, rfl, .inl h⟩
  · exact ⟨_, cap, rfl, .inr ⟨b, off, hB, hn, rfl, h.but hb (by omega)⟩⟩

theorem refputN_T (b0 H : Nat) (w : World) (v : Value) (xs : List SymV) (x : SymV) (hv : SliceNo b0 H w v xs) (hH : H ≤ w.heap.size) (hb0 : b0 < w.heap.size) (hf : S.Fits v) (hso : Sorted symCmp xs) (hs : xs.length ≤ 100000) :
    Calls Tryz.prog 33 #[v, .agg #[.int .i64 x.k, .string x.t, .int .i64 x.n]] w fun e w' => ∃ a n cap, e = .returned (.slice a n cap) ∧ SliceNo b0 H w' (.slice a n cap) (put symCmp xs x) ∧ S.Fits (.slice a n cap) ∧ Below w.heap.size w w' := by
  refine (S.refput_T w v xs x hv.ge.slice hf hso hs).mono ?_
  rintro e w' ⟨v', rfl, hf', hv', hB⟩
  have h : SliceNo b0 H w' v' (put symCmp xs x) := by
    rcases hv' with ⟨rfl, e⟩ | h
    · rw [e]; exact hv.below hB
    · exact SliceNo.of_new h hH hb0
  obtain ⟨a, cap, rfl, -⟩ := id h
  exact ⟨a, _, cap, rfl, h, hf', hB⟩

theorem reftab_bad (H : Nat) (w : World) (r : Nat) (v : Value) (xs : List SymV) (j : Nat) (x : SymV) (hv : S.SliceOf w v xs) (hs : xs.length ≤ 1000) (hx : xs[j]? = some x) (hbad : validB x = false) (hok : ∀ (i : Nat) (y : SymV), i < j → xs[i]? = some y → validB y = true) :
    Calls Tryz.prog 10 #[.pointer (some ⟨r, 0, none⟩), v] w fun e w' => e = .returned (.int .i64 9) ∧ Below w.heap.size w w' := by
  have hj : j < xs.length := (List.getElem?_eq_some_iff.1 hx).1
  obtain ⟨a, cap, rfl, hc⟩ := hv
  obtain ⟨b, off, rfl, hel⟩ : ∃ b off, a = some ⟨b, off, none⟩ ∧ S.Elems w b off xs := by
    rcases hc with h | h
    · rw [h] at hj; simp at hj
    · exact h
  have hbl : b < w.heap.size := World.block_lt_of_cell? w _ (hel j x hx).1
  have Hel := Lib.hid hel
  have Hx := Lib.hid hx
  have Hok := Lib.hid hok
  clear hc hel hx hok
  go_enter Tryz.func10, Tryz.ntmps10
  go_wp2_with fail
  go_loopg [5] (xs.length - 0) (fun k i wr => ∃ q : Nat, i = .int .i64 q ∧ q ≤ j ∧ Hid (k = xs.length - q) ∧ Below w.heap.size w wr)
  case atStart => exact ⟨0, rfl, by omega, Lib.hid rfl, Below.refl _ _⟩
  case round =>
    obtain ⟨q, rfl, hq, Hk, hB⟩ := hrel
    have hlt : q < xs.length := by omega
    obtain ⟨y, hy⟩ : ∃ y, xs[q]? = some y := ⟨xs[q], by simp [hlt]⟩
    obtain ⟨e0, e1, e2⟩ := (Hel.out.below hB hbl) q y hy
    have hval := refvalid_any wr y
    by_cases hqj : q = j
    · subst hqj
      have : y = x := by have := Hx.out; rw [hy] at this; exact Option.some.inj this
      subst this
      rw [hbad] at hval
      clear hy
      go_wp2_with fail
      refine hval.mono ?_
      rintro e w2 ⟨rfl, hB2⟩
      go_wp2_with fail
      go_ret
      exact ⟨rfl, hB.trans (hB2.mono hB.size)⟩
    · rw [Hok.out q y (by omega) hy] at hval
      clear hy
      go_wp2_with fail
      refine hval.mono ?_
      rintro e w2 ⟨rfl, hB2⟩
      go_wp2_with fail
      go_roundg (xs.length - (q + 1))
      case measure => rw [Hk.out]; omega
      case rel => exact ⟨q + 1, by go_num, by omega, Lib.hid rfl, hB.trans (hB2.mono hB.size)⟩

set_option maxRecDepth 100000 in
set_option maxHeartbeats 3200000 in
theorem reftab_put (H : Nat) (w : World) (r : Nat) (room : Int) (v u : Value) (L xs : List SymV) (h : RTabAt H w r room v L) (hH : H ≤ w.heap.size) (hr : r < H) (hL : L.length ≤ 10000) (hu : S.SliceOf w u xs) (hs : xs.length ≤ 1000) (hok : ∀ y ∈ xs, validB y = true) :
    Calls Tryz.prog 10 #[.pointer (some ⟨r, 0, none⟩), u] w fun e w' => e = .returned (.int .i64 (if ((putsV L xs).length : Int) ≤ room then 0 else 20)) ∧ (∃ v', RTabAt H w' r room v' (if ((putsV L xs).length : Int) ≤ room then putsV L xs else L)) ∧ But r w w' := by
  obtain ⟨a, cap, rfl, hc⟩ := hu
  have Hc := Lib.hid hc
  have Hok := Lib.hid hok
  have HR := Lib.hid (fun W (hB : Below w.heap.size w W) => h.below hB)
  have hlen := S.putl_length xs L
  obtain ⟨E, hE⟩ : ∃ E : Int, (if ((putsV L xs).length : Int) ≤ room then (0 : Int) else 20) = E := ⟨_, rfl⟩
  obtain ⟨M, hM⟩ : ∃ M, (if ((putsV L xs).length : Int) ≤ room then putsV L xs else L) = M := ⟨_, rfl⟩
  rw [hE, hM]
  have HE := Lib.hid hE
  have HM := Lib.hid hM
  clear hc hok h hE hM
  go_enter Tryz.func10, Tryz.ntmps10
  go_wp2_with fail
  go_loopg [5] (xs.length - 0) (fun k i wr => ∃ q : Nat, i = .int .i64 q ∧ q ≤ xs.length ∧ Hid (k = xs.length - q) ∧ Below w.heap.size w wr)
  case atStart => exact ⟨0, rfl, by omega, Lib.hid rfl, Below.refl _ _⟩
  case round =>
    obtain ⟨q, rfl, hq, Hk, hB⟩ := hrel
    by_cases hlt : q < xs.length
    · obtain ⟨b, off, rfl, hel⟩ : ∃ b off, a = some ⟨b, off, none⟩ ∧ S.Elems w b off xs := by
        rcases Hc.out with h | h
        · rw [h] at hlt; simp at hlt
        · exact h
      obtain ⟨y, hy⟩ : ∃ y, xs[q]? = some y := ⟨xs[q], by simp [hlt]⟩
      have hbl : b < w.heap.size := World.block_lt_of_cell? w _ (hel q y hy).1
      obtain ⟨e0, e1, e2⟩ := (hel.below hB hbl) q y hy
      have hval := refvalid_any wr y
      rw [Hok.out y (List.mem_of_getElem? hy)] at hval
      clear hy hel
      go_wp2_with fail
      refine hval.mono ?_
      rintro e w2 ⟨rfl, hB2⟩
      go_wp2_with fail
      go_roundg (xs.length - (q + 1))
      case measure => rw [Hk.out]; omega
      case rel => exact ⟨q + 1, by go_num, by omega, Lib.hid rfl, hB.trans (hB2.mono hB.size)⟩
    · obtain rfl : q = xs.length := by omega
      have hR := HR.out wr hB
      obtain ⟨-, c1, -⟩ := hR.cells
      have Hlt := Lib.hid hlt
      clear hlt
      go_wp2_with fail
      clear c1
      go_loopg [6, 7] (xs.length - 0) (fun k al i wr2 => ∃ (q : Nat) (v' : Value), i = .int .i64 q ∧ al = v' ∧ q ≤ xs.length ∧ Hid (k = xs.length - q) ∧ Hid (S.SliceGe H wr2 v' (putsV L (xs.take q)) ∧ S.Fits v' ∧ Sorted symCmp (putsV L (xs.take q))) ∧ Below w.heap.size w wr2)
      case atStart => exact ⟨0, v, rfl, rfl, by omega, Lib.hid rfl, Lib.hid ⟨by simpa [putsV] using hR.2.1, hR.2.2.1, by simpa [putsV] using hR.2.2.2⟩, hB⟩
      case round =>
        obtain ⟨q, v', rfl, rfl, hq2, Hk2, HS, hB2⟩ := hrel
        by_cases hlt : q < xs.length
        · obtain ⟨b, off, rfl, hel⟩ : ∃ b off, a = some ⟨b, off, none⟩ ∧ S.Elems w b off xs := by
            rcases Hc.out with h | h
            · rw [h] at hlt; simp at hlt
            · exact h
          obtain ⟨y, hy⟩ : ∃ y, xs[q]? = some y := ⟨xs[q], by simp [hlt]⟩
          have hbl : b < w.heap.size := World.block_lt_of_cell? w _ (hel q y hy).1
          obtain ⟨e0, e1, e2⟩ := (hel.below hB2 hbl) q y hy
          have hl2 : (putsV L (xs.take q)).length ≤ L.length + (xs.take q).length := S.putl_length _ _
          have hput := S.refput_T _ _ _ y HS.out.1.slice HS.out.2.1 HS.out.2.2 (by have := List.length_take_le q xs; omega)
          have Hpt := Lib.hid (putsV_take (L := L) hy)
          clear hy hel hl2
          go_wp2_with fail
          refine hput.mono ?_
          rintro e w2 ⟨v2, rfl, hf2, hv2, hB3⟩
          go_wp2_with fail
          go_roundg (xs.length - (q + 1))
          case measure => rw [Hk2.out]; omega
          case rel =>
            refine ⟨q + 1, v2, by go_num, rfl, by omega, Lib.hid rfl, Lib.hid ⟨?_, hf2, ?_⟩, hB2.trans (hB3.mono hB2.size)⟩
            · rw [Hpt.out]
              rcases hv2 with ⟨rfl, e⟩ | hv2
              · rw [e]; exact HS.out.1.below hB3
              · exact hv2.mono (Nat.le_trans hH hB2.size)
            · rw [Hpt.out]; exact sorted_put symCmp_lin _ _ HS.out.2.2
        · obtain rfl : q = xs.length := by omega
          obtain ⟨hS, hf, ho⟩ := HS.out
          rw [List.take_length] at hS ho
          have hR2 := HR.out _ hB2
          obtain ⟨c0, c1, c2⟩ := hR2.cells
          obtain ⟨a', cap', rfl, -⟩ := id hS
          have HS2 := Lib.hid hS
          clear hlt hS ho
          by_cases hfit : ((putsV L xs).length : Int) ≤ room
          · have f1 : (room < ((putsV L xs).length : Int)) = False := eq_false (by omega)
            have Hfit := Lib.hid hfit
            clear hfit
            go_wp2_with fail
            go_ret
            have hM : M = putsV L xs := by rw [← HM.out, if_pos (by have := Hfit.out; omega)]
            have hE : E = 0 := by rw [← HE.out, if_pos (by have := Hfit.out; omega)]
            have hst := hR2.store hr HS2.out hf (by have := HS.out.2.2; rwa [List.take_length] at this)
            exact ⟨by rw [hE]; rfl, ⟨_, by rw [hM]; exact hst⟩, (But.of_below hB2).trans ((But.refl r _).setCell _ _)⟩
          · have f1 : (room < ((putsV L xs).length : Int)) = True := eq_true (by omega)
            have Hfit := Lib.hid hfit
            clear hfit
            go_wp2_with fail
            go_ret
            have hM : M = L := by rw [← HM.out, if_neg (by have := Hfit.out; omega)]
            have hE : E = 20 := by rw [← HE.out, if_neg (by have := Hfit.out; omega)]
            rw [← hM] at hR2
            exact ⟨by rw [hE]; rfl, ⟨v, hR2⟩, But.of_below hB2⟩

theorem reftabput_T (H : Nat) (w : World) (r : Nat) (room : Int) (v u : Value) (L xs : List SymV) (h : RTabAt H w r room v L) (hH : H ≤ w.heap.size) (hr : r < H) (hL : L.length ≤ 10000) (hu : S.SliceOf w u xs) (hs : xs.length ≤ 1000) :
    Calls Tryz.prog 10 #[.pointer (some ⟨r, 0, none⟩), u] w fun e w' => e = .returned (.int .i64 (putE L xs room).1) ∧ (∃ v', RTabAt H w' r room v' (putE L xs room).2) ∧ But r w w' := by
  unfold putE
  by_cases ha : ∀ y ∈ xs, validB y = true
  · rw [if_pos (List.all_eq_true.2 ha)]
    refine (reftab_put H w r room v u L xs h hH hr hL hu hs ha).mono ?_
    rintro e w' ⟨rfl, h1, h2⟩
    by_cases hf : ((putsV L xs).length : Int) ≤ room
    · simp only [if_pos hf] at h1 ⊢; exact ⟨by first | rfl | trivial, h1, h2⟩
    · simp only [if_neg hf] at h1 ⊢; exact ⟨by first | rfl | trivial, h1, h2⟩
  · rw [if_neg (fun h => ha (List.all_eq_true.1 h))]
    obtain ⟨j, x, h1, h2, h3⟩ := first_bad xs ha
    refine (reftab_bad H w r u xs j x hu hs h1 h2 h3).mono ?_
    rintro e w' ⟨rfl, hB⟩
    exact ⟨rfl, ⟨v, h.below hB⟩, But.of_below hB⟩

set_option maxRecDepth 100000 in
set_option maxHeartbeats 3200000 in
theorem reffresh_no (H : Nat) (w : World) (r : Nat) (room c : Int) (v : Value) (L : List SymV) (h : RTabAt H w r room v L) (hval : ∀ x ∈ L, validB x = true) (hL : L.length ≤ 10000) (E : Int) (hE : (capI c = false ∧ E = 1) ∨ (capI c = true ∧ E = 20 ∧ (room ≤ (L.length : Int) ∨ 1048576 < maxN L c + 1))) :
    Calls Tryz.prog 12 #[.pointer (some ⟨r, 0, none⟩), .int .u8 c] w fun e w' => e = .returned (.tuple #[.agg #[.int .i64 0, .string ⟨#[]⟩, .int .i64 0], .int .i64 E]) ∧ Below w.heap.size w w' := by
  have hB0 : Below w.heap.size w (w.alloc (.cells #[.int .i64 0, .string ⟨#[]⟩, .int .i64 0] 33)) := (Below.refl _ w).alloc (Nat.le_refl _) _
  have hb0 := heap_alloc_new w (.cells #[.int .i64 0, .string ⟨#[]⟩, .int .i64 0] 33)
  have h0 := h.below hB0
  have hnext := refnext_T H _ r room c v L h0 hval (by omega)
  have hg0 := maxN_nonneg L c
  have hg1 := maxN_le hval c
  rcases hE with ⟨hc, rfl⟩ | ⟨hc, rfl, hr⟩
  · rw [show nextV L c = 0 by simp [nextV, hc]] at hnext
    go_enter Tryz.func12, Tryz.ntmps12
    go_wp2_with fail
    generalize (w.alloc (.cells #[.int .i64 0, .string ⟨#[]⟩, .int .i64 0] 33)) = W0 at hB0 hb0 h0 hnext ⊢
    refine hnext.mono ?_
    rintro e w1 ⟨rfl, hB1⟩
    have hC1 := hB0.trans (hB1.mono hB0.size)
    have hb1 := (hB1.block _ (lt_of_block hb0)).trans hb0
    have hz1 := S.zero_cells hb1
    have Hb1 := Lib.hid hb1
    clear hb0 hb1 hnext
    go_wp2_with fail
    have hm := S.mem_sto w1 w.heap.size ⟨0, ⟨#[]⟩, 0⟩ Hb1.out
    have hB4 : But w.heap.size w1 _ := S.but_sto w1 w.heap.size ⟨0, ⟨#[]⟩, 0⟩
    dsimp only at hm hB4
    generalize (((w1.setCell ⟨w.heap.size, 0, none⟩ _).setCell ⟨w.heap.size, 1, none⟩ _).setCell ⟨w.heap.size, 2, none⟩ _) = W at hm hB4 ⊢
    refine bodyPost_ret (v := .tuple #[.agg #[.int .i64 0, .string ⟨#[]⟩, .int .i64 0], .int .i64 1]) (by simp [results, Tryz.results12, go_sem, hm]) rfl ⟨rfl, S.below_but hC1 hB4 (Nat.le_refl _) hC1.size⟩
  · rw [show nextV L c = maxN L c + 1 by simp [nextV, hc]] at hnext
    generalize maxN L c = g at hr hg0 hg1 hnext
    have z1 : (g + 1 == 0) = false := by simp; omega
    have Hr := Lib.hid hr
    clear hr
    go_enter Tryz.func12, Tryz.ntmps12
    go_wp2_with fail
    generalize (w.alloc (.cells #[.int .i64 0, .string ⟨#[]⟩, .int .i64 0] 33)) = W0 at hB0 hb0 h0 hnext ⊢
    refine hnext.mono ?_
    rintro e w1 ⟨rfl, hB1⟩
    have h1 := h0.below hB1
    have hC1 := hB0.trans (hB1.mono hB0.size)
    have hb1 := (hB1.block _ (lt_of_block hb0)).trans hb0
    obtain ⟨c0, c1, -⟩ := h1.cells
    obtain ⟨a, cap, rfl, -⟩ := h1.2.1
    have c0' : ∀ n, (w1.drewN n).cell? ⟨r, 0, none⟩ = some (.int .i64 room) := fun n => c0
    have c1' : ∀ n, (w1.drewN n).cell? ⟨r, 1, none⟩ = some (.slice a L.length cap) := fun n => c1
    have hz1 := S.zero_cells hb1
    have Hb1 := Lib.hid hb1
    clear hb0 hnext hb1 h0 h1 h
    by_cases hA : room ≤ (L.length : Int)
    · have cA : decide (room ≤ (L.length : Int)) = true := decide_eq_true hA
      go_wp2_with fail
      go_quiet (fail)
      go_wp2_with fail
      have hm := S.mem_sto (w1.drewN nq) w.heap.size ⟨0, ⟨#[]⟩, 0⟩ Hb1.out
      have hB4 : But w.heap.size (w1.drewN nq) _ := S.but_sto (w1.drewN nq) w.heap.size ⟨0, ⟨#[]⟩, 0⟩
      dsimp only at hm hB4
      generalize ((((w1.drewN nq).setCell ⟨w.heap.size, 0, none⟩ _).setCell ⟨w.heap.size, 1, none⟩ _).setCell ⟨w.heap.size, 2, none⟩ _) = W at hm hB4 ⊢
      refine bodyPost_ret (v := .tuple #[.agg #[.int .i64 0, .string ⟨#[]⟩, .int .i64 0], .int .i64 20]) (by simp [results, Tryz.results12, go_sem, hm]) rfl ⟨rfl, S.below_but (hC1.trans (below_drewN _ _ _)) hB4 (Nat.le_refl _) hC1.size⟩
    · have cA : decide (room ≤ (L.length : Int)) = false := decide_eq_false hA
      have cB : 1048576 < g + 1 := by rcases Hr.out with h | h; exact absurd h hA; exact h
      have cB' : decide (1048576 < g + 1) = true := decide_eq_true cB
      have hA' : (room ≤ (L.length : Int)) = False := eq_false hA
      go_wp2_with fail
      go_quiet (fail)
      go_wp2_with fail
      have hm := S.mem_sto (w1.drewN nq) w.heap.size ⟨0, ⟨#[]⟩, 0⟩ Hb1.out
      have hB4 : But w.heap.size (w1.drewN nq) _ := S.but_sto (w1.drewN nq) w.heap.size ⟨0, ⟨#[]⟩, 0⟩
      dsimp only at hm hB4
      generalize ((((w1.drewN nq).setCell ⟨w.heap.size, 0, none⟩ _).setCell ⟨w.heap.size, 1, none⟩ _).setCell ⟨w.heap.size, 2, none⟩ _) = W at hm hB4 ⊢
      refine bodyPost_ret (v := .tuple #[.agg #[.int .i64 0, .string ⟨#[]⟩, .int .i64 0], .int .i64 20]) (by simp [results, Tryz.results12, go_sem, hm]) rfl ⟨rfl, S.below_but (hC1.trans (below_drewN _ _ _)) hB4 (Nat.le_refl _) hC1.size⟩

set_option maxRecDepth 100000 in
set_option maxHeartbeats 3200000 in
theorem reffresh_ok (H : Nat) (w : World) (r : Nat) (room c : Int) (v : Value) (L : List SymV) (h : RTabAt H w r room v L) (hH : H ≤ w.heap.size) (hrH : r < H) (hval : ∀ x ∈ L, validB x = true) (hL : L.length ≤ 10000) (hc : capI c = true) (hr : (L.length : Int) < room) (hn : maxN L c + 1 ≤ 1048576) :
    Calls Tryz.prog 12 #[.pointer (some ⟨r, 0, none⟩), .int .u8 c] w fun e w' => e = .returned (.tuple #[.agg #[.int .i64 1, .string (letterB c), .int .i64 (maxN L c + 1)], .int .i64 0]) ∧ (∃ v', RTabAt H w' r room v' (put symCmp L (freshS c (maxN L c + 1)))) ∧ But r w w' := by
  have hB0 : Below w.heap.size w (w.alloc (.cells #[.int .i64 0, .string ⟨#[]⟩, .int .i64 0] 33)) := (Below.refl _ w).alloc (Nat.le_refl _) _
  have hb0 := heap_alloc_new w (.cells #[.int .i64 0, .string ⟨#[]⟩, .int .i64 0] 33)
  have h0 := h.below hB0
  have hnext := refnext_T H _ r room c v L h0 hval (by omega)
  have hg0 := maxN_nonneg L c
  rw [show nextV L c = maxN L c + 1 by simp [nextV, hc]] at hnext
  obtain ⟨g, hgg⟩ : ∃ g, maxN L c = g := ⟨_, rfl⟩
  rw [hgg] at hn hg0 hnext ⊢
  have z1 : (g + 1 == 0) = false := by simp; omega
  have z2 : decide (room ≤ (L.length : Int)) = false := decide_eq_false (by omega)
  have z2' : (room ≤ (L.length : Int)) = False := eq_false (by omega)
  have z3 : decide (1048576 < g + 1) = false := decide_eq_false (by omega)
  have z3' : (1048576 < g + 1) = False := eq_false (by omega)
  have hcl := conv_letter
  have hrw : r < w.heap.size := lt_of_block h.1
  have hN := SliceNo.of_ge (b0 := w.heap.size) h.2.1 (Nat.le_refl _)
  have hso := h.2.2.2
  clear hgg
  go_enter Tryz.func12, Tryz.ntmps12
  go_wp2_with fail
  generalize (w.alloc (.cells #[.int .i64 0, .string ⟨#[]⟩, .int .i64 0] 33)) = W0 at hB0 hb0 h0 hnext ⊢
  refine hnext.mono ?_
  rintro e w1 ⟨rfl, hB1⟩
  have h1 := h0.below hB1
  have hC1 := hB0.trans (hB1.mono hB0.size)
  have hb1 := (hB1.block _ (lt_of_block hb0)).trans hb0
  obtain ⟨c0, c1, -⟩ := h1.cells
  obtain ⟨a, cap, rfl, -⟩ := id h1.2.1
  have c0' : ∀ n, (w1.drewN n).cell? ⟨r, 0, none⟩ = some (.int .i64 room) := fun n => c0
  have c1' : ∀ n, (w1.drewN n).cell? ⟨r, 1, none⟩ = some (.slice a L.length cap) := fun n => c1
  have H1 := Lib.hid h1
  have Hb1 := Lib.hid hb1
  clear hb0 hnext hb1 h0 h1 h
  go_wp2_with fail
  go_quiet (fail)
  have hCq : Below w.heap.size w (w1.drewN nq) := hC1.trans (below_drewN _ _ _)
  have hq := H1.out.below (below_drewN w1.heap.size w1 nq)
  have hbq : (w1.drewN nq).heap[w.heap.size]? = _ := Hb1.out
  clear c0 c1 c0' c1'
  generalize w1.drewN nq = w2 at hCq hq hbq ⊢
  have hcl2 := hcl w2 c
  go_wp2_with fail
  have hszz : (w2.alloc (.cells #[.int .u8 c] 5)).heap.size = w2.heap.size + 1 := by simp
  have hB5 : Below w2.heap.size w2 ((w2.alloc (.cells #[.int .u8 c] 5)).alloc (.cells #[.int .i64 1, .string (letterB c), .int .i64 (g + 1)] 33)) := ((Below.refl _ w2).alloc (Nat.le_refl _) _).alloc (by simp) _
  have hb5 : ((w2.alloc (.cells #[.int .u8 c] 5)).alloc (.cells #[.int .i64 1, .string (letterB c), .int .i64 (g + 1)] 33)).heap[w2.heap.size + 1]? = some (.cells #[.int .i64 1, .string (letterB c), .int .i64 (g + 1)] 33 (0, 0)) := by
    have := heap_alloc_new (w2.alloc (.cells #[.int .u8 c] 5)) (.cells #[.int .i64 1, .string (letterB c), .int .i64 (g + 1)] 33)
    rwa [hszz] at this
  have hz5 := (hB5.block _ (lt_of_block hbq)).trans hbq
  have h5 := hq.below hB5
  have hC5 := hCq.trans (hB5.mono hCq.size)
  clear hszz hcl2 hcl hq hbq
  generalize ((w2.alloc (.cells #[.int .u8 c] 5)).alloc (.cells #[.int .i64 1, .string (letterB c), .int .i64 (g + 1)] 33)) = w5 at hB5 hb5 hz5 h5 hC5 ⊢
  have hput := refputN_T w.heap.size H w5.drew _ L (freshS c (g + 1)) (hN.below hC5.drew) (by have := hC5.size; show H ≤ w5.heap.size; omega) (lt_of_block hz5) h5.2.2.1 h5.2.2.2 (by omega)
  dsimp only [freshS] at hput
  obtain ⟨c0, c1, c2⟩ := h5.cells
  have x0 : w5.cell? ⟨w2.heap.size + 1, 0, none⟩ = some (.int .i64 1) := by simp [World.cell?, hb5]
  have x1 : w5.cell? ⟨w2.heap.size + 1, 1, none⟩ = some (.string (letterB c)) := by simp [World.cell?, hb5]
  have x2 : w5.cell? ⟨w2.heap.size + 1, 2, none⟩ = some (.int .i64 (g + 1)) := by simp [World.cell?, hb5]
  have H5 := Lib.hid h5
  have HZ5 := Lib.hid hz5
  have HB5 := Lib.hid hb5
  clear h5 hz5 hb5
  go_region_with (first
    | ((with_reducible refine hput.mono ?_); rintro e w6 ⟨a6, n6, cap6, rfl, hS6, hf6, hB6⟩; have hD6 : Below w5.heap.size w5 w6 := (Below.refl _ w5).drew.trans hB6; obtain ⟨d0, d1, d2⟩ := (H5.out.below hD6).cells)
    | fail "no arm")
  all_goals
    have hR6 := H5.out.below hD6
    have hb7 : But r w6 (w6.setCell ⟨r, 1, none⟩ (.slice a6 n6 cap6)) := (But.refl r w6).setCell _ _
    have hr7 : (w6.setCell ⟨r, 1, none⟩ (.slice a6 n6 cap6)).heap[r]? = some (.cells #[.int .i64 room, .slice a6 n6 cap6] 31 (0, 0)) := by
      have := S.set_block (o := 1) hR6.1 (.slice a6 n6 cap6)
      simpa using this
    have hz6 := (hD6.block _ (lt_of_block HZ5.out)).trans HZ5.out
    have hbx6 := (hD6.block _ (lt_of_block HB5.out)).trans HB5.out
    have hz7 := (hb7.block _ (lt_of_block hz6) (by omega)).trans hz6
    have hsz2 := hCq.size
    have hbx7 := (hb7.block _ (lt_of_block hbx6) (by omega)).trans hbx6
    have hS7 := hS6.butr hb7 hrH
    have hC6 := hC5.trans (hD6.mono hC5.size)
    clear c0 c1 c2 x0 x1 x2 d0 d1 d2
    generalize (w6.setCell ⟨r, 1, none⟩ (.slice a6 n6 cap6)) = w7 at hb7 hr7 hz7 hbx7 hS7 ⊢
    have x0 : w7.cell? ⟨w2.heap.size + 1, 0, none⟩ = some (.int .i64 1) := by simp [World.cell?, hbx7]
    have x1 : w7.cell? ⟨w2.heap.size + 1, 1, none⟩ = some (.string (letterB c)) := by simp [World.cell?, hbx7]
    have x2 : w7.cell? ⟨w2.heap.size + 1, 2, none⟩ = some (.int .i64 (g + 1)) := by simp [World.cell?, hbx7]
    have hzc := S.zero_cells hz7
    have Hz7 := Lib.hid hz7
    have Hr7 := Lib.hid hr7
    clear hz7 hr7 hbx7
    go_wp2_with fail
    have hm := S.mem_sto w7 w.heap.size (freshS c (g + 1)) Hz7.out
    have hB8 : But w.heap.size w7 _ := S.but_sto w7 w.heap.size (freshS c (g + 1))
    dsimp only [freshS] at hm hB8
    generalize (((w7.setCell ⟨w.heap.size, 0, none⟩ _).setCell ⟨w.heap.size, 1, none⟩ _).setCell ⟨w.heap.size, 2, none⟩ _) = W at hm hB8 ⊢
    refine bodyPost_ret (v := .tuple #[.agg #[.int .i64 1, .string (letterB c), .int .i64 (g + 1)], .int .i64 0]) (by simp [results, Tryz.results12, go_sem, hm]) rfl ⟨rfl, ?_, ?_⟩
    · exact ⟨_, (hB8.block _ (lt_of_block Hr7.out) (by omega)).trans Hr7.out, hS7.but hB8, hf6, sorted_put symCmp_lin _ _ hso⟩
    have hb67 : But r w w7 := (But.of_below hC6).trans hb7
    exact ⟨hB8.os.trans hb67.os, hB8.tape.trans hb67.tape, hB8.output.trans hb67.output, Nat.le_trans hb67.size hB8.size, fun k hk hkr => (hB8.block k (Nat.lt_of_lt_of_le hk hb67.size) (by omega)).trans (hb67.block k hk hkr)⟩

theorem reftabfresh_T (H : Nat) (w : World) (r : Nat) (room c : Int) (v : Value) (L : List SymV) (h : RTabAt H w r room v L) (hH : H ≤ w.heap.size) (hrH : r < H) (hval : ∀ x ∈ L, validB x = true) (hL : L.length ≤ 10000) :
    Calls Tryz.prog 12 #[.pointer (some ⟨r, 0, none⟩), .int .u8 c] w fun e w' => e = .returned (.tuple #[.agg #[.int .i64 (freshE L room c).2.1.k, .string (freshE L room c).2.1.t, .int .i64 (freshE L room c).2.1.n], .int .i64 (freshE L room c).1]) ∧ (∃ v', RTabAt H w' r room v' (freshE L room c).2.2) ∧ But r w w' := by
  unfold freshE
  cases hc : capI c
  · rw [if_neg (by simp)]
    refine (reffresh_no H w r room c v L h hval hL 1 (.inl ⟨hc, rfl⟩)).mono ?_
    rintro e w' ⟨rfl, hB⟩
    exact ⟨rfl, ⟨v, h.below hB⟩, But.of_below hB⟩
  · rw [if_pos rfl]
    by_cases hr : (L.length : Int) < room ∧ maxN L c + 1 ≤ 1048576
    · rw [if_pos hr]
      exact reffresh_ok H w r room c v L h hH hrH hval hL hc hr.1 hr.2
    · rw [if_neg hr]
      refine (reffresh_no H w r room c v L h hval hL 20 (.inr ⟨hc, rfl, by omega⟩)).mono ?_
      rintro e w' ⟨rfl, hB⟩
      exact ⟨rfl, ⟨v, h.below hB⟩, But.of_below hB⟩

end Go.Proofs.YtimeamehmefgnaaGreatDoor
