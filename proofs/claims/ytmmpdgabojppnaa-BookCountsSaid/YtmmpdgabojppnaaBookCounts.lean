/- BookCounts returns true, whatever it is given. Conditions: none but that the list lies in memory. -/
import Derived.Test.YtmmpdgabojppnaaCountE
import Derived.Test.YtmmpdgabojppnaaPairsLaw
import Derived.Test.YtmmpdgabojppnaaWakesB
import Derived.Deep.LoopGhost
namespace Go.Proofs.Ytmmpdgabojppnaa
open Go Go.RowKit

abbrev cnt (xs : List SymV) (x : SymV) : Nat := (xs.filter (fun y => same y x)).length

theorem counts_sorted (xs : List SymV) : ∀ L, Sorted entCmp L → Sorted entCmp (xs.foldl E.count1 L) := by
  induction xs with
  | nil => intro L h; exact h
  | cons x xs ih => intro L h; exact ih _ (E.sorted_count1 h x)

theorem counts_val (x : SymV) (xs : List SymV) : ∀ L, Sorted entCmp L → E.valOf (xs.foldl E.count1 L) x = E.valOf L x + cnt xs x := by
  induction xs with
  | nil => intro L h; simp [cnt]
  | cons y xs ih =>
    intro L h
    have e := ih _ (E.sorted_count1 h y)
    rw [List.foldl_cons, e, E.valOf_count1 h]
    by_cases hy : x = y
    · subst hy
      have : same x x = true := same_iff.2 rfl
      simp [cnt, this]; omega
    · have : same y x = false := by
        rw [← Bool.not_eq_true]; exact fun k => hy (same_iff.1 k).symm
      simp [cnt, this, hy]

theorem counts_has (xs : List SymV) (x : SymV) (hx : x ∈ xs) : has entCmp (xs.foldl E.count1 []) ⟨x, 0⟩ = true := by
  have h := counts_val x xs [] List.Pairwise.nil
  have h0 : E.valOf [] x = 0 := E.valOf_none (by simp)
  have hc : 0 < cnt xs x := List.length_pos_of_mem (List.mem_filter.2 ⟨hx, same_iff.2 rfl⟩)
  rw [h0] at h
  cases hh : has entCmp (xs.foldl E.count1 []) ⟨x, 0⟩
  · unfold E.valOf at h; rw [hh] at h; simp at h; omega
  · rfl

abbrev sumv (L : List EntV) : Int := (L.map (fun e => e.v)).sum

theorem sum_count1 {L : List EntV} (hs : Sorted entCmp L) (x : SymV) : sumv (E.count1 L x) = sumv L + 1 := by
  have hdrop : sumv (E.drop entCmp L ⟨x, E.valOf L x + 1⟩) = sumv L - E.valOf L x := by
    unfold E.drop
    split
    · rename_i hh
      obtain ⟨y, hy, h0⟩ := has_at entCmp_lin L _ hs hh
      have hyv : E.valOf L x = y.v := by
        have := E.valOf_mem hs (List.mem_of_getElem? hy)
        rw [← this, ← (E.entCmp_zero.1 h0)]
      obtain ⟨hi, hg⟩ := List.getElem?_eq_some_iff.1 hy
      generalize pos entCmp L ⟨x, E.valOf L x + 1⟩ = i at hi hg ⊢
      rw [hyv]
      have e : L = L.take i ++ y :: L.drop (i + 1) := by
        conv => lhs; rw [← List.take_append_drop i L, List.drop_eq_getElem_cons hi, hg]
      rw [List.eraseIdx_eq_take_drop_succ]
      conv => rhs; rw [e]
      simp [sumv]; omega
    · rename_i hh
      have : E.valOf L x = 0 := E.valOf_none fun y hy e => hh (E.has_key_iff.2 ⟨y, hy, e⟩)
      rw [this]; omega
  unfold E.count1
  have hn : has entCmp (E.drop entCmp L ⟨x, E.valOf L x + 1⟩) ⟨x, E.valOf L x + 1⟩ = false := by
    rw [← Bool.not_eq_true]
    intro h
    obtain ⟨y, hy, e⟩ := E.has_key_iff.1 h
    exact ((E.mem_drop_key hs).1 hy).2 e
  rw [put, hn, if_neg (by simp), ins]
  have e2 := List.take_append_drop (pos entCmp (E.drop entCmp L ⟨x, E.valOf L x + 1⟩) ⟨x, E.valOf L x + 1⟩) (E.drop entCmp L ⟨x, E.valOf L x + 1⟩)
  have e3 := congrArg sumv e2
  simp only [sumv, List.map_append, List.sum_append, List.map_cons, List.sum_cons] at e3 hdrop ⊢
  omega

theorem counts_sum (xs : List SymV) : ∀ L, Sorted entCmp L → sumv (xs.foldl E.count1 L) = sumv L + xs.length := by
  induction xs with
  | nil => intro L h; simp
  | cons x xs ih =>
    intro L h
    rw [List.foldl_cons, ih _ (E.sorted_count1 h x), sum_count1 h]; simp; omega

theorem flat_map1 {α β : Type} (f : α → β) (l : List α) : (l.flatMap fun x => [f x]) = l.map f := by
  induction l with
  | nil => rfl
  | cons a l ih => simp [List.flatMap_cons, ih]

set_option maxRecDepth 100000 in
set_option maxHeartbeats 4000000 in
theorem counts_walk (w : World) (v : Value) (xs : List SymV) (hv : S.SliceOf w v xs) (hl : xs.length ≤ 100) :
    Calls Try.prog 8 #[v] w fun e w' => e = .returned (.bool true) ∧ Below w.heap.size w w' := by
  have hv0 := hv
  have hof := S.of_T w v xs hv
  obtain ⟨a, cap, rfl, hc⟩ := hv
  go_enter Try.func8, Try.ntmps8
  go_wp2_with fail
  refine hof.mono ?_
  rintro e w0 ⟨rfl, hw0⟩
  have hB0 : Below w.heap.size w w0 := by rw [hw0]; exact (Below.refl _ w).alloc (Nat.le_refl _) _
  have hb0 : w0.heap[w.heap.size]? = some (.cells #[.slice a xs.length cap] 29 (0, 0)) := by rw [hw0]; exact heap_alloc_new w _
  clear hw0 hof
  go_wp2_with fail
  refine (E.bookcount_T w0 _ _ xs hb0 (hv0.below hB0) (by omega)).mono ?_
  rintro e w1 ⟨m, s, rfl, hm, hs, hM, hB1⟩
  go_wp2_with fail
  have hB01 := hB0.trans (hB1.mono hB0.size)
  have hse := sym_equal'
  have hsg := sym_guard
  have hlC := E.count_length xs []
  simp only [List.length_nil, Nat.zero_add] at hlC
  have hCv : ∀ x ∈ xs, E.valOf (xs.foldl E.count1 []) x = (cnt xs x : Int) ∧ has entCmp (xs.foldl E.count1 []) ⟨x, 0⟩ = true := fun x hx =>
    ⟨by have h00 : E.valOf [] x = 0 := E.valOf_none (by simp)
        rw [counts_val x xs [] List.Pairwise.nil, h00]; omega, counts_has xs x hx⟩
  have hsum : sumv (xs.foldl E.count1 []) = xs.length := by rw [counts_sum xs [] List.Pairwise.nil]; simp [sumv]
  have hbd := E.count_bound xs [] 0 (by simp)
  generalize xs.foldl E.count1 [] = C at hM hlC hCv hsum hbd
  have HCv := Lib.hid hCv
  have Hsum := Lib.hid hsum
  have Hbd := Lib.hid hbd
  have HM := Lib.hid hM
  clear hCv hsum hbd hM
  have hel : ∀ W j x, Below w.heap.size w W → xs[j]? = some x → ∃ b off, a = some ⟨b, off, none⟩ ∧ (W.cell? ⟨b, off + j * 3, none⟩ = some (.int .i64 x.k) ∧ W.cell? ⟨b, off + j * 3 + 1, none⟩ = some (.string x.t) ∧ W.cell? ⟨b, off + j * 3 + 2, none⟩ = some (.int .i64 x.n)) := by
    intro W j x hB hx
    rcases hc with rfl | ⟨b, off, rfl, h⟩
    · simp at hx
    · exact ⟨b, off, rfl, (h.below hB (World.block_lt_of_cell? w _ (h j x hx).1)) j x hx⟩
  have Hel := Lib.hid hel
  clear hel hc
  go_loopg [5] xs.length (fun k i wr => ∃ j : Nat, i = .int .i64 j ∧ j ≤ xs.length ∧ Hid (k = xs.length - j) ∧ Below w1.heap.size w1 wr)
  case atStart => exact ⟨0, rfl, by omega, Lib.hid rfl, Below.refl _ _⟩
  case round =>
    obtain ⟨j, rfl, hj, Hk, hBr⟩ := hrel
    have hBw := hB01.trans (hBr.mono hB01.size)
    by_cases hlt : j < xs.length
    · obtain ⟨x, hx⟩ : ∃ x, xs[j]? = some x := ⟨xs[j], by simp [hlt]⟩
      obtain ⟨b, off, rfl, -⟩ := Hel.out wr j x hBw hx
      have Hx := Lib.hid hx
      clear hx
      obtain ⟨wp, rfl⟩ : ∃ w', w' = wr := ⟨wr, rfl⟩
      go_wp2_with fail
      go_loopg [6, 7] xs.length (fun k n i wr => ∃ (q : Nat), n = .int .i64 (cnt (xs.take q) x : Nat) ∧ i = .int .i64 q ∧ q ≤ xs.length ∧ Hid (k = xs.length - q) ∧ Below wp.heap.size wp wr)
      case atStart => exact ⟨0, by simp [cnt], rfl, by omega, Lib.hid rfl, Below.refl _ _⟩
      case round =>
        obtain ⟨q, rfl, rfl, hq, Hk2, hBr2⟩ := hrel
        have hBw2 := hBw.trans (hBr2.mono hBw.size)
        have hct : cnt (xs.take q) x ≤ q := by
          have := List.length_filter_le (fun y => same y x) (xs.take q)
          rw [List.length_take] at this
          unfold cnt; omega
        obtain ⟨b', off', e1, x0, x1, x2⟩ := Hel.out wr j x hBw2 Hx.out
        cases e1
        by_cases hq2 : q < xs.length
        · obtain ⟨y, hy⟩ : ∃ y, xs[q]? = some y := ⟨xs[q], by simp [hq2]⟩
          obtain ⟨b', off', e2, y0, y1, y2⟩ := Hel.out wr q y hBw2 hy
          cases e2
          have htk : xs.take (q + 1) = xs.take q ++ [y] := by rw [List.take_add_one, hy]; rfl
          have hcn : cnt (xs.take (q + 1)) x = cnt (xs.take q) x + (if same y x then 1 else 0) := by
            unfold cnt; rw [htk, List.filter_append, List.length_append]; cases h : same y x <;> simp [h]
          have Hcn := Lib.hid hcn
          clear hy htk hcn
          cases hsm : same y x
          · have hs1 : same ⟨y.k, y.t, y.n⟩ ⟨x.k, x.t, x.n⟩ = false := hsm
            have Hsm := Lib.hid hsm
            clear hsm
            go_wp2_with fail
            go_quiet (fail)
            go_wp2_with fail
            go_roundg (xs.length - (q + 1))
            case measure => rw [Hk2.out]; omega
            case rel => exact ⟨q + 1, by rw [Hcn.out, Hsm.out]; simp, by go_num, by omega, Lib.hid rfl, hBr2.trans (below_drewN _ _ _)⟩
          · have hs1 : same ⟨y.k, y.t, y.n⟩ ⟨x.k, x.t, x.n⟩ = true := hsm
            have Hsm := Lib.hid hsm
            clear hsm
            go_wp2_with fail
            go_quiet (fail)
            go_wp2_with fail
            go_roundg (xs.length - (q + 1))
            case measure => rw [Hk2.out]; omega
            case rel => exact ⟨q + 1, by rw [Hcn.out, Hsm.out]; first | (simp; done) | (simp; go_num), by go_num, by omega, Lib.hid rfl, hBr2.trans (below_drewN _ _ _)⟩
        · obtain rfl : q = xs.length := by omega
          have hg := E.mapget_T wr m s C x (HM.out.below (hBr.trans (hBr2.mono hBr.size))) (by omega)
          rw [(HCv.out x (List.mem_of_getElem? Hx.out)).1, (HCv.out x (List.mem_of_getElem? Hx.out)).2] at hg
          rw [List.take_length] at *
          go_wp2_with fail
          refine hg.mono ?_
          rintro e w5 ⟨rfl, hB5⟩
          go_wp2_with fail
          go_roundg (xs.length - (j + 1))
          case measure => rw [Hk.out]; omega
          case rel => exact ⟨j + 1, by go_num, by omega, Lib.hid rfl, (hBr.trans (hBr2.mono hBr.size)).trans (hB5.mono (hBr.trans (hBr2.mono hBr.size)).size)⟩
    · obtain rfl : j = xs.length := by omega
      go_wp2_with fail
      have hpa := E.lawpairs_T wr m s C ⟨0, ⟨#[]⟩, 0⟩ 1000 (HM.out.below hBr) (by omega) (by omega) (by omega)
      dsimp only at hpa
      refine hpa.mono ?_
      rintro e w5 ⟨vk, vv, rfl, -, hvr, hB5⟩
      obtain ⟨a4, c4, rfl, -, -⟩ := E.row_cap3 hvr
      have hBr5 := hBr.trans (hB5.mono hBr.size)
      have hcell : ∀ q y, C[q]? = some y → ∃ g, a4 = some ⟨g, 0, none⟩ ∧ w5.cell? ⟨g, q, none⟩ = some (.int .i64 y.v) := by
        intro q y hy
        have hfl : (C.flatMap fun x => [Value.int .i64 x.v])[q]? = some (.int .i64 y.v) := by
          rw [flat_map1 (fun x : EntV => Value.int .i64 x.v)]
          simp [List.getElem?_map, hy]
        rcases hvr.2 with ⟨h0, h1⟩ | ⟨g, cap', cur, h0, -⟩
        · have := (List.getElem?_eq_some_iff.1 hy).1; omega
        · cases h0
          have h3 := World.ownsRow.cells hvr (g := g) rfl q _ hfl
          rw [Go.WideShapes.add_plain, Nat.zero_add] at h3
          exact ⟨g, rfl, h3⟩
      have Hcell := Lib.hid hcell
      clear hcell hvr hpa
      go_wp2_with fail
      go_loopg [4, 12] C.length (fun k n i wr => ∃ (q : Nat), n = .int .i64 (sumv (C.take q)) ∧ i = .int .i64 q ∧ q ≤ C.length ∧ Hid (k = C.length - q) ∧ Below w5.heap.size w5 wr)
      case atStart => exact ⟨0, by simp [sumv], rfl, by omega, Lib.hid rfl, Below.refl _ _⟩
      case round =>
        obtain ⟨q, rfl, rfl, hq, Hk3, hBr6⟩ := hrel
        have hsb : 0 ≤ sumv (C.take q) ∧ sumv (C.take q) ≤ 100 * q := by
          have : ∀ r, r ≤ C.length → 0 ≤ sumv (C.take r) ∧ sumv (C.take r) ≤ 100 * r := by
            intro r
            induction r with
            | zero => intro _; simp [sumv]
            | succ r ih =>
              intro hr
              have h1 := ih (by omega)
              obtain ⟨y, hy⟩ : ∃ y, C[r]? = some y := ⟨C[r], by simp [show r < C.length by omega]⟩
              have h2 := Hbd.out y (List.mem_of_getElem? hy)
              have e : sumv (C.take (r + 1)) = sumv (C.take r) + y.v := by
                rw [List.take_add_one, hy]; simp [sumv]
              rw [e]
              have : ((0 + xs.length : Nat) : Int) ≤ 100 := by omega
              omega
          exact this q hq
        by_cases hq2 : q < C.length
        · obtain ⟨y, hy⟩ : ∃ y, C[q]? = some y := ⟨C[q], by simp [hq2]⟩
          obtain ⟨g, rfl, hyc⟩ := Hcell.out q y hy
          have hyr := (hBr6.cell (p := ⟨g, q, none⟩) (World.block_lt_of_cell? w5 _ hyc)).trans hyc
          have h2 := Hbd.out y (List.mem_of_getElem? hy)
          have e : sumv (C.take (q + 1)) = sumv (C.take q) + y.v := by rw [List.take_add_one, hy]; simp [sumv]
          have He := Lib.hid e
          clear hy e hyc
          obtain ⟨S, hS⟩ : ∃ S, sumv (C.take q) = S := ⟨_, rfl⟩
          rw [hS] at hsb ⊢
          have HS := Lib.hid hS
          clear hS
          have hs1 : S + y.v ≤ 1000000 := by omega
          go_wp2_with fail
          go_roundg (C.length - (q + 1))
          case measure => rw [Hk3.out]; omega
          case rel => exact ⟨q + 1, by rw [He.out, HS.out], by go_num, by omega, Lib.hid rfl, hBr6⟩
        · obtain rfl : q = C.length := by omega
          have hsl : sumv (C.take C.length) = xs.length := by rw [List.take_length]; exact Hsum.out
          rw [hsl] at *
          go_wp2_with fail
          refine (wakes_T wr).mono ?_
          rintro e w7 ⟨rfl, hB7⟩
          go_wp2_with fail
          go_ret
          have h5 := hB01.trans (hBr5.mono hB01.size)
          have h6 := h5.trans (hBr6.mono h5.size)
          exact ⟨rfl, h6.trans (hB7.mono h6.size)⟩

theorem counts_big (w : World) (v : Value) (xs : List SymV) (hv : S.SliceOf w v xs) (hl : 100 < xs.length) :
    Calls Try.prog 8 #[v] w fun e w' => e = .returned (.bool true) ∧ Below w.heap.size w w' := by
  obtain ⟨a, cap, rfl, -⟩ := hv
  go_enter Try.func8, Try.ntmps8
  go_wp2_with fail
  refine (wakes_T w).mono ?_
  rintro e w1 ⟨rfl, hb⟩
  go_wp2_with fail
  go_ret
  exact ⟨rfl, hb⟩

theorem counts_any (w : World) (v : Value) (xs : List SymV) (hv : S.SliceOf w v xs) :
    Calls Try.prog 8 #[v] w fun e w' => e = .returned (.bool true) ∧ Below w.heap.size w w' := by
  by_cases h : xs.length ≤ 100
  · exact counts_walk w v xs hv h
  · exact counts_big w v xs hv (by omega)

end Go.Proofs.Ytmmpdgabojppnaa
