/- What the statements' Sort and Find of elements answer, and Elems. Conditions: the lists lie in memory; at most 1000 elements. -/
import Derived.Test.YtcpgjekkcpfpaaaRefElm2O
import Derived.Test.YtcpgjekkcpfpaaaBoxSO
namespace Go.Proofs.Ytcpgjekkcpfpaaa.O
open Go Go.RowKit

/-- A list of the law's own, in order. -/
def Own (w : World) (v : Value) (xs : List ElmV) : Prop := SliceOf w v xs ∧ Fits v ∧ Sorted elmCmp xs

theorem Own.below {w w' : World} {v : Value} {xs : List ElmV} (h : Own w v xs) (hB : Below w.heap.size w w') : Own w' v xs := ⟨h.1.below hB, h.2⟩

theorem Own.nil (w : World) : Own w (.slice none 0 0) [] := ⟨⟨none, 0, rfl, .inl rfl⟩, by rintro a n c e; cases e; exact ⟨Nat.le_refl _, fun _ => rfl⟩, List.Pairwise.nil⟩

theorem ownputE_T (w : World) (v : Value) (xs : List ElmV) (x : ElmV) (h : Own w v xs) (hs : xs.length ≤ 100000) :
    Calls Try.prog 19 #[v, .agg #[.int .i64 x.id.k, .string x.id.t, .int .i64 x.id.n, .int .i64 x.attr.k, .string x.attr.t, .int .i64 x.attr.n, .int .i64 x.val.k, .string x.val.t, .int .i64 x.val.n, .bool x.acc, .bool x.goal, .int .i64 x.tag]] w fun e w' => ∃ v', e = .returned v' ∧ Own w' v' (put elmCmp xs x) ∧ Below w.heap.size w w' := by
  refine (refputE_T w v xs x h.1 h.2.1 h.2.2 hs).mono ?_
  rintro e w' ⟨v', rfl, hf, hv, hB⟩
  refine ⟨v', rfl, ⟨?_, hf, sorted_put elmCmp_lin _ _ h.2.2⟩, hB⟩
  rcases hv with ⟨rfl, e⟩ | hv
  · rw [e]; exact h.1.below hB
  · exact hv.slice

abbrev srt (xs : List ElmV) : List ElmV := xs.foldl (put elmCmp) []

theorem srt_snoc (xs : List ElmV) (x : ElmV) : srt (xs ++ [x]) = put elmCmp (srt xs) x := by simp [srt]
theorem putl_lengthE (xs l : List ElmV) : (xs.foldl (put elmCmp) l).length ≤ l.length + xs.length := by
  induction xs generalizing l with
  | nil => simp
  | cons x xs ih =>
    have := ih (put elmCmp l x)
    have := length_put elmCmp l x
    simp; omega
theorem srt_length (xs : List ElmV) : (srt xs).length ≤ xs.length := by have := putl_lengthE xs []; simpa using this

set_option maxRecDepth 100000 in
set_option maxHeartbeats 1600000 in
theorem sortE_T (w : World) (v : Value) (xs : List ElmV) (hv : SliceOf w v xs) (hs : xs.length ≤ 100000) :
    Calls Try.prog 6 #[v] w fun e w' => ∃ v', e = .returned v' ∧ Own w' v' (srt xs) ∧ Below w.heap.size w w' := by
  obtain ⟨a, cap, rfl, hc⟩ := hv
  go_enter Try.func6, Try.ntmps6
  go_wp2_with fail
  go_loopg [3, 4] xs.length (fun m o i wr => ∃ j : Nat, i = .int .i64 j ∧ j ≤ xs.length ∧ Hid (m = xs.length - j) ∧ Hid (Own wr o (srt (xs.take j))) ∧ Below w.heap.size w wr)
  case atStart => exact ⟨0, rfl, by omega, Lib.hid rfl, Lib.hid (by simpa [srt] using Own.nil w), Below.refl _ _⟩
  case round =>
    obtain ⟨j, rfl, hj, Hm, HO, hB⟩ := hrel
    by_cases hlt : j < xs.length
    · rcases hc with rfl | ⟨b, off, rfl, hel⟩
      · simp at hlt
      · obtain ⟨y, hy⟩ : ∃ y, xs[j]? = some y := ⟨xs[j], by simp [hlt]⟩
        have hyc := memo_at hel hy hB
        have hsn : srt (xs.take (j + 1)) = put elmCmp (srt (xs.take j)) y := by rw [List.take_add_one, hy]; exact srt_snoc _ _
        have Hsn := Lib.hid hsn
        have hpu := ownputE_T wr _ _ y HO.out (by have := srt_length (xs.take j); have h2 : (xs.take j).length ≤ xs.length := by simp; omega
                                                  omega)
        clear hy hel hsn
        go_wp2_with fail
        refine hpu.mono ?_
        rintro e w1 ⟨v', rfl, hO, hB1⟩
        have hB2 := hB.trans (hB1.mono hB.size)
        go_wp2_with fail
        go_roundg (xs.length - (j + 1))
        case measure => rw [Hm.out]; omega
        case rel => exact ⟨j + 1, by go_num, by omega, Lib.hid rfl, Lib.hid (by rw [Hsn.out]; exact hO), hB2⟩
    · obtain rfl : j = xs.length := by omega
      go_wp2_with fail
      go_ret
      exact ⟨_, rfl, by have := HO.out; rwa [List.take_length] at this, hB⟩

/-- The first that is one with x. -/
abbrev fst? (xs : List ElmV) (x : ElmV) : Option ElmV := xs.find? (fun z => elmCmp z x == 0)

set_option maxRecDepth 100000 in
set_option maxHeartbeats 3200000 in
theorem findE_T (w : World) (v : Value) (xs : List ElmV) (x : ElmV) (hv : SliceOf w v xs) (hs : xs.length ≤ 100000) :
    Calls Try.prog 13 #[v, .agg #[.int .i64 x.id.k, .string x.id.t, .int .i64 x.id.n, .int .i64 x.attr.k, .string x.attr.t, .int .i64 x.attr.n, .int .i64 x.val.k, .string x.val.t, .int .i64 x.val.n, .bool x.acc, .bool x.goal, .int .i64 x.tag]] w fun e w' => (∃ y b, e = .returned (.tuple #[.agg #[.int .i64 y.id.k, .string y.id.t, .int .i64 y.id.n, .int .i64 y.attr.k, .string y.attr.t, .int .i64 y.attr.n, .int .i64 y.val.k, .string y.val.t, .int .i64 y.val.n, .bool y.acc, .bool y.goal, .int .i64 y.tag], .bool b]) ∧ ((b = true ∧ fst? xs x = some y) ∨ (b = false ∧ fst? xs x = none ∧ y = (⟨⟨0, ⟨#[]⟩, 0⟩, ⟨0, ⟨#[]⟩, 0⟩, ⟨0, ⟨#[]⟩, 0⟩, false, false, 0⟩ : ElmV)))) ∧ Below w.heap.size w w' := by
  have hB0 : Below w.heap.size w ((w.alloc (.cells #[.int .i64 x.id.k, .string x.id.t, .int .i64 x.id.n, .int .i64 x.attr.k, .string x.attr.t, .int .i64 x.attr.n, .int .i64 x.val.k, .string x.val.t, .int .i64 x.val.n, .bool x.acc, .bool x.goal, .int .i64 x.tag] 29)).alloc (.cells #[.int .i64 0, .string ⟨#[]⟩, .int .i64 0, .int .i64 0, .string ⟨#[]⟩, .int .i64 0, .int .i64 0, .string ⟨#[]⟩, .int .i64 0, .bool false, .bool false, .int .i64 0] 29)) := ((Below.refl _ w).alloc (Nat.le_refl _) _).alloc (by simp) _
  have hx0 : ∀ W, Below ((w.alloc (.cells #[.int .i64 x.id.k, .string x.id.t, .int .i64 x.id.n, .int .i64 x.attr.k, .string x.attr.t, .int .i64 x.attr.n, .int .i64 x.val.k, .string x.val.t, .int .i64 x.val.n, .bool x.acc, .bool x.goal, .int .i64 x.tag] 29)).alloc (.cells #[.int .i64 0, .string ⟨#[]⟩, .int .i64 0, .int .i64 0, .string ⟨#[]⟩, .int .i64 0, .int .i64 0, .string ⟨#[]⟩, .int .i64 0, .bool false, .bool false, .int .i64 0] 29)).heap.size ((w.alloc (.cells #[.int .i64 x.id.k, .string x.id.t, .int .i64 x.id.n, .int .i64 x.attr.k, .string x.attr.t, .int .i64 x.attr.n, .int .i64 x.val.k, .string x.val.t, .int .i64 x.val.n, .bool x.acc, .bool x.goal, .int .i64 x.tag] 29)).alloc (.cells #[.int .i64 0, .string ⟨#[]⟩, .int .i64 0, .int .i64 0, .string ⟨#[]⟩, .int .i64 0, .int .i64 0, .string ⟨#[]⟩, .int .i64 0, .bool false, .bool false, .int .i64 0] 29)) W → (W.cell? ⟨w.heap.size, 0, none⟩ = some (.int .i64 x.id.k) ∧ W.cell? ⟨w.heap.size, 1, none⟩ = some (.string x.id.t) ∧ W.cell? ⟨w.heap.size, 2, none⟩ = some (.int .i64 x.id.n) ∧ W.cell? ⟨w.heap.size, 3, none⟩ = some (.int .i64 x.attr.k) ∧ W.cell? ⟨w.heap.size, 4, none⟩ = some (.string x.attr.t) ∧ W.cell? ⟨w.heap.size, 5, none⟩ = some (.int .i64 x.attr.n) ∧ W.cell? ⟨w.heap.size, 6, none⟩ = some (.int .i64 x.val.k) ∧ W.cell? ⟨w.heap.size, 7, none⟩ = some (.string x.val.t) ∧ W.cell? ⟨w.heap.size, 8, none⟩ = some (.int .i64 x.val.n) ∧ W.cell? ⟨w.heap.size, 9, none⟩ = some (.bool x.acc) ∧ W.cell? ⟨w.heap.size, 10, none⟩ = some (.bool x.goal) ∧ W.cell? ⟨w.heap.size, 11, none⟩ = some (.int .i64 x.tag)) ∧ W.heap[w.heap.size + 1]? = some (.cells #[.int .i64 0, .string ⟨#[]⟩, .int .i64 0, .int .i64 0, .string ⟨#[]⟩, .int .i64 0, .int .i64 0, .string ⟨#[]⟩, .int .i64 0, .bool false, .bool false, .int .i64 0] 29 (0, 0)) := by
    intro W h
    have hn := heap_alloc_new w (.cells #[.int .i64 x.id.k, .string x.id.t, .int .i64 x.id.n, .int .i64 x.attr.k, .string x.attr.t, .int .i64 x.attr.n, .int .i64 x.val.k, .string x.val.t, .int .i64 x.val.n, .bool x.acc, .bool x.goal, .int .i64 x.tag] 29)
    have e1 := (h.block w.heap.size (by simp; omega)).trans ((Below.heap_alloc _ _ _ (by simp)).trans hn)
    have hz := heap_alloc_new (w.alloc (.cells #[.int .i64 x.id.k, .string x.id.t, .int .i64 x.id.n, .int .i64 x.attr.k, .string x.attr.t, .int .i64 x.attr.n, .int .i64 x.val.k, .string x.val.t, .int .i64 x.val.n, .bool x.acc, .bool x.goal, .int .i64 x.tag] 29)) (.cells #[.int .i64 0, .string ⟨#[]⟩, .int .i64 0, .int .i64 0, .string ⟨#[]⟩, .int .i64 0, .int .i64 0, .string ⟨#[]⟩, .int .i64 0, .bool false, .bool false, .int .i64 0] 29)
    simp only [World.size_alloc] at hz
    exact ⟨by simp [World.cell?, e1], (h.block _ (by simp)).trans hz⟩
  obtain ⟨a, cap, rfl, hc⟩ := hv
  go_enter Try.func13, Try.ntmps13
  go_wp2_with fail
  generalize ((w.alloc (.cells #[.int .i64 x.id.k, .string x.id.t, .int .i64 x.id.n, .int .i64 x.attr.k, .string x.attr.t, .int .i64 x.attr.n, .int .i64 x.val.k, .string x.val.t, .int .i64 x.val.n, .bool x.acc, .bool x.goal, .int .i64 x.tag] 29)).alloc (.cells #[.int .i64 0, .string ⟨#[]⟩, .int .i64 0, .int .i64 0, .string ⟨#[]⟩, .int .i64 0, .int .i64 0, .string ⟨#[]⟩, .int .i64 0, .bool false, .bool false, .int .i64 0] 29)) = W0 at hB0 hx0 ⊢
  have HX := Lib.hid hx0
  clear hx0
  go_loopg [6] xs.length (fun m i wr => ∃ j : Nat, i = .int .i64 j ∧ j ≤ xs.length ∧ Hid (m = xs.length - j ∧ fst? (xs.take j) x = none) ∧ Below W0.heap.size W0 wr)
  case atStart => exact ⟨0, rfl, by omega, Lib.hid ⟨rfl, by simp [fst?]⟩, Below.refl _ _⟩
  case round =>
    obtain ⟨j, rfl, hj, Hm, hB⟩ := hrel
    by_cases hlt : j < xs.length
    · rcases hc with rfl | ⟨b, off, rfl, hel⟩
      · simp at hlt
      · obtain ⟨y, hy⟩ : ∃ y, xs[j]? = some y := ⟨xs[j], by simp [hlt]⟩
        have hyc := memo_at hel hy (hB0.trans (hB.mono hB0.size))
        have hKall : ∀ W, Below W0.heap.size W0 W → (W.cell? ⟨b, off + j * 12, none⟩ = some (.int .i64 y.id.k) ∧ W.cell? ⟨b, off + j * 12 + 1, none⟩ = some (.string y.id.t) ∧ W.cell? ⟨b, off + j * 12 + 2, none⟩ = some (.int .i64 y.id.n) ∧ W.cell? ⟨b, off + j * 12 + 3, none⟩ = some (.int .i64 y.attr.k) ∧ W.cell? ⟨b, off + j * 12 + 4, none⟩ = some (.string y.attr.t) ∧ W.cell? ⟨b, off + j * 12 + 5, none⟩ = some (.int .i64 y.attr.n) ∧ W.cell? ⟨b, off + j * 12 + 6, none⟩ = some (.int .i64 y.val.k) ∧ W.cell? ⟨b, off + j * 12 + 7, none⟩ = some (.string y.val.t) ∧ W.cell? ⟨b, off + j * 12 + 8, none⟩ = some (.int .i64 y.val.n) ∧ W.cell? ⟨b, off + j * 12 + 9, none⟩ = some (.bool y.acc) ∧ W.cell? ⟨b, off + j * 12 + 10, none⟩ = some (.bool y.goal) ∧ W.cell? ⟨b, off + j * 12 + 11, none⟩ = some (.int .i64 y.tag)) ∧ (W.cell? ⟨w.heap.size, 0, none⟩ = some (.int .i64 x.id.k) ∧ W.cell? ⟨w.heap.size, 1, none⟩ = some (.string x.id.t) ∧ W.cell? ⟨w.heap.size, 2, none⟩ = some (.int .i64 x.id.n) ∧ W.cell? ⟨w.heap.size, 3, none⟩ = some (.int .i64 x.attr.k) ∧ W.cell? ⟨w.heap.size, 4, none⟩ = some (.string x.attr.t) ∧ W.cell? ⟨w.heap.size, 5, none⟩ = some (.int .i64 x.attr.n) ∧ W.cell? ⟨w.heap.size, 6, none⟩ = some (.int .i64 x.val.k) ∧ W.cell? ⟨w.heap.size, 7, none⟩ = some (.string x.val.t) ∧ W.cell? ⟨w.heap.size, 8, none⟩ = some (.int .i64 x.val.n) ∧ W.cell? ⟨w.heap.size, 9, none⟩ = some (.bool x.acc) ∧ W.cell? ⟨w.heap.size, 10, none⟩ = some (.bool x.goal) ∧ W.cell? ⟨w.heap.size, 11, none⟩ = some (.int .i64 x.tag)) := fun W h => ⟨memo_at hel hy (hB0.trans (h.mono hB0.size)), (HX.out W h).1⟩
        have hxc := (HX.out wr hB).1
        have HK := Lib.hid hKall
        have hon := one_T wr.drew y x
        have hBd := Lib.hid (show Below W0.heap.size W0 wr.drew from hB.drew)
        have hnx : fst? (xs.take (j + 1)) x = if elmCmp y x == 0 then some y else none := by
          rw [fst?, List.take_add_one, hy, List.find?_append, show List.find? (fun z => elmCmp z x == 0) (xs.take j) = none from Hm.out.2]
          cases h : (elmCmp y x == 0) <;> simp [h]
        have hall : (elmCmp y x == 0) = true → fst? xs x = some y := fun h => by
          have e : xs = xs.take (j + 1) ++ xs.drop (j + 1) := (List.take_append_drop _ _).symm
          rw [e, fst?, List.find?_append, show List.find? (fun z => elmCmp z x == 0) (xs.take (j + 1)) = some y from hnx.trans (by rw [h]; rfl)]; rfl
        have Hnx := Lib.hid hnx
        have Hall := Lib.hid hall
        have Hy := Lib.hid hy
        clear hy hel hKall hnx hall
        go_wp2_with fail
        go_region_held3 (fun W => (W.cell? ⟨b, off + j * 12, none⟩ = some (.int .i64 y.id.k) ∧ W.cell? ⟨b, off + j * 12 + 1, none⟩ = some (.string y.id.t) ∧ W.cell? ⟨b, off + j * 12 + 2, none⟩ = some (.int .i64 y.id.n) ∧ W.cell? ⟨b, off + j * 12 + 3, none⟩ = some (.int .i64 y.attr.k) ∧ W.cell? ⟨b, off + j * 12 + 4, none⟩ = some (.string y.attr.t) ∧ W.cell? ⟨b, off + j * 12 + 5, none⟩ = some (.int .i64 y.attr.n) ∧ W.cell? ⟨b, off + j * 12 + 6, none⟩ = some (.int .i64 y.val.k) ∧ W.cell? ⟨b, off + j * 12 + 7, none⟩ = some (.string y.val.t) ∧ W.cell? ⟨b, off + j * 12 + 8, none⟩ = some (.int .i64 y.val.n) ∧ W.cell? ⟨b, off + j * 12 + 9, none⟩ = some (.bool y.acc) ∧ W.cell? ⟨b, off + j * 12 + 10, none⟩ = some (.bool y.goal) ∧ W.cell? ⟨b, off + j * 12 + 11, none⟩ = some (.int .i64 y.tag)) ∧ (W.cell? ⟨w.heap.size, 0, none⟩ = some (.int .i64 x.id.k) ∧ W.cell? ⟨w.heap.size, 1, none⟩ = some (.string x.id.t) ∧ W.cell? ⟨w.heap.size, 2, none⟩ = some (.int .i64 x.id.n) ∧ W.cell? ⟨w.heap.size, 3, none⟩ = some (.int .i64 x.attr.k) ∧ W.cell? ⟨w.heap.size, 4, none⟩ = some (.string x.attr.t) ∧ W.cell? ⟨w.heap.size, 5, none⟩ = some (.int .i64 x.attr.n) ∧ W.cell? ⟨w.heap.size, 6, none⟩ = some (.int .i64 x.val.k) ∧ W.cell? ⟨w.heap.size, 7, none⟩ = some (.string x.val.t) ∧ W.cell? ⟨w.heap.size, 8, none⟩ = some (.int .i64 x.val.n) ∧ W.cell? ⟨w.heap.size, 9, none⟩ = some (.bool x.acc) ∧ W.cell? ⟨w.heap.size, 10, none⟩ = some (.bool x.goal) ∧ W.cell? ⟨w.heap.size, 11, none⟩ = some (.int .i64 x.tag)))
          (first | go_keep | assumption)
          (first
            | ((with_reducible refine hon.mono ?_); rintro e w1 ⟨rfl, hB1⟩; have hC := hBd.out.trans (hB1.mono hBd.out.size); have hh := HK.out w1 hC)
            | fail "no arm")
        cases hz : (elmCmp y x == 0)
        · have Hz := Lib.hid hz
          go_wp2_with fail
          go_roundg (xs.length - (j + 1))
          case measure => rw [Hm.out.1]; omega
          case rel => exact ⟨j + 1, by go_num, by omega, Lib.hid ⟨rfl, by rw [Hnx.out, Hz.out]; rfl⟩, hC⟩
        · have Hz := Lib.hid hz
          have hzb := (HX.out w1 hC).2
          have hz1 := zero_cells hzb
          have hCC := hB0.trans (hC.mono hB0.size)
          have hszz := lt_of_block hzb
          have Hzb := Lib.hid hzb
          clear hyc hxc hzb
          obtain ⟨hyc, hxc⟩ := hh
          go_wp2_with fail
          have hm := mem_sto w1 (w.heap.size + 1) y Hzb.out
          have hB3 : Below w.heap.size w ((((((((((((w1.setCell ⟨(w.heap.size + 1), 0, none⟩ (.int .i64 y.id.k)).setCell ⟨(w.heap.size + 1), 1, none⟩ (.string y.id.t)).setCell ⟨(w.heap.size + 1), 2, none⟩ (.int .i64 y.id.n)).setCell ⟨(w.heap.size + 1), 3, none⟩ (.int .i64 y.attr.k)).setCell ⟨(w.heap.size + 1), 4, none⟩ (.string y.attr.t)).setCell ⟨(w.heap.size + 1), 5, none⟩ (.int .i64 y.attr.n)).setCell ⟨(w.heap.size + 1), 6, none⟩ (.int .i64 y.val.k)).setCell ⟨(w.heap.size + 1), 7, none⟩ (.string y.val.t)).setCell ⟨(w.heap.size + 1), 8, none⟩ (.int .i64 y.val.n)).setCell ⟨(w.heap.size + 1), 9, none⟩ (.bool y.acc)).setCell ⟨(w.heap.size + 1), 10, none⟩ (.bool y.goal)).setCell ⟨(w.heap.size + 1), 11, none⟩ (.int .i64 y.tag)) := below_but hCC (but_sto w1 (w.heap.size + 1) y) (by omega) hCC.size
          generalize ((((((((((((w1.setCell ⟨w.heap.size + 1, 0, none⟩ (.int .i64 y.id.k)).setCell ⟨w.heap.size + 1, 1, none⟩ (.string y.id.t)).setCell ⟨w.heap.size + 1, 2, none⟩ (.int .i64 y.id.n)).setCell ⟨w.heap.size + 1, 3, none⟩ (.int .i64 y.attr.k)).setCell ⟨w.heap.size + 1, 4, none⟩ (.string y.attr.t)).setCell ⟨w.heap.size + 1, 5, none⟩ (.int .i64 y.attr.n)).setCell ⟨w.heap.size + 1, 6, none⟩ (.int .i64 y.val.k)).setCell ⟨w.heap.size + 1, 7, none⟩ (.string y.val.t)).setCell ⟨w.heap.size + 1, 8, none⟩ (.int .i64 y.val.n)).setCell ⟨w.heap.size + 1, 9, none⟩ (.bool y.acc)).setCell ⟨w.heap.size + 1, 10, none⟩ (.bool y.goal)).setCell ⟨w.heap.size + 1, 11, none⟩ (.int .i64 y.tag)) = W at hm hB3 ⊢
          exact bodyPost_ret (v := .tuple #[.agg #[.int .i64 y.id.k, .string y.id.t, .int .i64 y.id.n, .int .i64 y.attr.k, .string y.attr.t, .int .i64 y.attr.n, .int .i64 y.val.k, .string y.val.t, .int .i64 y.val.n, .bool y.acc, .bool y.goal, .int .i64 y.tag], .bool true]) (by simp [results, Try.results13, go_sem, hm]) rfl ⟨⟨y, true, rfl, .inl ⟨rfl, Hall.out Hz.out⟩⟩, hB3⟩
    · obtain rfl : j = xs.length := by omega
      have hzb := (HX.out wr hB).2
      have hz1 := zero_cells hzb
      have hCC := hB0.trans (hB.mono hB0.size)
      have hszz := lt_of_block hzb
      have Hzb := Lib.hid hzb
      clear hzb
      go_wp2_with fail
      have hm : ((((((((((((wr.setCell ⟨w.heap.size + 1, 0, none⟩ (.int .i64 0)).setCell ⟨w.heap.size + 1, 1, none⟩ (.string ⟨#[]⟩)).setCell ⟨w.heap.size + 1, 2, none⟩ (.int .i64 0)).setCell ⟨w.heap.size + 1, 3, none⟩ (.int .i64 0)).setCell ⟨w.heap.size + 1, 4, none⟩ (.string ⟨#[]⟩)).setCell ⟨w.heap.size + 1, 5, none⟩ (.int .i64 0)).setCell ⟨w.heap.size + 1, 6, none⟩ (.int .i64 0)).setCell ⟨w.heap.size + 1, 7, none⟩ (.string ⟨#[]⟩)).setCell ⟨w.heap.size + 1, 8, none⟩ (.int .i64 0)).setCell ⟨w.heap.size + 1, 9, none⟩ (.bool false)).setCell ⟨w.heap.size + 1, 10, none⟩ (.bool false)).setCell ⟨w.heap.size + 1, 11, none⟩ (.int .i64 0)).cell? ⟨w.heap.size + 1, 0, none⟩ = some (.int .i64 0) ∧ ((((((((((((wr.setCell ⟨w.heap.size + 1, 0, none⟩ (.int .i64 0)).setCell ⟨w.heap.size + 1, 1, none⟩ (.string ⟨#[]⟩)).setCell ⟨w.heap.size + 1, 2, none⟩ (.int .i64 0)).setCell ⟨w.heap.size + 1, 3, none⟩ (.int .i64 0)).setCell ⟨w.heap.size + 1, 4, none⟩ (.string ⟨#[]⟩)).setCell ⟨w.heap.size + 1, 5, none⟩ (.int .i64 0)).setCell ⟨w.heap.size + 1, 6, none⟩ (.int .i64 0)).setCell ⟨w.heap.size + 1, 7, none⟩ (.string ⟨#[]⟩)).setCell ⟨w.heap.size + 1, 8, none⟩ (.int .i64 0)).setCell ⟨w.heap.size + 1, 9, none⟩ (.bool false)).setCell ⟨w.heap.size + 1, 10, none⟩ (.bool false)).setCell ⟨w.heap.size + 1, 11, none⟩ (.int .i64 0)).cell? ⟨w.heap.size + 1, 1, none⟩ = some (.string ⟨#[]⟩) ∧ ((((((((((((wr.setCell ⟨w.heap.size + 1, 0, none⟩ (.int .i64 0)).setCell ⟨w.heap.size + 1, 1, none⟩ (.string ⟨#[]⟩)).setCell ⟨w.heap.size + 1, 2, none⟩ (.int .i64 0)).setCell ⟨w.heap.size + 1, 3, none⟩ (.int .i64 0)).setCell ⟨w.heap.size + 1, 4, none⟩ (.string ⟨#[]⟩)).setCell ⟨w.heap.size + 1, 5, none⟩ (.int .i64 0)).setCell ⟨w.heap.size + 1, 6, none⟩ (.int .i64 0)).setCell ⟨w.heap.size + 1, 7, none⟩ (.string ⟨#[]⟩)).setCell ⟨w.heap.size + 1, 8, none⟩ (.int .i64 0)).setCell ⟨w.heap.size + 1, 9, none⟩ (.bool false)).setCell ⟨w.heap.size + 1, 10, none⟩ (.bool false)).setCell ⟨w.heap.size + 1, 11, none⟩ (.int .i64 0)).cell? ⟨w.heap.size + 1, 2, none⟩ = some (.int .i64 0) ∧ ((((((((((((wr.setCell ⟨w.heap.size + 1, 0, none⟩ (.int .i64 0)).setCell ⟨w.heap.size + 1, 1, none⟩ (.string ⟨#[]⟩)).setCell ⟨w.heap.size + 1, 2, none⟩ (.int .i64 0)).setCell ⟨w.heap.size + 1, 3, none⟩ (.int .i64 0)).setCell ⟨w.heap.size + 1, 4, none⟩ (.string ⟨#[]⟩)).setCell ⟨w.heap.size + 1, 5, none⟩ (.int .i64 0)).setCell ⟨w.heap.size + 1, 6, none⟩ (.int .i64 0)).setCell ⟨w.heap.size + 1, 7, none⟩ (.string ⟨#[]⟩)).setCell ⟨w.heap.size + 1, 8, none⟩ (.int .i64 0)).setCell ⟨w.heap.size + 1, 9, none⟩ (.bool false)).setCell ⟨w.heap.size + 1, 10, none⟩ (.bool false)).setCell ⟨w.heap.size + 1, 11, none⟩ (.int .i64 0)).cell? ⟨w.heap.size + 1, 3, none⟩ = some (.int .i64 0) ∧ ((((((((((((wr.setCell ⟨w.heap.size + 1, 0, none⟩ (.int .i64 0)).setCell ⟨w.heap.size + 1, 1, none⟩ (.string ⟨#[]⟩)).setCell ⟨w.heap.size + 1, 2, none⟩ (.int .i64 0)).setCell ⟨w.heap.size + 1, 3, none⟩ (.int .i64 0)).setCell ⟨w.heap.size + 1, 4, none⟩ (.string ⟨#[]⟩)).setCell ⟨w.heap.size + 1, 5, none⟩ (.int .i64 0)).setCell ⟨w.heap.size + 1, 6, none⟩ (.int .i64 0)).setCell ⟨w.heap.size + 1, 7, none⟩ (.string ⟨#[]⟩)).setCell ⟨w.heap.size + 1, 8, none⟩ (.int .i64 0)).setCell ⟨w.heap.size + 1, 9, none⟩ (.bool false)).setCell ⟨w.heap.size + 1, 10, none⟩ (.bool false)).setCell ⟨w.heap.size + 1, 11, none⟩ (.int .i64 0)).cell? ⟨w.heap.size + 1, 4, none⟩ = some (.string ⟨#[]⟩) ∧ ((((((((((((wr.setCell ⟨w.heap.size + 1, 0, none⟩ (.int .i64 0)).setCell ⟨w.heap.size + 1, 1, none⟩ (.string ⟨#[]⟩)).setCell ⟨w.heap.size + 1, 2, none⟩ (.int .i64 0)).setCell ⟨w.heap.size + 1, 3, none⟩ (.int .i64 0)).setCell ⟨w.heap.size + 1, 4, none⟩ (.string ⟨#[]⟩)).setCell ⟨w.heap.size + 1, 5, none⟩ (.int .i64 0)).setCell ⟨w.heap.size + 1, 6, none⟩ (.int .i64 0)).setCell ⟨w.heap.size + 1, 7, none⟩ (.string ⟨#[]⟩)).setCell ⟨w.heap.size + 1, 8, none⟩ (.int .i64 0)).setCell ⟨w.heap.size + 1, 9, none⟩ (.bool false)).setCell ⟨w.heap.size + 1, 10, none⟩ (.bool false)).setCell ⟨w.heap.size + 1, 11, none⟩ (.int .i64 0)).cell? ⟨w.heap.size + 1, 5, none⟩ = some (.int .i64 0) ∧ ((((((((((((wr.setCell ⟨w.heap.size + 1, 0, none⟩ (.int .i64 0)).setCell ⟨w.heap.size + 1, 1, none⟩ (.string ⟨#[]⟩)).setCell ⟨w.heap.size + 1, 2, none⟩ (.int .i64 0)).setCell ⟨w.heap.size + 1, 3, none⟩ (.int .i64 0)).setCell ⟨w.heap.size + 1, 4, none⟩ (.string ⟨#[]⟩)).setCell ⟨w.heap.size + 1, 5, none⟩ (.int .i64 0)).setCell ⟨w.heap.size + 1, 6, none⟩ (.int .i64 0)).setCell ⟨w.heap.size + 1, 7, none⟩ (.string ⟨#[]⟩)).setCell ⟨w.heap.size + 1, 8, none⟩ (.int .i64 0)).setCell ⟨w.heap.size + 1, 9, none⟩ (.bool false)).setCell ⟨w.heap.size + 1, 10, none⟩ (.bool false)).setCell ⟨w.heap.size + 1, 11, none⟩ (.int .i64 0)).cell? ⟨w.heap.size + 1, 6, none⟩ = some (.int .i64 0) ∧ ((((((((((((wr.setCell ⟨w.heap.size + 1, 0, none⟩ (.int .i64 0)).setCell ⟨w.heap.size + 1, 1, none⟩ (.string ⟨#[]⟩)).setCell ⟨w.heap.size + 1, 2, none⟩ (.int .i64 0)).setCell ⟨w.heap.size + 1, 3, none⟩ (.int .i64 0)).setCell ⟨w.heap.size + 1, 4, none⟩ (.string ⟨#[]⟩)).setCell ⟨w.heap.size + 1, 5, none⟩ (.int .i64 0)).setCell ⟨w.heap.size + 1, 6, none⟩ (.int .i64 0)).setCell ⟨w.heap.size + 1, 7, none⟩ (.string ⟨#[]⟩)).setCell ⟨w.heap.size + 1, 8, none⟩ (.int .i64 0)).setCell ⟨w.heap.size + 1, 9, none⟩ (.bool false)).setCell ⟨w.heap.size + 1, 10, none⟩ (.bool false)).setCell ⟨w.heap.size + 1, 11, none⟩ (.int .i64 0)).cell? ⟨w.heap.size + 1, 7, none⟩ = some (.string ⟨#[]⟩) ∧ ((((((((((((wr.setCell ⟨w.heap.size + 1, 0, none⟩ (.int .i64 0)).setCell ⟨w.heap.size + 1, 1, none⟩ (.string ⟨#[]⟩)).setCell ⟨w.heap.size + 1, 2, none⟩ (.int .i64 0)).setCell ⟨w.heap.size + 1, 3, none⟩ (.int .i64 0)).setCell ⟨w.heap.size + 1, 4, none⟩ (.string ⟨#[]⟩)).setCell ⟨w.heap.size + 1, 5, none⟩ (.int .i64 0)).setCell ⟨w.heap.size + 1, 6, none⟩ (.int .i64 0)).setCell ⟨w.heap.size + 1, 7, none⟩ (.string ⟨#[]⟩)).setCell ⟨w.heap.size + 1, 8, none⟩ (.int .i64 0)).setCell ⟨w.heap.size + 1, 9, none⟩ (.bool false)).setCell ⟨w.heap.size + 1, 10, none⟩ (.bool false)).setCell ⟨w.heap.size + 1, 11, none⟩ (.int .i64 0)).cell? ⟨w.heap.size + 1, 8, none⟩ = some (.int .i64 0) ∧ ((((((((((((wr.setCell ⟨w.heap.size + 1, 0, none⟩ (.int .i64 0)).setCell ⟨w.heap.size + 1, 1, none⟩ (.string ⟨#[]⟩)).setCell ⟨w.heap.size + 1, 2, none⟩ (.int .i64 0)).setCell ⟨w.heap.size + 1, 3, none⟩ (.int .i64 0)).setCell ⟨w.heap.size + 1, 4, none⟩ (.string ⟨#[]⟩)).setCell ⟨w.heap.size + 1, 5, none⟩ (.int .i64 0)).setCell ⟨w.heap.size + 1, 6, none⟩ (.int .i64 0)).setCell ⟨w.heap.size + 1, 7, none⟩ (.string ⟨#[]⟩)).setCell ⟨w.heap.size + 1, 8, none⟩ (.int .i64 0)).setCell ⟨w.heap.size + 1, 9, none⟩ (.bool false)).setCell ⟨w.heap.size + 1, 10, none⟩ (.bool false)).setCell ⟨w.heap.size + 1, 11, none⟩ (.int .i64 0)).cell? ⟨w.heap.size + 1, 9, none⟩ = some (.bool false) ∧ ((((((((((((wr.setCell ⟨w.heap.size + 1, 0, none⟩ (.int .i64 0)).setCell ⟨w.heap.size + 1, 1, none⟩ (.string ⟨#[]⟩)).setCell ⟨w.heap.size + 1, 2, none⟩ (.int .i64 0)).setCell ⟨w.heap.size + 1, 3, none⟩ (.int .i64 0)).setCell ⟨w.heap.size + 1, 4, none⟩ (.string ⟨#[]⟩)).setCell ⟨w.heap.size + 1, 5, none⟩ (.int .i64 0)).setCell ⟨w.heap.size + 1, 6, none⟩ (.int .i64 0)).setCell ⟨w.heap.size + 1, 7, none⟩ (.string ⟨#[]⟩)).setCell ⟨w.heap.size + 1, 8, none⟩ (.int .i64 0)).setCell ⟨w.heap.size + 1, 9, none⟩ (.bool false)).setCell ⟨w.heap.size + 1, 10, none⟩ (.bool false)).setCell ⟨w.heap.size + 1, 11, none⟩ (.int .i64 0)).cell? ⟨w.heap.size + 1, 10, none⟩ = some (.bool false) ∧ ((((((((((((wr.setCell ⟨w.heap.size + 1, 0, none⟩ (.int .i64 0)).setCell ⟨w.heap.size + 1, 1, none⟩ (.string ⟨#[]⟩)).setCell ⟨w.heap.size + 1, 2, none⟩ (.int .i64 0)).setCell ⟨w.heap.size + 1, 3, none⟩ (.int .i64 0)).setCell ⟨w.heap.size + 1, 4, none⟩ (.string ⟨#[]⟩)).setCell ⟨w.heap.size + 1, 5, none⟩ (.int .i64 0)).setCell ⟨w.heap.size + 1, 6, none⟩ (.int .i64 0)).setCell ⟨w.heap.size + 1, 7, none⟩ (.string ⟨#[]⟩)).setCell ⟨w.heap.size + 1, 8, none⟩ (.int .i64 0)).setCell ⟨w.heap.size + 1, 9, none⟩ (.bool false)).setCell ⟨w.heap.size + 1, 10, none⟩ (.bool false)).setCell ⟨w.heap.size + 1, 11, none⟩ (.int .i64 0)).cell? ⟨w.heap.size + 1, 11, none⟩ = some (.int .i64 0) := mem_sto wr (w.heap.size + 1) (⟨⟨0, ⟨#[]⟩, 0⟩, ⟨0, ⟨#[]⟩, 0⟩, ⟨0, ⟨#[]⟩, 0⟩, false, false, 0⟩ : ElmV) Hzb.out
      have hB3 : Below w.heap.size w ((((((((((((wr.setCell ⟨w.heap.size + 1, 0, none⟩ (.int .i64 0)).setCell ⟨w.heap.size + 1, 1, none⟩ (.string ⟨#[]⟩)).setCell ⟨w.heap.size + 1, 2, none⟩ (.int .i64 0)).setCell ⟨w.heap.size + 1, 3, none⟩ (.int .i64 0)).setCell ⟨w.heap.size + 1, 4, none⟩ (.string ⟨#[]⟩)).setCell ⟨w.heap.size + 1, 5, none⟩ (.int .i64 0)).setCell ⟨w.heap.size + 1, 6, none⟩ (.int .i64 0)).setCell ⟨w.heap.size + 1, 7, none⟩ (.string ⟨#[]⟩)).setCell ⟨w.heap.size + 1, 8, none⟩ (.int .i64 0)).setCell ⟨w.heap.size + 1, 9, none⟩ (.bool false)).setCell ⟨w.heap.size + 1, 10, none⟩ (.bool false)).setCell ⟨w.heap.size + 1, 11, none⟩ (.int .i64 0)) := below_but hCC (but_sto wr (w.heap.size + 1) (⟨⟨0, ⟨#[]⟩, 0⟩, ⟨0, ⟨#[]⟩, 0⟩, ⟨0, ⟨#[]⟩, 0⟩, false, false, 0⟩ : ElmV)) (by omega) hCC.size
      generalize ((((((((((((wr.setCell ⟨w.heap.size + 1, 0, none⟩ (.int .i64 0)).setCell ⟨w.heap.size + 1, 1, none⟩ (.string ⟨#[]⟩)).setCell ⟨w.heap.size + 1, 2, none⟩ (.int .i64 0)).setCell ⟨w.heap.size + 1, 3, none⟩ (.int .i64 0)).setCell ⟨w.heap.size + 1, 4, none⟩ (.string ⟨#[]⟩)).setCell ⟨w.heap.size + 1, 5, none⟩ (.int .i64 0)).setCell ⟨w.heap.size + 1, 6, none⟩ (.int .i64 0)).setCell ⟨w.heap.size + 1, 7, none⟩ (.string ⟨#[]⟩)).setCell ⟨w.heap.size + 1, 8, none⟩ (.int .i64 0)).setCell ⟨w.heap.size + 1, 9, none⟩ (.bool false)).setCell ⟨w.heap.size + 1, 10, none⟩ (.bool false)).setCell ⟨w.heap.size + 1, 11, none⟩ (.int .i64 0)) = W at hm hB3 ⊢
      exact bodyPost_ret (v := .tuple #[.agg #[.int .i64 0, .string ⟨#[]⟩, .int .i64 0, .int .i64 0, .string ⟨#[]⟩, .int .i64 0, .int .i64 0, .string ⟨#[]⟩, .int .i64 0, .bool false, .bool false, .int .i64 0], .bool false]) (by simp [results, Try.results13, go_sem, hm]) rfl ⟨⟨(⟨⟨0, ⟨#[]⟩, 0⟩, ⟨0, ⟨#[]⟩, 0⟩, ⟨0, ⟨#[]⟩, 0⟩, false, false, 0⟩ : ElmV), false, rfl, .inr ⟨rfl, by have := Hm.out.2; rwa [List.take_length] at this, rfl⟩⟩, hB3⟩

end Go.Proofs.Ytcpgjekkcpfpaaa.O
