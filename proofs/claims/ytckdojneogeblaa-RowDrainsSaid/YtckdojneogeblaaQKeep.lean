/- The statements' own helps: Within, Ints, made, the document's example. Conditions: lists lie in memory. -/
import Derived.Test.YtckdojneogeblaaQAllQI
namespace Go.Proofs.Ytckdojneogeblaa
open Go Go.RowKit

theorem within_any (w : World) (v n : Int) (hn : 1 ≤ n) (hn2 : n ≤ 1000000) :
    Calls Try.prog 11 #[.int .i64 v, .int .i64 n] w fun e w' => (∃ k : Nat, e = .returned (.int .i64 k) ∧ (k : Int) < n) ∧ w' = w := by
  have h1 : (n < 1) = False := eq_false (by omega)
  have h2 := Int.tmod_lt_of_pos v (show 0 < n by omega)
  have h3 := Int.lt_tmod_of_pos v (show 0 < n by omega)
  have H2 := Lib.hid h2
  have H3 := Lib.hid h3
  clear h2 h3
  go_enter Try.func11, Try.ntmps11
  go_wp2_with fail
  · rename_i h
    have h3 := H3.out
    have e : wrap64 (v.tmod n + n) = v.tmod n + n := by unfold wrap64; omega
    go_ret
    exact ⟨⟨(v.tmod n + n).toNat, by rw [Int.toNat_of_nonneg (by omega)]; exact congrArg (fun z => Ending.returned (.int .i64 z)) e, by rw [Int.toNat_of_nonneg (by omega)]; omega⟩, rfl⟩
  · rename_i h
    go_ret
    exact ⟨⟨(v.tmod n).toNat, by rw [Int.toNat_of_nonneg h]; rfl, by rw [Int.toNat_of_nonneg h]; exact H2.out⟩, rfl⟩

/-- v is a slice of the numbers xs. -/
def IntsOf (w : World) (v : Value) (xs : List Int) : Prop :=
  ∃ a cap, v = .slice a xs.length cap ∧ xs.length ≤ cap ∧ (a = none → xs = []) ∧ ∀ i z, xs[i]? = some z → ∃ b off, a = some ⟨b, off, none⟩ ∧ w.cell? ⟨b, off + i, none⟩ = some (.int .i64 z)

theorem IntsOf.below {w w' : World} {v : Value} {xs : List Int} (h : IntsOf w v xs) (hB : Below w.heap.size w w') : IntsOf w' v xs := by
  obtain ⟨a, cap, rfl, hc, hno, h⟩ := h
  refine ⟨a, cap, rfl, hc, hno, fun i z hz => ?_⟩
  obtain ⟨b, off, rfl, hz⟩ := h i z hz
  exact ⟨b, off, rfl, (hB.cell (p := ⟨b, off + i, none⟩) (World.block_lt_of_cell? w _ hz)).trans hz⟩

theorem IntsOf.src {w : World} {a : Option Addr} {xs : List Int} {n cap : Nat} (h : IntsOf w (.slice a n cap) xs) : Src1 QI.en w a cap xs := by
  obtain ⟨a', cap', e, -, hno, h⟩ := h
  simp only [Value.slice.injEq] at e
  obtain ⟨rfl, -, rfl⟩ := e
  cases a with
  | none => exact .inl ⟨rfl, hno rfl⟩
  | some ad =>
    refine .inr ⟨ad, rfl, fun j y hy => ?_⟩
    obtain ⟨b, off, e, hz⟩ := h j y hy
    cases e
    rw [Addr.add_lit]
    exact hz

theorem IntsOf.take {w : World} {a : Option Addr} {xs : List Int} {cap : Nat} (h : IntsOf w (.slice a xs.length cap) xs) {n : Nat} (hn : n ≤ xs.length) : IntsOf w (.slice a n cap) (xs.take n) := by
  obtain ⟨a', cap', e, hc, hno, h⟩ := h
  simp only [Value.slice.injEq] at e
  obtain ⟨rfl, -, rfl⟩ := e
  refine ⟨a, cap, by rw [List.length_take, Nat.min_eq_left hn], by rw [List.length_take]; omega, fun e => by rw [hno e]; simp, fun i z hz => h i z ?_⟩
  have hi := (List.getElem?_eq_some_iff.1 hz).1
  rw [List.length_take] at hi
  rwa [List.getElem?_take_of_lt (by omega)] at hz

theorem Rw.ints {B : Nat} {W : World} {v : Value} {xs : List Int} (h : Rw QI.en 3 B W v xs) : IntsOf W v xs := by
  obtain ⟨a, cap, rfl, -, hno, hle⟩ := h.src
  refine ⟨a, cap, rfl, hle, hno, fun i z hz => ?_⟩
  obtain ⟨g, off, cap', e, hc⟩ := h.cellAt i z hz
  cases e
  exact ⟨g, off, rfl, hc⟩

theorem IntsOf.nil (w : World) : IntsOf w (.slice none 0 0) [] := ⟨none, 0, rfl, Nat.le_refl _, fun _ => rfl, by simp⟩

set_option maxHeartbeats 800000 in
theorem ints_T (w : World) (v v' : Value) (xs : List Int) (h : IntsOf w v xs) (h' : IntsOf w v' xs) (hs : xs.length ≤ 100000) :
    Calls Try.prog 16 #[v, v'] w fun e w' => e = .returned (.bool true) ∧ Below w.heap.size w w' := by
  obtain ⟨a, cap, rfl, -, -, hc⟩ := h
  obtain ⟨a', cap', rfl, -, -, hc'⟩ := h'
  have Hc := Lib.hid hc
  have Hc' := Lib.hid hc'
  clear hc hc'
  go_enter Try.func16, Try.ntmps16
  go_wp2_with fail
  go_loopg [5] xs.length (fun m i wr => ∃ j : Nat, i = .int .i64 j ∧ j ≤ xs.length ∧ Hid (m = xs.length - j) ∧ Below w.heap.size w wr)
  case atStart => exact ⟨0, rfl, by omega, Lib.hid rfl, Below.refl _ _⟩
  case round =>
    obtain ⟨j, rfl, hj, Hm, hB⟩ := hrel
    by_cases hlt : j < xs.length
    · obtain ⟨z, hz⟩ : ∃ z, xs[j]? = some z := ⟨xs[j], by simp [hlt]⟩
      obtain ⟨b, off, rfl, hzc⟩ := Hc.out j z hz
      obtain ⟨b', off', rfl, hzc'⟩ := Hc'.out j z hz
      replace hzc := (hB.cell (p := ⟨b, off + j, none⟩) (World.block_lt_of_cell? w _ hzc)).trans hzc
      replace hzc' := (hB.cell (p := ⟨b', off' + j, none⟩) (World.block_lt_of_cell? w _ hzc')).trans hzc'
      clear hz
      go_wp2_with fail
      go_quiet (fail)
      go_wp2_with fail
      go_roundg (xs.length - (j + 1))
      case measure => rw [Hm.out]; omega
      case rel => exact ⟨j + 1, by go_num, by omega, Lib.hid rfl, hB.trans (below_drewN _ _ _)⟩
    · obtain rfl : j = xs.length := by omega
      go_wp2_with fail
      go_ret
      exact ⟨rfl, hB⟩

open QI in
set_option maxHeartbeats 800000 in
theorem wakes_T (w : World) : Calls Try.prog 10 #[] w fun e w' => e = .returned (.bool true) ∧ Below w.heap.size w w' := by
  go_enter Try.func10, Try.ntmps10
  go_wp2_with fail
  refine (new_yes w 2 (by omega) (by omega)).mono ?_
  rintro e w1 ⟨rfl, hQ, hB1⟩
  go_wp2_with fail
  have hA1 : Below w1.heap.size w1 (w1.alloc (.cells #[.int .i64 1, .int .i64 2, .int .i64 3] 3)) := (Below.refl _ _).alloc (Nat.le_refl _) _
  have hQ1 := hQ.below hA1
  have hC1 := hB1.trans (hA1.mono hB1.size)
  generalize w1.alloc (.cells #[.int .i64 1, .int .i64 2, .int .i64 3] 3) = W1 at hQ1 hC1 ⊢
  refine (push_no _ W1 _ 2 _ _ _ hQ1 _ 3 3 (by omega) (by simp)).mono ?_
  rintro e w2 ⟨rfl, hB2⟩
  have hQ2 := hQ1.below hB2
  have hC2 := hC1.trans (hB2.mono hC1.size)
  go_wp2_with fail
  refine (len_T _ w2 _ 2 _ _ _ hQ2).mono ?_
  rintro e w3 ⟨rfl, rfl⟩
  go_wp2_with fail
  have hn := heap_alloc_new w3 (.cells #[.int .i64 4] 3)
  have hA3 : Below w3.heap.size w3 (w3.alloc (.cells #[.int .i64 4] 3)) := (Below.refl _ _).alloc (Nat.le_refl _) _
  have hQ3 := hQ2.below hA3
  have hC3 := hC2.trans (hA3.mono hC2.size)
  generalize w3.alloc (.cells #[.int .i64 4] 3) = W3 at hQ3 hC3 hn ⊢
  refine (push_yes _ W3 _ 2 _ _ _ hQ3 _ 1 1 [4] rfl (.inr ⟨_, rfl, fun j y hy => ?_⟩) hC3.size (by simp)).mono ?_
  · cases j with
    | zero => cases hy; exact cell_of_heap hn (i := 0) rfl
    | succ j => simp at hy
  rintro e w4 ⟨rfl, v', hQ4, hF, -⟩
  have hC4 := hC3.trans (hF.below (Nat.le_refl _) (fun g l e => by simp [endOf] at e) hC3.size)
  go_wp2_with fail
  refine (len_T _ w4 _ 2 _ _ _ hQ4).mono ?_
  rintro e w5 ⟨rfl, rfl⟩
  go_wp2_with fail
  go_ret
  exact ⟨rfl, hC4⟩

open QI in
theorem made_T (w : World) (v : Value) (xs : List Int) (h : IntsOf w v xs) (hs : xs.length ≤ 1000) :
    Calls Try.prog 19 #[v] w fun e w' => e = .returned (.pointer (some ⟨w.heap.size, 0, none⟩)) ∧ (∃ v', QAt w.heap.size w' w.heap.size 1000 v' 0 xs) ∧ Below w.heap.size w w' := by
  have h0 := h
  obtain ⟨a, cap, rfl, -, -, hc⟩ := h
  have Hc := Lib.hid hc
  clear hc
  go_enter Try.func19, Try.ntmps19
  go_wp2_with fail
  refine (new_yes w 1000 (by omega) (by omega)).mono ?_
  rintro e w1 ⟨rfl, hQ, hB1⟩
  have hsr := (h0.below hB1).src
  have hp := push_yes _ w1 _ 1000 _ _ _ hQ a xs.length cap xs rfl hsr hB1.size (by simp; omega)
  go_wp2_with fail
  refine hp.mono ?_
  rintro e w2 ⟨rfl, v', hQ2, hF, -⟩
  go_wp2_with fail
  go_ret
  exact ⟨rfl, ⟨v', by simpa using hQ2⟩, hB1.trans (hF.below (Nat.le_refl _) (fun g l e => by cases e) hB1.size)⟩

end Go.Proofs.Ytckdojneogeblaa
