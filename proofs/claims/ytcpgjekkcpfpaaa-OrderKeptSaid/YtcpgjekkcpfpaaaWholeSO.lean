/- What grow makes of a list. Conditions: the list lies in memory; at most 700000 members. -/
import Derived.Test.YtcpgjekkcpfpaaaMg11
namespace Go.Proofs.Ytcpgjekkcpfpaaa.O
open Go Go.RowKit

theorem Elems.take {w : World} {b off : Nat} {xs : List ElmV} (h : Elems w b off xs) (m : Nat) : Elems w b off (xs.take m) := by
  intro i x hx
  have hi : i < m := by
    have := (List.getElem?_eq_some_iff.1 hx).1
    simp at this; omega
  exact h i x (by rwa [List.getElem?_take_of_lt hi] at hx)

theorem Elems.drop {w : World} {b off : Nat} {xs : List ElmV} (h : Elems w b off xs) (m : Nat) : Elems w b (off + m * 12) (xs.drop m) := by
  intro i x hx
  rw [List.getElem?_drop] at hx
  have := h (m + i) x hx
  have e : off + (m + i) * 12 = off + m * 12 + i * 12 := by omega
  rw [e] at this
  exact this

set_option maxHeartbeats 1600000 in
theorem grow_T : ∀ (n : Nat) (w : World) (a : Option Addr) (cap : Nat) (xs : List ElmV), xs.length ≤ n → xs.length ≤ cap → cap ≤ maxLen → xs.length ≤ 700000 → (xs = [] ∨ ∃ b off, a = some ⟨b, off, none⟩ ∧ Elems w b off xs) →
    Calls Try.prog 34 #[.slice a xs.length cap] w fun e w' => ∃ t p, e = .returned (.pointer p) ∧ LT w' t p ∧ t.list = xs ∧ Below w.heap.size w w' := by
  intro n
  induction n with
  | zero =>
    intro w a cap xs h0 hcap hm hs hc
    obtain rfl : xs = [] := List.length_eq_zero_iff.1 (by omega)
    simp only [List.length_nil]
    go_enter Try.func34, Try.ntmps34
    go_wp2_with fail
    go_ret
    exact ⟨.nil, none, rfl, rfl, rfl, Below.refl _ _⟩
  | succ n ih =>
    intro w a cap xs h0 hcap hm hs hc
    rcases Nat.eq_zero_or_pos xs.length with hz | hpos
    · obtain rfl : xs = [] := List.length_eq_zero_iff.1 hz
      simp only [List.length_nil]
      go_enter Try.func34, Try.ntmps34
      go_wp2_with fail
      go_ret
      exact ⟨.nil, none, rfl, rfl, rfl, Below.refl _ _⟩
    · rcases hc with rfl | ⟨b, off, rfl, hel⟩
      · simp at hpos
      · have hne : ((xs.length : Int) == 0) = false := beq_eq_false_iff_ne.2 (by omega)
        obtain ⟨m, hmm⟩ : ∃ m : Nat, (xs.length : Int) / 2 = m := ⟨xs.length / 2, by omega⟩
        have hml : m < xs.length := by omega
        obtain ⟨y, hy⟩ : ∃ y, xs[m]? = some y := ⟨xs[m], by simp [hml]⟩
        have hyc := hel m y hy
        have hbl := World.block_lt_of_cell? w _ hyc.1
        have Hel := Lib.hid hel
        have Hy := Lib.hid hy
        have Hmm := Lib.hid hmm
        unfold maxLen at hm
        have hmc : m ≤ cap := by omega
        have hm1 : m + 1 ≤ xs.length := by omega
        have hm2 : m + 1 ≤ cap := by omega
        have hm3 : (m : Int) + 1 ≤ xs.length := by omega
        have hm4 : (m : Int) + 1 ≤ cap := by omega
        have hm5 : (0 : Int) ≤ (m : Int) + 1 := by omega
        have hm6 : IntKind.i64.wrap ((m : Int) + 1) = (m : Int) + 1 := IntWalk.i64_in _ (by omega)
        have hm7 : ((m : Int) + 1).toNat = m + 1 := by omega
        clear hel hy
        have hleft : ∀ W, Below w.heap.size w W → Calls Try.prog 34 #[.slice (some ⟨b, off, none⟩) m cap] W fun e w' => ∃ t p, e = .returned (.pointer p) ∧ LT w' t p ∧ t.list = xs.take m ∧ Below W.heap.size W w' := by
          intro W hB
          have := ih W (some ⟨b, off, none⟩) cap (xs.take m) (by simp; omega) (by simp; omega) (by unfold maxLen; omega) (by simp; omega) (.inr ⟨b, off, rfl, (Hel.out.below hB hbl).take m⟩)
          rw [List.length_take, Nat.min_eq_left (by omega)] at this
          exact this
        by_cases hce : cap = m + 1
        · subst hce
          have hm8 : (m : Int) ≤ (m : Int) + 1 := by omega
          have hright : ∀ W, Below w.heap.size w W → Calls Try.prog 34 #[.slice (some ⟨b, off, none⟩) 0 0] W fun e w' => ∃ t p, e = .returned (.pointer p) ∧ LT w' t p ∧ t.list = xs.drop (m + 1) ∧ Below W.heap.size W w' := by
            intro W hB
            have e : xs.drop (m + 1) = [] := List.drop_eq_nil_of_le (by omega)
            rw [e]
            exact ih W (some ⟨b, off, none⟩) 0 [] (by simp) (by simp) (by unfold maxLen; omega) (by simp) (.inl rfl)
          clear ih hmm
          go_enter Try.func34, Try.ntmps34
          have hmm := Hmm.out
          go_wp2_with fail
          have hC1 : Below w.heap.size w w.drew := (Below.refl _ w).drew
          have hyd : w.drew.cell? ⟨b, off + m * 12, none⟩ = some (.int .i64 y.id.k) ∧ w.drew.cell? ⟨b, off + m * 12 + 1, none⟩ = some (.string y.id.t) ∧ w.drew.cell? ⟨b, off + m * 12 + 2, none⟩ = some (.int .i64 y.id.n) ∧ w.drew.cell? ⟨b, off + m * 12 + 3, none⟩ = some (.int .i64 y.attr.k) ∧ w.drew.cell? ⟨b, off + m * 12 + 4, none⟩ = some (.string y.attr.t) ∧ w.drew.cell? ⟨b, off + m * 12 + 5, none⟩ = some (.int .i64 y.attr.n) ∧ w.drew.cell? ⟨b, off + m * 12 + 6, none⟩ = some (.int .i64 y.val.k) ∧ w.drew.cell? ⟨b, off + m * 12 + 7, none⟩ = some (.string y.val.t) ∧ w.drew.cell? ⟨b, off + m * 12 + 8, none⟩ = some (.int .i64 y.val.n) ∧ w.drew.cell? ⟨b, off + m * 12 + 9, none⟩ = some (.bool y.acc) ∧ w.drew.cell? ⟨b, off + m * 12 + 10, none⟩ = some (.bool y.goal) ∧ w.drew.cell? ⟨b, off + m * 12 + 11, none⟩ = some (.int .i64 y.tag) := hyc
          go_region_held3 (fun W => (W.cell? ⟨b, off + m * 12, none⟩ = some (.int .i64 y.id.k) ∧ W.cell? ⟨b, off + m * 12 + 1, none⟩ = some (.string y.id.t) ∧ W.cell? ⟨b, off + m * 12 + 2, none⟩ = some (.int .i64 y.id.n) ∧ W.cell? ⟨b, off + m * 12 + 3, none⟩ = some (.int .i64 y.attr.k) ∧ W.cell? ⟨b, off + m * 12 + 4, none⟩ = some (.string y.attr.t) ∧ W.cell? ⟨b, off + m * 12 + 5, none⟩ = some (.int .i64 y.attr.n) ∧ W.cell? ⟨b, off + m * 12 + 6, none⟩ = some (.int .i64 y.val.k) ∧ W.cell? ⟨b, off + m * 12 + 7, none⟩ = some (.string y.val.t) ∧ W.cell? ⟨b, off + m * 12 + 8, none⟩ = some (.int .i64 y.val.n) ∧ W.cell? ⟨b, off + m * 12 + 9, none⟩ = some (.bool y.acc) ∧ W.cell? ⟨b, off + m * 12 + 10, none⟩ = some (.bool y.goal) ∧ W.cell? ⟨b, off + m * 12 + 11, none⟩ = some (.int .i64 y.tag)))
            (first | go_keep | assumption)
            (first
              | ((with_reducible refine (hleft w.drew hC1).mono ?_); rintro e w1 ⟨t1, p1, rfl, ht1, hL1, hB1⟩; have hC2 := hC1.trans (hB1.mono hC1.size); have hc2 : w1.cell? ⟨b, off + m * 12, none⟩ = some (.int .i64 y.id.k) ∧ w1.cell? ⟨b, off + m * 12 + 1, none⟩ = some (.string y.id.t) ∧ w1.cell? ⟨b, off + m * 12 + 2, none⟩ = some (.int .i64 y.id.n) ∧ w1.cell? ⟨b, off + m * 12 + 3, none⟩ = some (.int .i64 y.attr.k) ∧ w1.cell? ⟨b, off + m * 12 + 4, none⟩ = some (.string y.attr.t) ∧ w1.cell? ⟨b, off + m * 12 + 5, none⟩ = some (.int .i64 y.attr.n) ∧ w1.cell? ⟨b, off + m * 12 + 6, none⟩ = some (.int .i64 y.val.k) ∧ w1.cell? ⟨b, off + m * 12 + 7, none⟩ = some (.string y.val.t) ∧ w1.cell? ⟨b, off + m * 12 + 8, none⟩ = some (.int .i64 y.val.n) ∧ w1.cell? ⟨b, off + m * 12 + 9, none⟩ = some (.bool y.acc) ∧ w1.cell? ⟨b, off + m * 12 + 10, none⟩ = some (.bool y.goal) ∧ w1.cell? ⟨b, off + m * 12 + 11, none⟩ = some (.int .i64 y.tag) := (Hel.out.below hC2 hbl) m y Hy.out; have HL1 := Lib.hid hL1; clear hL1)
              | ((with_reducible refine (hright w1 hC2).mono ?_); rintro e w2 ⟨t2, p2, rfl, ht2, hL2, hB2⟩; have hC3 := hC2.trans (hB2.mono hC2.size); have hc3 : w2.cell? ⟨b, off + m * 12, none⟩ = some (.int .i64 y.id.k) ∧ w2.cell? ⟨b, off + m * 12 + 1, none⟩ = some (.string y.id.t) ∧ w2.cell? ⟨b, off + m * 12 + 2, none⟩ = some (.int .i64 y.id.n) ∧ w2.cell? ⟨b, off + m * 12 + 3, none⟩ = some (.int .i64 y.attr.k) ∧ w2.cell? ⟨b, off + m * 12 + 4, none⟩ = some (.string y.attr.t) ∧ w2.cell? ⟨b, off + m * 12 + 5, none⟩ = some (.int .i64 y.attr.n) ∧ w2.cell? ⟨b, off + m * 12 + 6, none⟩ = some (.int .i64 y.val.k) ∧ w2.cell? ⟨b, off + m * 12 + 7, none⟩ = some (.string y.val.t) ∧ w2.cell? ⟨b, off + m * 12 + 8, none⟩ = some (.int .i64 y.val.n) ∧ w2.cell? ⟨b, off + m * 12 + 9, none⟩ = some (.bool y.acc) ∧ w2.cell? ⟨b, off + m * 12 + 10, none⟩ = some (.bool y.goal) ∧ w2.cell? ⟨b, off + m * 12 + 11, none⟩ = some (.int .i64 y.tag) := (Hel.out.below hC3 hbl) m y Hy.out; have hsz : t1.size + t2.size ≤ 1000000 := (by have h1 := HL1.out; simp only [Tr.size, h1, hL2, List.length_take, List.length_drop]; omega); have HL2 := Lib.hid hL2; clear hL2)
              | ((with_reducible refine (link_T w2 t1 t2 p1 p2 y (ht1.ext hB2) ht2 hsz).mono ?_); rintro e w3 ⟨b3, rfl, ht3, hB3⟩; have hC4 := hC3.trans (hB3.mono hC3.size); have hc4 : w3.cell? ⟨b, off + m * 12, none⟩ = some (.int .i64 y.id.k) ∧ w3.cell? ⟨b, off + m * 12 + 1, none⟩ = some (.string y.id.t) ∧ w3.cell? ⟨b, off + m * 12 + 2, none⟩ = some (.int .i64 y.id.n) ∧ w3.cell? ⟨b, off + m * 12 + 3, none⟩ = some (.int .i64 y.attr.k) ∧ w3.cell? ⟨b, off + m * 12 + 4, none⟩ = some (.string y.attr.t) ∧ w3.cell? ⟨b, off + m * 12 + 5, none⟩ = some (.int .i64 y.attr.n) ∧ w3.cell? ⟨b, off + m * 12 + 6, none⟩ = some (.int .i64 y.val.k) ∧ w3.cell? ⟨b, off + m * 12 + 7, none⟩ = some (.string y.val.t) ∧ w3.cell? ⟨b, off + m * 12 + 8, none⟩ = some (.int .i64 y.val.n) ∧ w3.cell? ⟨b, off + m * 12 + 9, none⟩ = some (.bool y.acc) ∧ w3.cell? ⟨b, off + m * 12 + 10, none⟩ = some (.bool y.goal) ∧ w3.cell? ⟨b, off + m * 12 + 11, none⟩ = some (.int .i64 y.tag) := (Hel.out.below hC4 hbl) m y Hy.out)
              | fail "no arm")
          go_wp2_with fail
          go_ret
          refine ⟨_, _, rfl, ht3, ?_, hC4⟩
          show t1.list ++ y :: t2.list = xs
          obtain ⟨hy1, hy2⟩ := List.getElem?_eq_some_iff.1 Hy.out
          rw [HL1.out, HL2.out, ← hy2, ← List.drop_eq_getElem_cons hy1, List.take_append_drop]
        · have hright : ∀ W, Below w.heap.size w W → Calls Try.prog 34 #[.slice (some ⟨b, off + (m + 1) * 12, none⟩) (xs.length - (m + 1)) (cap - (m + 1))] W fun e w' => ∃ t p, e = .returned (.pointer p) ∧ LT w' t p ∧ t.list = xs.drop (m + 1) ∧ Below W.heap.size W w' := by
            intro W hB
            have := ih W (some ⟨b, off + (m + 1) * 12, none⟩) (cap - (m + 1)) (xs.drop (m + 1)) (by simp; omega) (by simp; omega) (by unfold maxLen; omega) (by simp; omega) (.inr ⟨b, _, rfl, (Hel.out.below hB hbl).drop (m + 1)⟩)
            rw [List.length_drop] at this
            exact this
          clear ih hmm
          go_enter Try.func34, Try.ntmps34
          have hmm := Hmm.out
          go_wp2_with fail
          have hC1 : Below w.heap.size w w.drew := (Below.refl _ w).drew
          have hyd : w.drew.cell? ⟨b, off + m * 12, none⟩ = some (.int .i64 y.id.k) ∧ w.drew.cell? ⟨b, off + m * 12 + 1, none⟩ = some (.string y.id.t) ∧ w.drew.cell? ⟨b, off + m * 12 + 2, none⟩ = some (.int .i64 y.id.n) ∧ w.drew.cell? ⟨b, off + m * 12 + 3, none⟩ = some (.int .i64 y.attr.k) ∧ w.drew.cell? ⟨b, off + m * 12 + 4, none⟩ = some (.string y.attr.t) ∧ w.drew.cell? ⟨b, off + m * 12 + 5, none⟩ = some (.int .i64 y.attr.n) ∧ w.drew.cell? ⟨b, off + m * 12 + 6, none⟩ = some (.int .i64 y.val.k) ∧ w.drew.cell? ⟨b, off + m * 12 + 7, none⟩ = some (.string y.val.t) ∧ w.drew.cell? ⟨b, off + m * 12 + 8, none⟩ = some (.int .i64 y.val.n) ∧ w.drew.cell? ⟨b, off + m * 12 + 9, none⟩ = some (.bool y.acc) ∧ w.drew.cell? ⟨b, off + m * 12 + 10, none⟩ = some (.bool y.goal) ∧ w.drew.cell? ⟨b, off + m * 12 + 11, none⟩ = some (.int .i64 y.tag) := hyc
          go_region_held3 (fun W => (W.cell? ⟨b, off + m * 12, none⟩ = some (.int .i64 y.id.k) ∧ W.cell? ⟨b, off + m * 12 + 1, none⟩ = some (.string y.id.t) ∧ W.cell? ⟨b, off + m * 12 + 2, none⟩ = some (.int .i64 y.id.n) ∧ W.cell? ⟨b, off + m * 12 + 3, none⟩ = some (.int .i64 y.attr.k) ∧ W.cell? ⟨b, off + m * 12 + 4, none⟩ = some (.string y.attr.t) ∧ W.cell? ⟨b, off + m * 12 + 5, none⟩ = some (.int .i64 y.attr.n) ∧ W.cell? ⟨b, off + m * 12 + 6, none⟩ = some (.int .i64 y.val.k) ∧ W.cell? ⟨b, off + m * 12 + 7, none⟩ = some (.string y.val.t) ∧ W.cell? ⟨b, off + m * 12 + 8, none⟩ = some (.int .i64 y.val.n) ∧ W.cell? ⟨b, off + m * 12 + 9, none⟩ = some (.bool y.acc) ∧ W.cell? ⟨b, off + m * 12 + 10, none⟩ = some (.bool y.goal) ∧ W.cell? ⟨b, off + m * 12 + 11, none⟩ = some (.int .i64 y.tag)))
            (first | go_keep | assumption)
            (first
              | ((with_reducible refine (hleft w.drew hC1).mono ?_); rintro e w1 ⟨t1, p1, rfl, ht1, hL1, hB1⟩; have hC2 := hC1.trans (hB1.mono hC1.size); have hc2 : w1.cell? ⟨b, off + m * 12, none⟩ = some (.int .i64 y.id.k) ∧ w1.cell? ⟨b, off + m * 12 + 1, none⟩ = some (.string y.id.t) ∧ w1.cell? ⟨b, off + m * 12 + 2, none⟩ = some (.int .i64 y.id.n) ∧ w1.cell? ⟨b, off + m * 12 + 3, none⟩ = some (.int .i64 y.attr.k) ∧ w1.cell? ⟨b, off + m * 12 + 4, none⟩ = some (.string y.attr.t) ∧ w1.cell? ⟨b, off + m * 12 + 5, none⟩ = some (.int .i64 y.attr.n) ∧ w1.cell? ⟨b, off + m * 12 + 6, none⟩ = some (.int .i64 y.val.k) ∧ w1.cell? ⟨b, off + m * 12 + 7, none⟩ = some (.string y.val.t) ∧ w1.cell? ⟨b, off + m * 12 + 8, none⟩ = some (.int .i64 y.val.n) ∧ w1.cell? ⟨b, off + m * 12 + 9, none⟩ = some (.bool y.acc) ∧ w1.cell? ⟨b, off + m * 12 + 10, none⟩ = some (.bool y.goal) ∧ w1.cell? ⟨b, off + m * 12 + 11, none⟩ = some (.int .i64 y.tag) := (Hel.out.below hC2 hbl) m y Hy.out; have HL1 := Lib.hid hL1; clear hL1)
              | ((with_reducible refine (hright w1 hC2).mono ?_); rintro e w2 ⟨t2, p2, rfl, ht2, hL2, hB2⟩; have hC3 := hC2.trans (hB2.mono hC2.size); have hc3 : w2.cell? ⟨b, off + m * 12, none⟩ = some (.int .i64 y.id.k) ∧ w2.cell? ⟨b, off + m * 12 + 1, none⟩ = some (.string y.id.t) ∧ w2.cell? ⟨b, off + m * 12 + 2, none⟩ = some (.int .i64 y.id.n) ∧ w2.cell? ⟨b, off + m * 12 + 3, none⟩ = some (.int .i64 y.attr.k) ∧ w2.cell? ⟨b, off + m * 12 + 4, none⟩ = some (.string y.attr.t) ∧ w2.cell? ⟨b, off + m * 12 + 5, none⟩ = some (.int .i64 y.attr.n) ∧ w2.cell? ⟨b, off + m * 12 + 6, none⟩ = some (.int .i64 y.val.k) ∧ w2.cell? ⟨b, off + m * 12 + 7, none⟩ = some (.string y.val.t) ∧ w2.cell? ⟨b, off + m * 12 + 8, none⟩ = some (.int .i64 y.val.n) ∧ w2.cell? ⟨b, off + m * 12 + 9, none⟩ = some (.bool y.acc) ∧ w2.cell? ⟨b, off + m * 12 + 10, none⟩ = some (.bool y.goal) ∧ w2.cell? ⟨b, off + m * 12 + 11, none⟩ = some (.int .i64 y.tag) := (Hel.out.below hC3 hbl) m y Hy.out; have hsz : t1.size + t2.size ≤ 1000000 := (by have h1 := HL1.out; simp only [Tr.size, h1, hL2, List.length_take, List.length_drop]; omega); have HL2 := Lib.hid hL2; clear hL2)
              | ((with_reducible refine (link_T w2 t1 t2 p1 p2 y (ht1.ext hB2) ht2 hsz).mono ?_); rintro e w3 ⟨b3, rfl, ht3, hB3⟩; have hC4 := hC3.trans (hB3.mono hC3.size); have hc4 : w3.cell? ⟨b, off + m * 12, none⟩ = some (.int .i64 y.id.k) ∧ w3.cell? ⟨b, off + m * 12 + 1, none⟩ = some (.string y.id.t) ∧ w3.cell? ⟨b, off + m * 12 + 2, none⟩ = some (.int .i64 y.id.n) ∧ w3.cell? ⟨b, off + m * 12 + 3, none⟩ = some (.int .i64 y.attr.k) ∧ w3.cell? ⟨b, off + m * 12 + 4, none⟩ = some (.string y.attr.t) ∧ w3.cell? ⟨b, off + m * 12 + 5, none⟩ = some (.int .i64 y.attr.n) ∧ w3.cell? ⟨b, off + m * 12 + 6, none⟩ = some (.int .i64 y.val.k) ∧ w3.cell? ⟨b, off + m * 12 + 7, none⟩ = some (.string y.val.t) ∧ w3.cell? ⟨b, off + m * 12 + 8, none⟩ = some (.int .i64 y.val.n) ∧ w3.cell? ⟨b, off + m * 12 + 9, none⟩ = some (.bool y.acc) ∧ w3.cell? ⟨b, off + m * 12 + 10, none⟩ = some (.bool y.goal) ∧ w3.cell? ⟨b, off + m * 12 + 11, none⟩ = some (.int .i64 y.tag) := (Hel.out.below hC4 hbl) m y Hy.out)
              | fail "no arm")
          go_wp2_with fail
          go_ret
          refine ⟨_, _, rfl, ht3, ?_, hC4⟩
          show t1.list ++ y :: t2.list = xs
          obtain ⟨hy1, hy2⟩ := List.getElem?_eq_some_iff.1 Hy.out
          rw [HL1.out, HL2.out, ← hy2, ← List.drop_eq_getElem_cons hy1, List.take_append_drop]

end Go.Proofs.Ytcpgjekkcpfpaaa.O
