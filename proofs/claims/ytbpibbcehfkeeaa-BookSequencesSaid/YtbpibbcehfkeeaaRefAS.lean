/- What the statements' Before, Has, below and Syms answer. Conditions: the lists lie in memory; at most 100000 symbols. -/
import Derived.Test.YtbpibbcehfkeeaaNewSS
import Derived.Test.YtbpibbcehfkeeaaSymEq
import Derived.WalkLawsBesides
import Derived.WalkSpells
import Derived.Deep.LoopGhost
namespace Go.Proofs.Ytbpibbcehfkeeaa.S
open Go Go.RowKit

theorem scmp_exact : Exact scmp := by
  intro a b
  constructor
  · intro h
    unfold scmp at h
    rcases List.lt_trichotomy' a.toList b.toList with h1 | h1 | h1
    · simp [h1] at h
    · exact toList_inj h1
    · simp [h1, List.lt_asymm h1] at h
  · rintro rfl; exact scmp_lin.refl a

theorem symCmp_exact : Exact symCmp := by
  intro a b
  constructor
  · intro h
    unfold symCmp lex at h
    split at h
    · rename_i h1; exact absurd h h1
    · rename_i h1
      split at h
      · rename_i h2; exact absurd h h2
      · rename_i h2
        have e1 := (icmp_zero).1 (by simpa using h1)
        have e2 := (scmp_exact _ _).1 (by simpa using h2)
        have e3 := (icmp_zero).1 h
        cases a; cases b; simp_all
  · rintro rfl; exact symCmp_lin.refl a

theorem icmp_neg {a b : Int} : icmp a b < 0 ↔ a < b := by unfold icmp; split <;> (try split) <;> omega
theorem scmp_neg {a b : ByteArray} : scmp a b < 0 ↔ Op.bytesLess a.toList b.toList = true := by
  rw [bytesLess_eq, decide_eq_true_iff]
  unfold scmp
  rcases List.lt_trichotomy' a.toList b.toList with h1 | h1 | h1
  · simp [h1]
  · simp [h1, List.lt_irrefl]
  · simp [h1, List.lt_asymm h1]

theorem below_k {x y : SymV} (h : ¬ x.k = y.k) : decide (x.k < y.k) = decide (symCmp x y < 0) := by
  rw [symCmp_k (fun e => h (icmp_zero.1 e))]; simp [icmp_neg]
theorem below_t {x y : SymV} (h : x.k = y.k) (h' : ¬ x.t = y.t) : Op.bytesLess x.t.toList y.t.toList = decide (symCmp x y < 0) := by
  rw [symCmp_t (icmp_zero.2 h) (fun e => h' ((scmp_exact _ _).1 e)), Bool.eq_iff_iff, decide_eq_true_iff]; exact scmp_neg.symm
theorem below_n {x y : SymV} (h : x.k = y.k) (h' : x.t = y.t) : decide (x.n < y.n) = decide (symCmp x y < 0) := by
  rw [symCmp_n (icmp_zero.2 h) ((scmp_exact _ _).2 h')]; simp [icmp_neg]

set_option maxHeartbeats 800000 in
theorem before_T (w : World) (x y : SymV) : Calls Try.prog 25 #[.agg #[.int .i64 x.k, .string x.t, .int .i64 x.n], .agg #[.int .i64 y.k, .string y.t, .int .i64 y.n]] w fun e w' => e = .returned (.bool (decide (symCmp x y < 0))) ∧ Below w.heap.size w w' := by
  by_cases hk : x.k = y.k
  · have Hk := Lib.hid hk
    have Hk1 : (x.k != y.k) = false := by simp [hk]
    clear hk
    by_cases ht : x.t = y.t
    · have Ht := Lib.hid ht
      have Ht1 : (x.t.toList == y.t.toList) = true := by simp [ht]
      clear ht
      go_enter Try.func25, Try.ntmps25
      go_wp2_with fail
      go_ret
      exact ⟨by rw [← below_n Hk.out Ht.out]; rfl, boxes2 w x y⟩
    · have Ht := Lib.hid ht
      have Ht1 : (x.t.toList == y.t.toList) = false := by simpa using fun e => ht (toList_inj e)
      clear ht
      go_enter Try.func25, Try.ntmps25
      go_wp2_with fail
      go_ret
      exact ⟨by rw [← below_t Hk.out Ht.out]; rfl, boxes2 w x y⟩
  · have Hk := Lib.hid hk
    have Hk1 : (x.k != y.k) = true := by simp [hk]
    clear hk
    go_enter Try.func25, Try.ntmps25
    go_wp2_with fail
    go_ret
    exact ⟨by rw [← below_k Hk.out]; rfl, boxes2 w x y⟩

theorem memo_below {w w' : World} {B b o : Nat} {x : SymV} (hB : Below B w w') (hb : b < B) (h : w.cell? ⟨b, o, none⟩ = some (.int .i64 x.k) ∧ w.cell? ⟨b, o + 1, none⟩ = some (.string x.t) ∧ w.cell? ⟨b, o + 2, none⟩ = some (.int .i64 x.n)) : w'.cell? ⟨b, o, none⟩ = some (.int .i64 x.k) ∧ w'.cell? ⟨b, o + 1, none⟩ = some (.string x.t) ∧ w'.cell? ⟨b, o + 2, none⟩ = some (.int .i64 x.n) := by
  obtain ⟨h0, h1, h2⟩ := h
  exact ⟨(hB.cell (p := ⟨b, o, none⟩) hb).trans h0, (hB.cell (p := ⟨b, o + 1, none⟩) hb).trans h1, (hB.cell (p := ⟨b, o + 2, none⟩) hb).trans h2⟩

set_option maxRecDepth 100000 in
set_option maxHeartbeats 800000 in
theorem syms_T (w : World) (v u : Value) (xs ys : List SymV) (hv : SliceOf w v xs) (hu : SliceOf w u ys) (hs : xs.length ≤ 1000000) (ht : ys.length ≤ 1000000) :
    Calls Try.prog 22 #[v, u] w fun e w' => (∃ b, e = .returned (.bool b) ∧ (b = true ↔ xs = ys)) ∧ Below w.heap.size w w' := by
  have hse := sym_equal'
  have hsg := sym_guard
  obtain ⟨a, cap, rfl, hc⟩ := hv
  obtain ⟨a', cap', rfl, hc'⟩ := hu
  by_cases hl : xs.length = ys.length
  · have hl1 : ((xs.length : Int) != ys.length) = false := by simp [hl]
    have Hl := Lib.hid hl
    have hl2 : xs.length ≤ ys.length := by omega
    clear hl
    go_enter Try.func22, Try.ntmps22
    go_wp2_with fail
    go_loopg [5] xs.length (fun m i wr => ∃ j : Nat, i = .int .i64 j ∧ j ≤ xs.length ∧ Hid (m = xs.length - j ∧ xs.take j = ys.take j) ∧ Below w.heap.size w wr)
    case atStart => exact ⟨0, rfl, by omega, Lib.hid ⟨rfl, rfl⟩, Below.refl _ _⟩
    case round =>
      obtain ⟨j, rfl, hj, Hm, hB⟩ := hrel
      by_cases hlt : j < xs.length
      · rcases hc with rfl | ⟨b, off, rfl, hel⟩
        · simp at hlt
        · rcases hc' with rfl | ⟨b', off', rfl, hel'⟩
          · have : xs.length = 0 := by simpa using hl2
            omega
          · obtain ⟨x, hx⟩ : ∃ x, xs[j]? = some x := ⟨xs[j], by simp [hlt]⟩
            obtain ⟨y, hy⟩ : ∃ y, ys[j]? = some y := ⟨ys[j]'(by omega), List.getElem?_eq_getElem _⟩
            have hxc := (hel.below hB (World.block_lt_of_cell? w _ (hel j x hx).1)) j x hx
            have hyc := (hel'.below hB (World.block_lt_of_cell? w _ (hel' j y hy).1)) j y hy
            have Hx := Lib.hid hx
            have Hy := Lib.hid hy
            have hltt : j < ys.length := by omega
            clear hx hy hel hel'
            by_cases hxy : x = y
            · have hs1 : same ⟨x.k, x.t, x.n⟩ ⟨y.k, y.t, y.n⟩ = true := same_iff.2 (by rw [hxy])
              have Hxy := Lib.hid hxy
              clear hxy
              go_wp2_with fail
              go_quiet (fail)
              go_wp2_with fail
              go_roundg (xs.length - (j + 1))
              case measure => rw [Hm.out.1]; omega
              case rel =>
                exact ⟨j + 1, by go_num, by omega, Lib.hid ⟨rfl, by rw [List.take_add_one, List.take_add_one, Hx.out, Hy.out, Hm.out.2, Hxy.out]⟩, hB.trans (below_drewN _ _ _)⟩
            · have hs1 : same ⟨x.k, x.t, x.n⟩ ⟨y.k, y.t, y.n⟩ = false := by
                have : ¬ same x y = true := fun h => hxy (same_iff.1 h)
                simpa using this
              have Hxy := Lib.hid hxy
              clear hxy
              go_wp2_with fail
              go_quiet (fail)
              go_wp2_with fail
              go_ret
              refine ⟨⟨false, rfl, ?_⟩, hB.trans (below_drewN _ _ _)⟩
              have : xs ≠ ys := by
                rintro rfl
                have := Hx.out.symm.trans Hy.out
                cases this
                exact Hxy.out rfl
              simp [this]
      · obtain rfl : j = xs.length := by omega
        go_wp2_with fail
        go_ret
        refine ⟨⟨true, rfl, ?_⟩, hB⟩
        have := Hm.out.2
        rw [List.take_length, Hl.out, List.take_length] at this
        simp [this]
  · have hl1 : ((xs.length : Int) != ys.length) = true := by simpa using fun e => hl (by omega)
    have Hl := Lib.hid hl
    clear hl
    go_enter Try.func22, Try.ntmps22
    go_wp2_with fail
    go_ret
    refine ⟨⟨false, rfl, ?_⟩, Below.refl _ _⟩
    have : xs ≠ ys := fun e => Hl.out (by rw [e])
    simp [this]

end Go.Proofs.Ytbpibbcehfkeeaa.S
