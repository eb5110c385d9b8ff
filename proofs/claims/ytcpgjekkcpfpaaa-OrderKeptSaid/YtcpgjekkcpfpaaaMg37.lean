/- What the statements' Elems answers. Conditions: the lists lie in memory; at most 1000000 elements.
'wakes', the document's example, answers true. Conditions: none. -/
import Derived.Test.YtcpgjekkcpfpaaaRefElm2O
import Derived.Test.YtcpgjekkcpfpaaaMg19
namespace Go.Proofs.Ytcpgjekkcpfpaaa.O
open Go Go.RowKit

set_option maxRecDepth 100000 in
set_option maxHeartbeats 1600000 in
theorem elems_T (w : World) (v u : Value) (xs ys : List ElmV) (hv : SliceOf w v xs) (hu : SliceOf w u ys) (hs : xs.length ≤ 1000000) (ht : ys.length ≤ 1000000) :
    Calls Try.prog 7 #[v, u] w fun e w' => (∃ b, e = .returned (.bool b) ∧ (b = true ↔ xs = ys)) ∧ Below w.heap.size w w' := by
  have hse := elm_equal'
  have hsg := elm_guard
  obtain ⟨a, cap, rfl, hc⟩ := hv
  obtain ⟨a', cap', rfl, hc'⟩ := hu
  by_cases hl : xs.length = ys.length
  · have hl1 : ((xs.length : Int) != ys.length) = false := by simp [hl]
    have Hl := Lib.hid hl
    have hl2 : xs.length ≤ ys.length := by omega
    clear hl
    go_enter Try.func7, Try.ntmps7
    go_wp2_with fail
    go_loopg [5] xs.length (fun m i wr => ∃ j : Nat, i = .int .i64 j ∧ j ≤ xs.length ∧ Hid (m = xs.length - j ∧ xs.take j = ys.take j) ∧ Below w.heap.size w wr)
    case atStart => exact ⟨0, rfl, by omega, Lib.hid ⟨rfl, rfl⟩, Below.refl _ _⟩
    case round =>
      obtain ⟨j, rfl, hj, Hm, hB⟩ := hrel
      by_cases hlt : j < xs.length
      · rcases hc with rfl | ⟨b, off, rfl, hel⟩
        · simp at hlt
        · rcases hc' with rfl | ⟨b', off', rfl, hel'⟩
          · have : xs.length = 0 := by simpa using hl2
            omega
          · obtain ⟨x, hx⟩ : ∃ x, xs[j]? = some x := ⟨xs[j], by simp [hlt]⟩
            obtain ⟨y, hy⟩ : ∃ y, ys[j]? = some y := ⟨ys[j]'(by omega), List.getElem?_eq_getElem _⟩
            have hxc := memo_at hel hx hB
            have hyc := memo_at hel' hy hB
            have Hx := Lib.hid hx
            have Hy := Lib.hid hy
            have hltt : j < ys.length := by omega
            clear hx hy hel hel'
            by_cases hxy : x = y
            · have hs1 : sameE ⟨⟨x.id.k, x.id.t, x.id.n⟩, ⟨x.attr.k, x.attr.t, x.attr.n⟩, ⟨x.val.k, x.val.t, x.val.n⟩, x.acc, x.goal, x.tag⟩ ⟨⟨y.id.k, y.id.t, y.id.n⟩, ⟨y.attr.k, y.attr.t, y.attr.n⟩, ⟨y.val.k, y.val.t, y.val.n⟩, y.acc, y.goal, y.tag⟩ = true := sameE_iff.2 (by rw [hxy])
              have Hxy := Lib.hid hxy
              clear hxy
              go_wp2_with fail
              go_quiet (fail)
              go_wp2_with fail
              go_roundg (xs.length - (j + 1))
              case measure => rw [Hm.out.1]; omega
              case rel =>
                exact ⟨j + 1, by go_num, by omega, Lib.hid ⟨rfl, by rw [List.take_add_one, List.take_add_one, Hx.out, Hy.out, Hm.out.2, Hxy.out]⟩, hB.trans (below_drewN _ _ _)⟩
            · have hs1 : sameE ⟨⟨x.id.k, x.id.t, x.id.n⟩, ⟨x.attr.k, x.attr.t, x.attr.n⟩, ⟨x.val.k, x.val.t, x.val.n⟩, x.acc, x.goal, x.tag⟩ ⟨⟨y.id.k, y.id.t, y.id.n⟩, ⟨y.attr.k, y.attr.t, y.attr.n⟩, ⟨y.val.k, y.val.t, y.val.n⟩, y.acc, y.goal, y.tag⟩ = false := by
                have : ¬ sameE x y = true := fun h => hxy (sameE_iff.1 h)
                simpa using this
              have Hxy := Lib.hid hxy
              clear hxy
              go_wp2_with fail
              go_quiet (fail)
              go_wp2_with fail
              go_ret
              refine ⟨⟨false, rfl, ?_⟩, hB.trans (below_drewN _ _ _)⟩
              have : xs ≠ ys := by
                rintro rfl
                have := Hx.out.symm.trans Hy.out
                cases this
                exact Hxy.out rfl
              simp [this]
      · obtain rfl : j = xs.length := by omega
        go_wp2_with fail
        go_ret
        refine ⟨⟨true, rfl, ?_⟩, hB⟩
        have h := Hm.out.2
        have hl := Hl.out
        rw [List.take_length, hl, List.take_length] at h
        simp [h]
  · have hl1 : ((xs.length : Int) != ys.length) = true := by simp; omega
    have Hl := Lib.hid hl
    clear hl
    go_enter Try.func7, Try.ntmps7
    go_wp2_with fail
    go_ret
    refine ⟨⟨false, rfl, ?_⟩, Below.refl _ _⟩
    have : xs ≠ ys := by rintro rfl; exact Hl.out rfl
    simp [this]

end Go.Proofs.Ytcpgjekkcpfpaaa.O

namespace Go.Proofs.Ytcpgjekkcpfpaaa
open Go Go.RowKit

def s1 : SymV := ⟨1, ⟨#[83]⟩, 1⟩
def s2 : SymV := ⟨1, ⟨#[83]⟩, 2⟩

theorem cmp_same (a b : Int) : symCmp ⟨1, ⟨#[83]⟩, a⟩ ⟨1, ⟨#[83]⟩, b⟩ = icmp a b := by
  exact symCmp_n (by simp [icmp]) (scmp_lin.refl _)

theorem wakes_list : [s2, s1, s2].foldl (put symCmp) [] = [s1, s2] := by
  have e21 : symCmp s2 s1 = 1 := (cmp_same 2 1).trans (by decide)
  have e22 : symCmp s2 s2 = 0 := (cmp_same 2 2).trans (by decide)
  have e12 : symCmp s1 s2 = -1 := (cmp_same 1 2).trans (by decide)
  simp [put, has, ins, pos, e21, e22, e12]

def three : Obj := .cells #[.int .i64 1, .string ⟨#[83]⟩, .int .i64 2, .int .i64 1, .string ⟨#[83]⟩, .int .i64 1, .int .i64 1, .string ⟨#[83]⟩, .int .i64 2] 27

theorem three_slice (w : World) : S.SliceOf (w.alloc three) (.slice (some ⟨w.heap.size, 0, none⟩) 3 3) [s2, s1, s2] := by
  refine ⟨_, 3, rfl, .inr ⟨w.heap.size, 0, rfl, fun i x h => ?_⟩⟩
  have hb := heap_alloc_new w three
  generalize w.alloc three = W at hb ⊢
  match i, h with
  | 0, h => cases h; simp [World.cell?, hb, three, s2]
  | 1, h => cases h; simp [World.cell?, hb, three, s1]
  | 2, h => cases h; simp [World.cell?, hb, three, s2]
  | n + 3, h => simp at h

set_option maxHeartbeats 800000 in
theorem wakes_T (w : World) : Calls Try.prog 4 #[] w fun e w' => e = .returned (.bool true) ∧ Below w.heap.size w w' := by
  have hB0 : Below w.heap.size w (w.alloc three) := (Below.refl _ w).alloc (Nat.le_refl _) _
  have h3 := three_slice w
  go_enter Try.func4, Try.ntmps4
  go_wp2_with fail
  refine (S.new_T _ _ _ h3 (by simp)).mono ?_
  rintro e w1 ⟨s, rfl, -, hS, hB1⟩
  rw [wakes_list] at hS
  have hC1 := hB0.trans (hB1.mono hB0.size)
  have HS := Lib.hid hS
  clear hS
  go_wp2_with fail
  refine (S.set_at_T w1 s [s1, s2] 0 0 s1 HS.out (by simp) rfl rfl).mono ?_
  rintro e w2 ⟨rfl, hB2⟩
  have hC2 := hC1.trans (hB2.mono hC1.size)
  have HS2 := Lib.hid (HS.out.below hB2)
  have hB3 : Below w2.heap.size w2 (w2.alloc (.cells #[.int .i64 s1.k, .string s1.t, .int .i64 s1.n] 27)) := (Below.refl _ w2).alloc (Nat.le_refl _) _
  have hn : s1.n = 1 := rfl
  go_wp2_with fail
  refine (S.len_T _ s _ (HS2.out.below hB3)).mono ?_
  rintro e w3 ⟨rfl, rfl⟩
  go_wp2_with fail
  go_ret
  exact ⟨by simp, hC2.trans (hB3.mono hC2.size)⟩
end Go.Proofs.Ytcpgjekkcpfpaaa
