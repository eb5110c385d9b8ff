/- 'wakes', the document's example, answers true. Conditions: none. -/
import Derived.Test.YtpkkdmhmnmjebaaNewSS
namespace Go.Proofs.Ytpkkdmhmnmjebaa
open Go Go.RowKit

def s1 : SymV := ⟨1, ⟨#[83]⟩, 1⟩
def s2 : SymV := ⟨1, ⟨#[83]⟩, 2⟩

theorem cmp_same (a b : Int) : symCmp ⟨1, ⟨#[83]⟩, a⟩ ⟨1, ⟨#[83]⟩, b⟩ = icmp a b := by
  exact symCmp_n (by simp [icmp]) (scmp_lin.refl _)

theorem wakes_list : [s2, s1, s2].foldl (put symCmp) [] = [s1, s2] := by
  have e21 : symCmp s2 s1 = 1 := (cmp_same 2 1).trans (by decide)
  have e22 : symCmp s2 s2 = 0 := (cmp_same 2 2).trans (by decide)
  have e12 : symCmp s1 s2 = -1 := (cmp_same 1 2).trans (by decide)
  simp [put, has, ins, pos, e21, e22, e12]

def three : Obj := .cells #[.int .i64 1, .string ⟨#[83]⟩, .int .i64 2, .int .i64 1, .string ⟨#[83]⟩, .int .i64 1, .int .i64 1, .string ⟨#[83]⟩, .int .i64 2] 26

theorem three_slice (w : World) : S.SliceOf (w.alloc three) (.slice (some ⟨w.heap.size, 0, none⟩) 3 3) [s2, s1, s2] := by
  refine ⟨_, 3, rfl, .inr ⟨w.heap.size, 0, rfl, fun i x h => ?_⟩⟩
  have hb := heap_alloc_new w three
  generalize w.alloc three = W at hb ⊢
  match i, h with
  | 0, h => cases h; simp [World.cell?, hb, three, s2]
  | 1, h => cases h; simp [World.cell?, hb, three, s1]
  | 2, h => cases h; simp [World.cell?, hb, three, s2]
  | n + 3, h => simp at h

set_option maxHeartbeats 800000 in
theorem wakes_T (w : World) : Calls Try.prog 10 #[] w fun e w' => e = .returned (.bool true) ∧ Below w.heap.size w w' := by
  have hB0 : Below w.heap.size w (w.alloc three) := (Below.refl _ w).alloc (Nat.le_refl _) _
  have h3 := three_slice w
  go_enter Try.func10, Try.ntmps10
  go_wp2_with fail
  refine (S.new_T _ _ _ h3 (by simp)).mono ?_
  rintro e w1 ⟨s, rfl, -, hS, hB1⟩
  rw [wakes_list] at hS
  have hC1 := hB0.trans (hB1.mono hB0.size)
  have HS := Lib.hid hS
  clear hS
  go_wp2_with fail
  refine (S.set_at_T w1 s [s1, s2] 0 0 s1 HS.out (by simp) rfl rfl).mono ?_
  rintro e w2 ⟨rfl, hB2⟩
  have hC2 := hC1.trans (hB2.mono hC1.size)
  have HS2 := Lib.hid (HS.out.below hB2)
  have hB3 : Below w2.heap.size w2 (w2.alloc (.cells #[.int .i64 s1.k, .string s1.t, .int .i64 s1.n] 26)) := (Below.refl _ w2).alloc (Nat.le_refl _) _
  have hn : s1.n = 1 := rfl
  go_wp2_with fail
  refine (S.len_T _ s _ (HS2.out.below hB3)).mono ?_
  rintro e w3 ⟨rfl, rfl⟩
  go_wp2_with fail
  go_ret
  exact ⟨by simp, hC2.trans (hB3.mono hC2.size)⟩
end Go.Proofs.Ytpkkdmhmnmjebaa
