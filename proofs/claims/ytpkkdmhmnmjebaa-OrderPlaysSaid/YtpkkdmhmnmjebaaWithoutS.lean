/- What the statement's without answers: the list without a symbol. Conditions: the list lies in memory; at most 100000 symbols. -/
import Derived.Test.YtpkkdmhmnmjebaaRefPutS
import Derived.Test.YtpkkdmhmnmjebaaJoinsKS
import Derived.Deep.Onto
namespace Go.Proofs.Ytpkkdmhmnmjebaa.S
open Go Go.RowKit

abbrev sans (xs : List SymV) (x : SymV) : List SymV := xs.filter (fun y => !same y x)

theorem sans_eq {xs : List SymV} {x : SymV} (hs : Sorted symCmp xs) : sans xs x = drop symCmp xs x := by
  refine sorted_ext symCmp_lin symCmp_exact (List.Pairwise.sublist List.filter_sublist hs) (sorted_drop _ _ hs) fun a => ?_
  rw [mem_drop symCmp_lin symCmp_exact hs, List.mem_filter]
  have : (!same a x) = true ↔ a ≠ x := by
    rw [Bool.not_eq_true', ← Bool.not_eq_true, same_iff]
  rw [this]

set_option maxRecDepth 100000 in
set_option maxHeartbeats 1000000 in
theorem without_T (w : World) (v : Value) (xs : List SymV) (x : SymV) (hv : SliceOf w v xs) (hs : xs.length ≤ 100000) :
    Calls Try.prog 16 #[v, .agg #[.int .i64 x.k, .string x.t, .int .i64 x.n]] w fun e w' => ∃ v', e = .returned v' ∧ Made w.heap.size w' v' (sans xs x) ∧ Below w.heap.size w w' := by
  have hB0 : Below w.heap.size w (w.alloc (.cells #[.int .i64 x.k, .string x.t, .int .i64 x.n] 26)) := (Below.refl _ w).alloc (Nat.le_refl _) _
  have hx0 := mem_new w x
  have hsz : w.heap.size < (w.alloc (.cells #[.int .i64 x.k, .string x.t, .int .i64 x.n] 26)).heap.size := by simp
  have hse := sym_equal'
  have hsg := sym_guard
  obtain ⟨a, cap, rfl, hc⟩ := hv
  go_enter Try.func16, Try.ntmps16
  go_wp2_with fail
  generalize (w.alloc (.cells #[.int .i64 x.k, .string x.t, .int .i64 x.n] 26)) = W0 at hB0 hx0 hsz ⊢
  go_loopg [5, 6] xs.length (fun m vr i wr => ∃ j : Nat, i = .int .i64 j ∧ j ≤ xs.length ∧ Hid (m = xs.length - j) ∧ Hid (Made W0.heap.size wr vr (sans (xs.take j) x)) ∧ Below W0.heap.size W0 wr)
  case atStart => exact ⟨0, rfl, by omega, Lib.hid rfl, Lib.hid (World.ownsRow_nil _ _ _ _), Below.refl _ _⟩
  case round =>
    obtain ⟨j, rfl, hj, Hm, HM, hB⟩ := hrel
    obtain ⟨a1, cap1, rfl, hcp, hln⟩ := row_cap HM.out
    by_cases hlt : j < xs.length
    · rcases hc with rfl | ⟨b, off, rfl, hel⟩
      · simp at hlt
      · obtain ⟨y, hy⟩ : ∃ y, xs[j]? = some y := ⟨xs[j], by simp [hlt]⟩
        have hbl := World.block_lt_of_cell? w _ (hel j y hy).1
        have hyc := (hel.below (hB0.trans (hB.mono hB0.size)) hbl) j y hy
        have hxc := mem_below hB hsz hx0
        have Hyc := Lib.hid hyc
        have htk : xs.take (j + 1) = xs.take j ++ [y] := by rw [List.take_add_one, hy]; rfl
        have hfl : (sans (xs.take j) x).length ≤ j := by
          have := List.length_filter_le (fun y => !same y x) (xs.take j)
          rw [List.length_take] at this
          unfold sans; omega
        have Htk := Lib.hid htk
        clear hy hel htk
        by_cases hyx : y = x
        · have hs1 : same ⟨y.k, y.t, y.n⟩ ⟨x.k, x.t, x.n⟩ = true := same_iff.2 (by rw [hyx])
          have hs2 : same y x = true := hs1
          have Hs2 := Lib.hid hs2
          clear hyx hs2
          go_wp2_with fail
          go_quiet (fail)
          go_wp2_with fail
          go_roundg (xs.length - (j + 1))
          case measure => rw [Hm.out]; omega
          case rel =>
            refine ⟨j + 1, by go_num, by omega, Lib.hid rfl, Lib.hid ?_, hB.trans (below_drewN _ _ _)⟩
            have e : sans (xs.take (j + 1)) x = sans (xs.take j) x := by unfold sans; rw [Htk.out, List.filter_append]; simp [Hs2.out]
            rw [e]
            exact row_below (below_drewN _ _ _) HM.out
        · have hs1 : same ⟨y.k, y.t, y.n⟩ ⟨x.k, x.t, x.n⟩ = false := by
            have : ¬ same y x = true := fun h => hyx (same_iff.1 h)
            simpa using this
          have hs2 : same y x = false := hs1
          have Hs2 := Lib.hid hs2
          clear hyx hs2
          go_wp2_with fail
          go_quiet (fail)
          have hM1 : Made W0.heap.size (wr.drewN nq) (.slice a1 (sans (xs.take j) x).length cap1) (sans (xs.take j) x) := row_below (below_drewN _ _ _) HM.out
          have hC1 : Below W0.heap.size W0 (wr.drewN nq) := hB.trans (below_drewN _ _ _)
          have hy1 : (wr.drewN nq).cell? ⟨b, off + j * 3, none⟩ = some (.int .i64 y.k) ∧ (wr.drewN nq).cell? ⟨b, off + j * 3 + 1, none⟩ = some (.string y.t) ∧ (wr.drewN nq).cell? ⟨b, off + j * 3 + 2, none⟩ = some (.int .i64 y.n) := Hyc.out
          go_wp2_with (at_builtin; refine append_syms rfl _ _ rfl W0.heap.size (.slice a1 (sans (xs.take j) x).length cap1) (sans (xs.take j) x) rfl (World.ownsRow.alloc hM1 _) _ _ _ [y] rfl rfl (Or.inr ⟨_, rfl, World.news_of_block (cs := #[.int .i64 y.k, .string y.t, .int .i64 y.n]) (t := 26) (fr := (0, 0)) (heap_alloc_new (wr.drewN nq) _)⟩) (by simp; omega) (Nat.le_trans hC1.size (by simp)) ?_; intro v2 w6 hM2 hg2; have hC6 := hC1.trans (((Below.refl _ (wr.drewN nq)).alloc hC1.size _).trans (made_below (World.ownsRow.alloc hM1 _) hg2 (Nat.le_trans hC1.size (by simp)))))
          go_roundg (xs.length - (j + 1))
          case measure => rw [Hm.out]; omega
          case rel =>
            refine ⟨j + 1, by go_num, by omega, Lib.hid rfl, Lib.hid ?_, hC6⟩
            have e : sans (xs.take (j + 1)) x = sans (xs.take j) x ++ [y] := by unfold sans; rw [Htk.out, List.filter_append]; simp [Hs2.out]
            rw [e]
            exact hM2
    · obtain rfl : j = xs.length := by omega
      rw [List.take_length] at *
      go_wp2_with fail
      go_ret
      exact ⟨_, rfl, World.ownsRow.mono HM.out hB0.size, hB0.trans (hB.mono hB0.size)⟩

end Go.Proofs.Ytpkkdmhmnmjebaa.S
