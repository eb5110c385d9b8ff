/- The statements' plain map: where it lies; what find answers. Conditions: the lists lie in memory, the keys in order; at most 100000 keys. -/
import Derived.Test.YtbpibbcehfkeeaaRefAS
import Derived.Test.YtbpibbcehfkeeaaListsIn
namespace Go.Proofs.Ytbpibbcehfkeeaa.S
open Go Go.RowKit

/-- The plain map in block p has the keys ks (in vk) and the values in vv. -/
def PlainAt (w : World) (p : Nat) (vk vv : Value) : Prop := w.heap[p]? = some (.cells #[vk, vv] 32 (0, 0))

theorem plain_cells {w : World} {p : Nat} {vk vv : Value} (h : PlainAt w p vk vv) : w.cell? ⟨p, 0, none⟩ = some vk ∧ w.cell? ⟨p, 1, none⟩ = some vv ∧ w.frozen? ⟨p, 0, none⟩ = false ∧ w.frozen? ⟨p, 1, none⟩ = false := by
  unfold PlainAt at h
  simp [World.cell?, World.frozen?, h]

set_option maxRecDepth 100000 in
set_option maxHeartbeats 1000000 in
theorem plainfind_T (w : World) (p : Nat) (vk vv : Value) (xs : List SymV) (x : SymV) (hp : PlainAt w p vk vv) (hv : SliceOf w vk xs) (hso : Sorted symCmp xs) (hs : xs.length ≤ 100000) :
    Calls Try.prog 12 #[.pointer (some ⟨p, 0, none⟩), .agg #[.int .i64 x.k, .string x.t, .int .i64 x.n]] w fun e w' => e = .returned (.int .i64 (if has symCmp xs x then (pos symCmp xs x : Int) else -1)) ∧ Below w.heap.size w w' := by
  have hB0 : Below w.heap.size w (w.alloc (.cells #[.int .i64 x.k, .string x.t, .int .i64 x.n] 26)) := (Below.refl _ w).alloc (Nat.le_refl _) _
  have hx0 := mem_new w x
  have hsz : w.heap.size < (w.alloc (.cells #[.int .i64 x.k, .string x.t, .int .i64 x.n] 26)).heap.size := by simp
  have hp0 : PlainAt (w.alloc (.cells #[.int .i64 x.k, .string x.t, .int .i64 x.n] 26)) p vk vv := (hB0.block _ (lt_of_block hp)).trans hp
  have hse := sym_equal'
  have hsg := sym_guard
  obtain ⟨a, cap, rfl, hc⟩ := hv
  have hpl := lt_of_block hp0
  generalize hr : (if has symCmp xs x then (pos symCmp xs x : Int) else -1) = r
  have Hr := Lib.hid hr
  have Hso := Lib.hid hso
  clear hr hso
  go_enter Try.func12, Try.ntmps12
  go_wp2_with fail
  generalize (w.alloc (.cells #[.int .i64 x.k, .string x.t, .int .i64 x.n] 26)) = W0 at hB0 hx0 hsz hp0 hpl ⊢
  go_loopg [5] xs.length (fun m i wr => ∃ j : Nat, i = .int .i64 j ∧ j ≤ xs.length ∧ Hid (m = xs.length - j ∧ has symCmp (xs.take j) x = false) ∧ Below W0.heap.size W0 wr)
  case atStart => exact ⟨0, rfl, by omega, Lib.hid ⟨rfl, rfl⟩, Below.refl _ _⟩
  case round =>
    obtain ⟨j, rfl, hj, Hm, hB⟩ := hrel
    obtain ⟨p0, p1, -, -⟩ := plain_cells (show PlainAt wr p _ _ from (hB.block _ hpl).trans hp0)
    by_cases hlt : j < xs.length
    · rcases hc with rfl | ⟨b, off, rfl, hel⟩
      · simp at hlt
      · obtain ⟨y, hy⟩ : ∃ y, xs[j]? = some y := ⟨xs[j], by simp [hlt]⟩
        have hbl := World.block_lt_of_cell? w _ (hel j y hy).1
        have hyc := (hel.below (hB0.trans (hB.mono hB0.size)) hbl) j y hy
        have hxc := mem_below hB hsz hx0
        have Hy := Lib.hid hy
        clear hy hel
        by_cases hyx : y = x
        · have hs1 : same ⟨y.k, y.t, y.n⟩ ⟨x.k, x.t, x.n⟩ = true := same_iff.2 (by rw [hyx])
          have Hyx := Lib.hid hyx
          clear hyx
          go_wp2_with fail
          go_quiet (fail)
          go_wp2_with fail
          go_ret
          have hpg := pos_get symCmp_lin Hso.out (Hyx.out ▸ Hy.out)
          have hjr : (j : Int) = r := by rw [← Hr.out, hpg.2, hpg.1]; rfl
          exact ⟨by rw [← hjr]; rfl, hB0.trans ((hB.trans (below_drewN _ _ _)).mono hB0.size)⟩
        · have hs1 : same ⟨y.k, y.t, y.n⟩ ⟨x.k, x.t, x.n⟩ = false := by
            have : ¬ same y x = true := fun h => hyx (same_iff.1 h)
            simpa using this
          have Hyx := Lib.hid hyx
          clear hyx
          go_wp2_with fail
          go_quiet (fail)
          go_wp2_with fail
          go_roundg (xs.length - (j + 1))
          case measure => rw [Hm.out.1]; omega
          case rel =>
            refine ⟨j + 1, by go_num, by omega, Lib.hid ⟨rfl, ?_⟩, hB.trans (below_drewN _ _ _)⟩
            have h0 := Hm.out.2
            rw [← Bool.not_eq_true, has_iff symCmp_exact] at h0 ⊢
            rw [List.take_add_one, Hy.out]
            intro h1
            rcases List.mem_append.1 h1 with h1 | h1
            · exact h0 h1
            · have h2 : x = y := by simpa using h1
              exact Hyx.out h2.symm
    · obtain rfl : j = xs.length := by omega
      go_wp2_with fail
      go_ret
      have hjr : (-1 : Int) = r := by have := Hm.out.2; rw [List.take_length] at this; rw [← Hr.out, this]; rfl
      exact ⟨by rw [← hjr]; rfl, hB0.trans (hB.mono hB0.size)⟩

end Go.Proofs.Ytbpibbcehfkeeaa.S
