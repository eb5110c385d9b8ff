/- A list as a sequence: what the statements' Of hands a loop. Conditions: the list lies in memory; at most 100000 symbols. -/
import Derived.Test.YtbpibbcehfkeeaaPartSS
import Derived.Test.YtbpibbcehfkeeaaRangeW
import Derived.Test.YtbpibbcehfkeeaaRiseSE
import Derived.OwnWalkIn
import Derived.TacticsInMore
import Derived.Sort.LoopGhostIn
import Derived.RangeFuncLeaves
namespace Go.Proofs.Ytbpibbcehfkeeaa.S
open Go Go.RowKit

attribute [local go_sem] Oper.semAt_some

/-- Cells that lie below n₀, but for block s, stay. -/
def KpO (n₀ s : Nat) (W W' : World) : Prop := ∀ (b : Nat) (c : Array Value) (T : TypeId) (f : Nat × Nat), b < n₀ → b ≠ s → W.heap[b]? = some (.cells c T f) → W'.heap[b]? = some (.cells c T f)

theorem KpO.refl (n₀ s : Nat) (W : World) : KpO n₀ s W W := fun _ _ _ _ _ _ h => h
theorem KpO.trans {n₀ s : Nat} {A B C : World} (h : KpO n₀ s A B) (k : KpO n₀ s B C) : KpO n₀ s A C := fun b c T f hn hs hb => k b c T f hn hs (h b c T f hn hs hb)
theorem KpO.of_but {n₀ s : Nat} {W W' : World} (h : But s W W') : KpO n₀ s W W' := fun b _ _ _ _ hs hb => (h.block b (lt_of_block hb) hs).trans hb
theorem KpO.putObj {n₀ s : Nat} (W : World) (l : Nat) (o o' : Obj) (h : W.heap[l]? = some o) (hc : o.isCells = false) : KpO n₀ s W (W.putObj l o') := by
  intro b c T f _ _ hb
  refine (World.putObj_heap_other ?_).trans hb
  rintro rfl
  rw [h] at hb
  cases hb
  cases hc

theorem of_T (w : World) (v : Value) (xs : List SymV) (hv : SliceOf w v xs) :
    Calls Try.prog 42 #[v] w fun e w' => e = .returned (.func (.func 67) #[] #[.pointer (some ⟨w.heap.size, 0, none⟩)]) ∧ w' = w.alloc (.cells #[v] 29) := by
  obtain ⟨a, cap, rfl, -⟩ := hv
  have hmf : ∀ (fn : Fn) (first cap : Array Value) (w : World), (Instr.makeFunc fn first cap).run Try.prog w = .ok (.func fn first cap) w := fun _ _ _ _ => rfl
  go_enter Try.func42, Try.ntmps42
  go_wp2_with fail
  go_ret
  exact ⟨rfl, rfl⟩

set_option maxRecDepth 100000 in
set_option maxHeartbeats 1000000 in
theorem of_stops (n n₀ s : Nat) (Bn : Nat) (v : Value) (xs : List SymV) (w : World) (hB : w.heap[Bn]? = some (.cells #[v] 29 (0, 0))) (hv : SliceOf w v xs) (hs : xs.length ≤ 100000) (hn : w.heap.size ≤ n₀) (hs1 : Bn ≠ s) (hs2 : ∀ b o z, w.cell? ⟨b, o, none⟩ = some (.int .i64 z) → b ≠ s) :
    SeqW Fence.wide n Try.prog 67 #[.pointer (some ⟨Bn, 0, none⟩)] (fun x : SymV => #[.agg #[.int .i64 x.k, .string x.t, .int .i64 x.n]]) (KpO n₀ s) (fun ys => ys = xs) (fun pre => pre <+: xs) w := by
  intro l J Jx W hW _ _ hY h0
  obtain ⟨a, cap, rfl, hc⟩ := hv
  have facts : ∀ W', KpO n₀ s W W' → W'.cell? ⟨Bn, 0, none⟩ = some (.slice a xs.length cap) := by
    intro W' hk
    exact cell_of_one (hk Bn _ _ _ (Nat.lt_of_lt_of_le (lt_of_block hB) hn) hs1 ((hW.block Bn (lt_of_block hB)).trans hB))
  refine callsIn_wide.2 ((callsIn_wide (n := 3)).1 ?_)
  refine callsIn_of_wp Try.func67 rfl trivial ?_ rfl
  simp only [Try.ntmps67, List.size_toArray, List.length_cons, List.length_nil, Nat.reduceAdd, Nat.reduceSub, Array.replicate_succ, Array.replicate_zero, List.push_toArray, List.append_toArray, List.nil_append, List.cons_append]
  gi_wp2_with fail
  gi_loopg [3] xs.length (fun m i wr => ∃ j : Nat, i = .int .i64 j ∧ j ≤ xs.length ∧ Hid (m = xs.length - j) ∧ Hid (J (xs.take j) wr) ∧ KpO n₀ s W wr)
  case atStart => exact ⟨0, rfl, by omega, Lib.hid rfl, Lib.hid (by simpa using h0), KpO.refl _ _ _⟩
  case round =>
    obtain ⟨j, rfl, hj, Hm, HJ, hK⟩ := hrel
    have hbc := facts wr hK
    by_cases hlt : j < xs.length
    · rcases hc with rfl | ⟨b, off, rfl, hel⟩
      · simp at hlt
      · obtain ⟨x, hx⟩ : ∃ x, xs[j]? = some x := ⟨xs[j], by simp [hlt]⟩
        have hm0 := hel j x hx
        have hbl : b < w.heap.size := World.block_lt_of_cell? w _ hm0.1
        have hbk : wr.heap[b]? = w.heap[b]? := by
          obtain ⟨o, ho, hoc⟩ := cells_of_cell hm0.1
          cases o with
          | cells c T f => exact (hK b c T f (by omega) (hs2 b _ _ hm0.1) ((hW.block b hbl).trans ho)).trans ho.symm
          | _ => cases hoc
        have hm : wr.cell? ⟨b, off + j * 3, none⟩ = some (.int .i64 x.k) ∧ wr.cell? ⟨b, off + j * 3 + 1, none⟩ = some (.string x.t) ∧ wr.cell? ⟨b, off + j * 3 + 2, none⟩ = some (.int .i64 x.n) := ⟨(World.cell?_of_block hbk).trans hm0.1, (World.cell?_of_block hbk).trans hm0.2.1, (World.cell?_of_block hbk).trans hm0.2.2⟩
        have htk : xs.take (j + 1) = xs.take j ++ [x] := by rw [List.take_add_one, hx]; rfl
        have Htk := Lib.hid htk
        obtain ⟨fn, tmps, assign, body, hyd, hR⟩ := E.YieldAt.anyDepth rfl 2 (hY (xs.take j) x wr HJ.out (by rw [← htk]; exact List.take_prefix _ _))
        clear hm0 hel hx htk
        gi_wp2_with fail
        refine hR.mono ?_
        rintro e W2 ⟨-, (⟨rfl, hJ2, hK2⟩ | ⟨rfl, hx2⟩)⟩
        · gi_wp2_with fail
          gi_roundg (xs.length - (j + 1))
          case measure => rw [Hm.out]; omega
          case rel => exact ⟨j + 1, by go_num, by omega, Lib.hid rfl, Lib.hid (by rw [Htk.out]; exact hJ2), hK.trans hK2⟩
        · gi_wp2_with fail
          refine bodyPost_ret (results_none rfl _ _ _) rfl ?_
          exact ⟨⟨_, rfl⟩, .inr ⟨xs.take (j + 1), List.take_prefix _ _, by rw [Htk.out]; exact hx2⟩⟩
    · obtain rfl : j = xs.length := by omega
      rw [List.take_length] at HJ
      gi_wp2_with fail
      go_end0
      exact ⟨⟨_, rfl⟩, .inl ⟨_, rfl, HJ.out⟩⟩

end Go.Proofs.Ytbpibbcehfkeeaa.S
