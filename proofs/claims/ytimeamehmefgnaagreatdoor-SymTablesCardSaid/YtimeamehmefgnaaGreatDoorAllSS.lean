/- What All of a set hands a loop. Conditions: the set lies in memory; at most 800000 members. -/
import Derived.Test.YtimeamehmefgnaaGreatDoorRiseSS
namespace Go.Proofs.YtimeamehmefgnaaGreatDoor.S
open Go Go.RowKit Go.Shelf

attribute [local go_sem] Oper.semAt_some

theorem all_T (w : World) (p : Option Addr) :
    Calls Tryz.prog 30 #[.pointer p] w fun e w' => e = .returned (.func (.func 46) #[] #[.pointer (some ⟨w.heap.size, 0, none⟩)]) ∧ w' = w.alloc (.cells #[.pointer p] 55) := by
  have hmf : ∀ (fn : Fn) (first cap : Array Value) (w : World), (Instr.makeFunc fn first cap).run Tryz.prog w = .ok (.func fn first cap) w := fun _ _ _ _ => rfl
  go_enter Tryz.func30, Tryz.ntmps30
  go_wp2_with fail
  go_ret
  exact ⟨rfl, rfl⟩

set_option maxHeartbeats 1000000 in
theorem all_stops (n n₀ : Nat) (Bn s : Nat) (L : List SymV) (w : World) (hB : w.heap[Bn]? = some (.cells #[.pointer (some ⟨s, 0, none⟩)] 55 (0, 0))) (hS : SetAt w s L) (hs : L.length ≤ 800000) (hn : w.heap.size ≤ n₀) :
    SeqStopsK Fence.wide n Tryz.prog 46 #[.pointer (some ⟨Bn, 0, none⟩)] (fun x : SymV => #[.agg #[.int .i64 x.k, .string x.t, .int .i64 x.n]]) (Kp n₀) (fun xs => xs = L) (fun pre => pre <+: L) L.length w := by
  intro l J Jx W hW _ _ hY h0
  have c1 := cell_of_one ((hW.block Bn (lt_of_block hB)).trans hB)
  obtain ⟨t, p, h1, h2, rfl, -⟩ := hS
  have c2 := cell_of_one ((hW.block s (lt_of_block h1)).trans h1)
  have hK : Kp n₀ w W := fun b _ _ hb => (hW.block b (lt_of_block hb)).trans hb
  clear h1 hB hW
  refine callsIn_of_wp Tryz.func46 rfl trivial ?_ rfl
  simp only [Tryz.ntmps46, List.size_toArray, List.length_cons, List.length_nil, Nat.reduceAdd, Nat.reduceSub, Array.replicate_succ, Array.replicate_zero, List.push_toArray, List.append_toArray, List.nil_append, List.cons_append]
  gi_wp2_with fail
  refine ⟨trivial, fun h => (by cases h), ?_⟩
  refine (rise_in n₀ w hn l t.list.length J Jx (fun m pre x W hj hl => YieldAt.anyDepth rfl m (hY pre x W hj hl)) t (n - 1) p 0 0 [] W h2 hK rfl hs h0 (by simp)).mono ?_
  rintro e W1 (⟨rfl, hJ1, _⟩ | ⟨rfl, q, hq, hx⟩)
  · gi_wp2_with fail
    go_end0
    exact ⟨⟨_, rfl⟩, .inl ⟨_, rfl, by simpa using hJ1⟩⟩
  · gi_wp2_with fail
    go_end0
    exact ⟨⟨_, rfl⟩, .inr ⟨q, by simpa using hq, by simpa using hx⟩⟩

end Go.Proofs.YtimeamehmefgnaaGreatDoor.S
