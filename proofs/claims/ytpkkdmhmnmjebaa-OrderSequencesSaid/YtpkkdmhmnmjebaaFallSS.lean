/- What Back and From of a set hand a loop. Conditions: the set lies in memory; at most 800000 members. -/
import Derived.Test.YtpkkdmhmnmjebaaAllSS
import Derived.Test.YtpkkdmhmnmjebaaSameSS
import Derived.Test.YtpkkdmhmnmjebaaPartSS
namespace Go.Proofs.Ytpkkdmhmnmjebaa.S
open Go Go.RowKit Go.Shelf

attribute [local go_sem] Oper.semAt_some

theorem undef_bool (b : Bool) : undef ≠ Value.bool b := fun h => by cases h

set_option maxHeartbeats 2000000 in
theorem fall_in (n₀ : Nat) (w0 : World) (hn : w0.heap.size ≤ n₀) (l N : Nat) (J Jx : List SymV → World → Prop) (hY : Rounds n₀ l N J Jx) (T : Tr SymV) :
    ∀ (n : Nat) (p : Option Addr) (pre : List SymV) (W : World), LT w0 T p → Kp n₀ w0 W → J pre W → pre.length + T.list.length ≤ N →
      CallsIn Fence.wide n Try.prog 63 #[.pointer p, .func (.yield l) #[] #[]] W (Rose n₀ pre T.list.reverse J Jx W) := by
  induction T with
  | nil =>
    intro n p pre W ht0 hK hJ hN
    obtain rfl : p = none := ht0
    refine callsIn_of_wp Try.func63 rfl trivial ?_ rfl
    simp only [Try.ntmps63, List.size_toArray, List.length_cons, List.length_nil, Nat.reduceAdd, Nat.reduceSub, Array.replicate_succ, Array.replicate_zero, List.push_toArray, List.append_toArray, List.nil_append, List.cons_append]
    gi_wp2_with fail
    refine ⟨trivial, ?_⟩
    gi_wp2_with fail
    all_goals (try (exfalso; have hu := undef_bool; clear hY hK hJ hN; simp_all; done))
    all_goals refine ⟨fun f h => (by cases h), ?_⟩
    all_goals gi_wp2_with fail
    all_goals refine ⟨trivial, ?_⟩
    all_goals gi_wp2_with fail
    all_goals go_ret
    all_goals exact .inl ⟨rfl, by simpa [Tr.list] using hJ, Kp.refl _ _⟩
  | node tl v tr ihl ihr =>
    intro n p pre W ht0 hK hJ hN
    obtain ⟨b, pl, pr, rfl, hb0, hl0, hr0⟩ := ht0
    have hbn : b < n₀ := Nat.lt_of_lt_of_le (lt_of_block hb0) hn
    have hb := hK b _ hbn hb0
    clear hb0
    obtain ⟨c0, c1, c2, -⟩ := node_cells hb
    have Hb := Lib.hid hb
    clear hb
    refine callsIn_of_wp Try.func63 rfl trivial ?_ rfl
    simp only [Try.ntmps63, List.size_toArray, List.length_cons, List.length_nil, Nat.reduceAdd, Nat.reduceSub, Array.replicate_succ, Array.replicate_zero, List.push_toArray, List.append_toArray, List.nil_append, List.cons_append]
    have e0 : (tl.node v tr).list.reverse = tr.list.reverse ++ v :: tl.list.reverse := by
      show (tl.list ++ v :: tr.list).reverse = _
      simp
    have hN0 : pre.length + tr.list.length < N := by have := size_node tl tr v; unfold Tr.size at this; omega
    have hN1 : pre.length + tr.list.length ≤ N := by omega
    have hN2 : (pre ++ tr.list.reverse).length < N := by simp; omega
    have hN3 : (pre ++ tr.list.reverse ++ [v]).length + tl.list.length ≤ N := by have := size_node tl tr v; unfold Tr.size at this; simp; omega
    have E0 := Lib.hid e0
    clear e0 hN hN0
    gi_wp2_with fail
    refine ⟨trivial, fun h => (by cases h), ?_⟩
    refine (ihr (n - 1) pr pre W hr0 hK hJ hN1).mono ?_
    rintro e W1 (⟨rfl, hJ1, hk1⟩ | ⟨rfl, q, hq, hx⟩)
    · obtain ⟨d0, -, -, -⟩ := node_cells (hk1 b _ hbn Hb.out)
      obtain ⟨fn, tmps, assign, body, hy, hR⟩ := hY (n - 1) _ v W1 hJ1 hN2
      gi_wp2_with fail
      refine ⟨fun h => (by cases h), ?_⟩
      refine hR.mono ?_
      rintro e W2 (⟨rfl, hJ2, hk2⟩ | ⟨rfl, hx⟩)
      · have hk12 := hk1.trans hk2
        obtain ⟨-, e1, -, -⟩ := node_cells (hk12 b _ hbn Hb.out)
        gi_wp2_with fail
        refine ⟨trivial, fun h => (by cases h), ?_⟩
        refine (ihl (n - 1) pl _ W2 hl0 (hK.trans hk12) hJ2 hN3).mono ?_
        rintro e W3 (⟨rfl, hJ3, hk3⟩ | ⟨rfl, q, hq, hx⟩)
        · gi_wp2_with fail
          go_ret
          exact .inl ⟨rfl, by rw [E0.out]; simpa [List.append_assoc] using hJ3, hk12.trans hk3⟩
        · gi_wp2_with fail
          go_ret
          obtain ⟨r, hr'⟩ := hq
          exact .inr ⟨rfl, tr.list.reverse ++ v :: q, ⟨r, by rw [E0.out, ← hr']; simp⟩, by simpa [List.append_assoc] using hx⟩
      · gi_wp2_with fail
        refine ⟨trivial, ?_⟩
        gi_wp2_with fail
        go_ret
        exact .inr ⟨rfl, tr.list.reverse ++ [v], ⟨tl.list.reverse, by rw [E0.out]; simp⟩, by simpa [List.append_assoc] using hx⟩
    · gi_wp2_with fail
      all_goals (try (exfalso; have hu := undef_bool; clear hY hK hJ hx hq; simp_all; done))
      all_goals refine ⟨fun f h => (by cases h), ?_⟩
      all_goals gi_wp2_with fail
      all_goals refine ⟨trivial, ?_⟩
      all_goals gi_wp2_with fail
      all_goals go_ret
      all_goals obtain ⟨r, hr'⟩ := hq
      all_goals exact .inr ⟨rfl, q, ⟨r ++ v :: tl.list.reverse, by rw [E0.out, ← hr']; simp⟩, hx⟩

theorem back_T (w : World) (p : Option Addr) :
    Calls Try.prog 32 #[.pointer p] w fun e w' => e = .returned (.func (.func 62) #[] #[.pointer (some ⟨w.heap.size, 0, none⟩)]) ∧ w' = w.alloc (.cells #[.pointer p] 23) := by
  have hmf : ∀ (fn : Fn) (first cap : Array Value) (w : World), (Instr.makeFunc fn first cap).run Try.prog w = .ok (.func fn first cap) w := fun _ _ _ _ => rfl
  go_enter Try.func32, Try.ntmps32
  go_wp2_with fail
  go_ret
  exact ⟨rfl, rfl⟩

set_option maxHeartbeats 1000000 in
theorem back_stops (n n₀ : Nat) (Bn s : Nat) (L : List SymV) (w : World) (hB : w.heap[Bn]? = some (.cells #[.pointer (some ⟨s, 0, none⟩)] 23 (0, 0))) (hS : SetAt w s L) (hn : w.heap.size ≤ n₀) :
    SeqStopsK Fence.wide n Try.prog 62 #[.pointer (some ⟨Bn, 0, none⟩)] (fun x : SymV => #[.agg #[.int .i64 x.k, .string x.t, .int .i64 x.n]]) (Kp n₀) (fun xs => xs = L.reverse) (fun pre => pre <+: L.reverse) L.length w := by
  intro l J Jx W hW _ _ hY h0
  have c1 := cell_of_one ((hW.block Bn (lt_of_block hB)).trans hB)
  obtain ⟨t, p, h1, h2, rfl, -⟩ := hS
  have c2 := cell_of_one ((hW.block s (lt_of_block h1)).trans h1)
  have hK : Kp n₀ w W := fun b _ _ hb => (hW.block b (lt_of_block hb)).trans hb
  clear h1 hB hW
  refine callsIn_of_wp Try.func62 rfl trivial ?_ rfl
  simp only [Try.ntmps62, List.size_toArray, List.length_cons, List.length_nil, Nat.reduceAdd, Nat.reduceSub, Array.replicate_succ, Array.replicate_zero, List.push_toArray, List.append_toArray, List.nil_append, List.cons_append]
  gi_wp2_with fail
  refine ⟨trivial, fun h => (by cases h), ?_⟩
  refine (fall_in n₀ w hn l t.list.length J Jx (fun m pre x W hj hl => YieldAt.anyDepth rfl m (hY pre x W hj hl)) t (n - 1) p [] W h2 hK h0 (by simp)).mono ?_
  rintro e W1 (⟨rfl, hJ1, _⟩ | ⟨rfl, q, hq, hx⟩)
  · gi_wp2_with fail
    go_end0
    exact ⟨⟨_, rfl⟩, .inl ⟨_, rfl, by simpa using hJ1⟩⟩
  · gi_wp2_with fail
    go_end0
    exact ⟨⟨_, rfl⟩, .inr ⟨q, by simpa using hq, by simpa using hx⟩⟩

theorem from_T (w : World) (p : Option Addr) (x : SymV) :
    Calls Try.prog 35 #[.pointer p, .agg #[.int .i64 x.k, .string x.t, .int .i64 x.n]] w fun e w' => e = .returned (.func (.func 66) #[] #[.pointer (some ⟨w.heap.size, 0, none⟩), .pointer (some ⟨w.heap.size + 1, 0, none⟩)]) ∧ w' = (w.alloc (.cells #[.pointer p] 23)).alloc (.cells #[.int .i64 x.k, .string x.t, .int .i64 x.n] 26) := by
  have hmf : ∀ (fn : Fn) (first cap : Array Value) (w : World), (Instr.makeFunc fn first cap).run Try.prog w = .ok (.func fn first cap) w := fun _ _ _ _ => rfl
  go_enter Try.func35, Try.ntmps35
  go_wp2_with fail
  go_ret
  exact ⟨rfl, rfl⟩

set_option maxHeartbeats 1000000 in
theorem from_stops (n n₀ : Nat) (Bn Bx s : Nat) (L : List SymV) (x : SymV) (w : World) (hB : w.heap[Bn]? = some (.cells #[.pointer (some ⟨s, 0, none⟩)] 23 (0, 0))) (hX : w.heap[Bx]? = some (.cells #[.int .i64 x.k, .string x.t, .int .i64 x.n] 26 (0, 0))) (hS : SetAt w s L) (hs : L.length ≤ 800000) (hn : w.heap.size ≤ n₀) :
    SeqStopsK Fence.wide n Try.prog 66 #[.pointer (some ⟨Bn, 0, none⟩), .pointer (some ⟨Bx, 0, none⟩)] (fun x : SymV => #[.agg #[.int .i64 x.k, .string x.t, .int .i64 x.n]]) (Kp n₀) (fun xs => xs = L.drop (pos symCmp L x)) (fun pre => pre <+: L.drop (pos symCmp L x)) (L.drop (pos symCmp L x)).length w := by
  intro l J Jx W hW hJa _ hY h0
  have c1 := cell_of_one ((hW.block Bn (lt_of_block hB)).trans hB)
  have c3 : W.cell? ⟨Bx, 0, none⟩ = some (.int .i64 x.k) ∧ W.cell? ⟨Bx, 1, none⟩ = some (.string x.t) ∧ W.cell? ⟨Bx, 2, none⟩ = some (.int .i64 x.n) := by simp [World.cell?, (hW.block Bx (lt_of_block hX)).trans hX]
  obtain ⟨t, p, h1, h2, rfl, h4⟩ := hS
  have c2 := cell_of_one ((hW.block s (lt_of_block h1)).trans h1)
  have hK : Kp n₀ w W := fun b _ _ hb => (hW.block b (lt_of_block hb)).trans hb
  have hfi := callsIn_wide (n := n - 1).2 (find_T t W p x (hK.lt hn h2) h4 (by unfold Tr.size; omega))
  clear h1 hB hW hX
  refine callsIn_of_wp Try.func66 rfl trivial ?_ rfl
  simp only [Try.ntmps66, List.size_toArray, List.length_cons, List.length_nil, Nat.reduceAdd, Nat.reduceSub, Array.replicate_succ, Array.replicate_zero, List.push_toArray, List.append_toArray, List.nil_append, List.cons_append]
  gi_wp2_with fail
  refine ⟨trivial, fun h => (by cases h), ?_⟩
  refine hfi.mono ?_
  rintro e w' ⟨rfl, hBf⟩
  have hKf : Kp n₀ w w' := fun b _ _ hb => (hBf.block b (by have := (hK b _ (Nat.lt_of_lt_of_le (lt_of_block hb) hn) hb); exact lt_of_block this)).trans (hK b _ (Nat.lt_of_lt_of_le (lt_of_block hb) hn) hb)
  gi_wp2_with fail
  refine ⟨trivial, fun h => (by cases h), ?_⟩
  have h0' := hJa [] W w' none h0 (grownBy_below hBf) (fun r e => by cases e)
  refine (rise_in n₀ w hn l (t.list.drop (pos symCmp t.list x)).length J Jx (fun m pre x W hj hl => YieldAt.anyDepth rfl m (hY pre x W hj hl)) t (n - 1) p (pos symCmp t.list x) _ [] w' h2 hKf rfl (by unfold Tr.size; omega) h0' (by simp)).mono ?_
  rintro e W1 (⟨rfl, hJ1, _⟩ | ⟨rfl, q, hq, hx⟩)
  · gi_wp2_with fail
    go_end0
    exact ⟨⟨_, rfl⟩, .inl ⟨_, rfl, by simpa using hJ1⟩⟩
  · gi_wp2_with fail
    go_end0
    exact ⟨⟨_, rfl⟩, .inr ⟨q, by simpa using hq, by simpa using hx⟩⟩

end Go.Proofs.Ytpkkdmhmnmjebaa.S
