/- What From of a set and of a map hand a loop. Conditions: the set lies in memory; at most 800000 members. -/
import Derived.Test.YtbpibbcehfkeeaaFromGE
import Derived.Test.YtbpibbcehfkeeaaPairsEE
namespace Go.Proofs.Ytbpibbcehfkeeaa.E
open Go Go.RowKit Go.Shelf

attribute [local go_sem] Oper.semAt_some

theorem grownBy_belowF {w w' : World} (h : Below w.heap.size w w') : w.grownBy w' none := ⟨h.os, h.tape, h.output, h.size, fun k hk _ => h.block k hk⟩

set_option maxHeartbeats 1000000 in
theorem from_stops (n n₀ : Nat) (Bn Bx s : Nat) (L : List EntV) (x : EntV) (w : World) (hB : w.heap[Bn]? = some (.cells #[.pointer (some ⟨s, 0, none⟩)] 90 (0, 0))) (hX : w.heap[Bx]? = some (.cells #[.int .i64 x.key.k, .string x.key.t, .int .i64 x.key.n, .int .i64 x.v] 93 (0, 0))) (hS : SetAt w s L) (hs : L.length ≤ 800000) (hn : w.heap.size ≤ n₀) :
    SeqW Fence.wide n Try.prog 103 #[.pointer (some ⟨Bn, 0, none⟩), .pointer (some ⟨Bx, 0, none⟩)] (fun x : EntV => #[.agg #[.int .i64 x.key.k, .string x.key.t, .int .i64 x.key.n, .int .i64 x.v]]) (Kp n₀) (fun xs => xs = L.drop (pos entCmp L x)) (fun pre => pre <+: L.drop (pos entCmp L x)) w := by
  intro l J Jx W hW hJa _ hY h0
  have c1 := cell_of_one ((hW.block Bn (lt_of_block hB)).trans hB)
  have c3 : W.cell? ⟨Bx, 0, none⟩ = some (.int .i64 x.key.k) ∧ W.cell? ⟨Bx, 1, none⟩ = some (.string x.key.t) ∧ W.cell? ⟨Bx, 2, none⟩ = some (.int .i64 x.key.n) ∧ W.cell? ⟨Bx, 3, none⟩ = some (.int .i64 x.v) := by simp [World.cell?, (hW.block Bx (lt_of_block hX)).trans hX]
  obtain ⟨t, p, h1, h2, rfl, h4⟩ := hS
  have c2 := cell_of_one ((hW.block s (lt_of_block h1)).trans h1)
  have hK : Kp n₀ w W := fun b _ _ hb => (hW.block b (lt_of_block hb)).trans hb
  have hfi := callsIn_wide (n := n - 1).2 (find_T t W p x (hK.lt hn h2) h4 (by unfold Tr.size; omega))
  clear h1 hB hW hX
  refine callsIn_of_wp Try.func103 rfl trivial ?_ rfl
  simp only [Try.ntmps103, List.size_toArray, List.length_cons, List.length_nil, Nat.reduceAdd, Nat.reduceSub, Array.replicate_succ, Array.replicate_zero, List.push_toArray, List.append_toArray, List.nil_append, List.cons_append]
  gi_wp2_with fail
  refine ⟨trivial, fun h => (by cases h), ?_⟩
  refine hfi.mono ?_
  rintro e w' ⟨rfl, hBf⟩
  have hKf : Kp n₀ w w' := fun b _ _ hb => (hBf.block b (by have := (hK b _ (Nat.lt_of_lt_of_le (lt_of_block hb) hn) hb); exact lt_of_block this)).trans (hK b _ (Nat.lt_of_lt_of_le (lt_of_block hb) hn) hb)
  gi_wp2_with fail
  refine ⟨trivial, fun h => (by cases h), ?_⟩
  have h0' := hJa [] W w' none h0 (grownBy_belowF hBf) (fun r e => by cases e)
  refine (rise_in n₀ w hn l (fun q => q <+: t.list.drop (pos entCmp t.list x)) (fun a b h k => h.trans k) J Jx (fun m pre x W hj hl => YieldAt.anyDepth rfl m (YieldAt.mono (hY pre x W hj hl) fun _ _ q => q.2)) t (n - 1) p (pos entCmp t.list x) _ [] w' h2 hKf rfl (by unfold Tr.size; omega) h0' (by simp)).mono ?_
  rintro e W1 (⟨rfl, hJ1, _⟩ | ⟨rfl, q, hq, hx⟩)
  · gi_wp2_with fail
    go_end0
    exact ⟨⟨_, rfl⟩, .inl ⟨_, rfl, by simpa using hJ1⟩⟩
  · gi_wp2_with fail
    go_end0
    exact ⟨⟨_, rfl⟩, .inr ⟨q, by simpa using hq, by simpa using hx⟩⟩

set_option maxRecDepth 100000 in
set_option maxHeartbeats 1000000 in
theorem pairs_from_stops (n n₀ : Nat) (B1 B2 B3 s : Nat) (L : List EntV) (y : EntV) (w : World) (h1 : w.heap[B1]? = some (.cells #[.func (.func 103) #[] #[.pointer (some ⟨B2, 0, none⟩), .pointer (some ⟨B3, 0, none⟩)]] 105 (0, 0)))
    (h2 : w.heap[B2]? = some (.cells #[.pointer (some ⟨s, 0, none⟩)] 90 (0, 0))) (h3 : w.heap[B3]? = some (.cells #[.int .i64 y.key.k, .string y.key.t, .int .i64 y.key.n, .int .i64 y.v] 93 (0, 0))) (hS : SetAt w s L) (hs : L.length ≤ 800000) (hn : w.heap.size ≤ n₀) :
    SeqW Fence.wide n Try.prog 81 #[.pointer (some ⟨B1, 0, none⟩)] (fun x : EntV => #[.agg #[.int .i64 x.key.k, .string x.key.t, .int .i64 x.key.n], .int .i64 x.v]) (KpY n₀) (fun xs => xs = L.drop (pos entCmp L y)) (fun pre => pre <+: L.drop (pos entCmp L y)) w := by
  intro l J Jx W hW hJ hJx hY h0
  have c1 := cell_of_one ((hW.block B1 (lt_of_block h1)).trans h1)
  have hBy : Below W.heap.size W (W.alloc (.cells #[.func (.yield l) #[] #[]] 37)) := (Below.refl _ W).alloc (Nat.le_refl _) _
  have c1y := (hBy.cell (p := ⟨B1, 0, none⟩) (World.block_lt_of_cell? W _ c1)).trans c1
  have hyb := heap_alloc_new W (.cells #[.func (.yield l) #[] #[]] 37)
  have h2W := (hW.block B2 (lt_of_block h2)).trans h2
  have hSW := hS.below hW
  refine callsIn_wide.2 ((callsIn_wide (n := 3)).1 ?_)
  refine callsIn_of_wp_marks Try.func81 rfl trivial ?_ rfl
  simp only [Try.ntmps81, List.size_toArray, List.length_cons, List.length_nil, Nat.reduceAdd, Nat.reduceSub, Array.replicate_succ, Array.replicate_zero, List.push_toArray, List.append_toArray, List.nil_append, List.cons_append]
  have hsy : (W.alloc (.cells #[.func (.yield l) #[] #[]] 37)).heap.size = W.heap.size + 1 := by simp
  have h0y := hJ.alloc (.cells #[.func (.yield l) #[] #[]] 37) h0
  have h2y := (hBy.block B2 (lt_of_block h2W)).trans h2W
  have hSy := hSW.below hBy
  gi_wp2_with fail
  generalize (W.alloc (.cells #[.func (.yield l) #[] #[]] 37)) = Wy at hBy c1y hyb hsy h0y h2y hSy ⊢
  refine wpIn_rangeW rfl (by omega) (gf := 103) (lb := #[.pointer (some ⟨B2, 0, none⟩), .pointer (some ⟨B3, 0, none⟩)]) rfl trivial (enters_of Try.func103 (by kernel_rfl) rfl)
    (from_stops 2 n₀ B2 B3 s L y w h2 h3 hS hs hn) (fun h k => h.trans k) (fun W l o o' h hc => Kp.putObj W l o o' h hc) (hW.trans (hBy.mono hW.size)) (fun _ => rfl)
    (fun pre V => J pre V ∧ V.heap[W.heap.size]? = some (.cells #[.func (.yield l) #[] #[]] 37 (0, 0)))
    (fun c pre V => c = .ret ∧ Jx pre V)
    (OwnFrom.and (own_le hJ (by omega)) (fun _ A B row h hg hr => (hg.block _ (lt_of_block h) (fun e => by obtain ⟨-, o, ho, hc⟩ := hr _ e.symm; rw [h] at ho; cases ho; cases hc)).trans h))
    (fun c s A B row h hg hr => ⟨h.1, own_le hJx (by omega) s A B row h.2 hg hr⟩)
    ⟨h0y, hyb⟩
    (fun x a' V => ∃ Bx, V.heap[Bx]? = some (.cells #[.int .i64 x.key.k, .string x.key.t, .int .i64 x.key.n, .int .i64 x.v] 93 (0, 0)) ∧ a' = { tmps := #[.func (.yield l) #[] #[], .pointer (some ⟨B1, 0, none⟩), .pointer (some ⟨W.heap.size, 0, none⟩), .pointer (some ⟨Bx, 0, none⟩), .func (.func 103) #[] #[.pointer (some ⟨B2, 0, none⟩), .pointer (some ⟨B3, 0, none⟩)], .agg #[.int .i64 x.key.k, .string x.key.t, .int .i64 x.key.n, .int .i64 x.v], undef, undef, undef, undef, undef, undef, undef], defers := [] })
    (fun x a' s A B row hs hg hr => by
      obtain ⟨Bx, h2, h3⟩ := hs
      refine ⟨Bx, (hg.block Bx (lt_of_block h2) (fun e => ?_)).trans h2, h3⟩
      obtain ⟨-, o, ho, hc⟩ := hr Bx e.symm
      rw [h2] at ho; cases ho; cases hc)
    ?assign ?body ?done ?stop
  case assign =>
    rintro l2 pre x V K ⟨hj, hy⟩ hK
    gi_wp2
    exact hK _ _ ((KeepsOthers.alloc _ _).from _) (kp_alloc _ _ _) ⟨hJ.alloc _ hj, (Below.heap_alloc _ _ _ (by have := lt_of_block hy; omega)).trans hy⟩ ⟨V.heap.size, heap_alloc_new V _, rfl⟩
  case body =>
    rintro l2 pre x a' V hl ⟨r0, hr0⟩ ⟨hj, hy⟩ ⟨Bx, bX, rfl⟩ hlt
    have hm : V.cell? ⟨Bx, 0, none⟩ = some (.int .i64 x.key.k) ∧ V.cell? ⟨Bx, 1, none⟩ = some (.string x.key.t) ∧ V.cell? ⟨Bx, 2, none⟩ = some (.int .i64 x.key.n) ∧ V.cell? ⟨Bx, 3, none⟩ = some (.int .i64 x.v) := by simp [World.cell?, bX]
    have hyc := cell_of_one hy
    obtain ⟨fn, tmps, assign, body, hyd, hR⟩ := YieldAt.anyDepth rfl 0 (hY pre x V hj hlt)
    gi_wp2_with fail
    refine RoundIn.mono (F := Fence.wide.inRound l2) hR ?_
    rintro e W2 ⟨hk, (⟨rfl, hJ2, hK2⟩ | ⟨rfl, hx2⟩)⟩
    · gi_wp2_with fail
      exact ⟨keeps_le hk (by omega), hK2.1, hJ2, hK2.2 _ _ _ (.inl rfl) hy⟩
    · gi_wp2_with fail
      exact ⟨keeps_le hk (by omega), rfl, hx2⟩
  case done =>
    rintro D xs V hD rfl ⟨hj, hy⟩ hK
    gi_wp2_with fail
    refine ⟨by simp, .inl ⟨_, _, rfl, run_takeDeferred hK, ?_⟩⟩
    refine ⟨_, results_none rfl _ _ _, ⟨_, rfl⟩, .inl ⟨_, rfl, hJ.putObj _ hj (by omega) hK rfl⟩⟩
  case stop =>
    rintro D c pre V hD hpre ⟨rfl, hj⟩ hK
    gi_wp2_with fail
    refine ⟨by simp, .inl ⟨_, _, rfl, run_takeDeferred hK, ?_⟩⟩
    refine ⟨_, results_none rfl _ _ _, ⟨_, rfl⟩, .inr ⟨pre, hpre, hJx.putObj _ hj (by omega) hK rfl⟩⟩

set_option maxRecDepth 100000 in
theorem mapfrom2_T (w : World) (m s : Nat) (L : List EntV) (k : SymV) (h : MapAt w m s L) :
    Calls Try.prog 53 #[.pointer (some ⟨m, 0, none⟩), .agg #[.int .i64 k.k, .string k.t, .int .i64 k.n]] w fun e w' => ∃ B1 B2 B3, e = .returned (.func (.func 81) #[] #[.pointer (some ⟨B1, 0, none⟩)]) ∧
      w'.heap[B1]? = some (.cells #[.func (.func 103) #[] #[.pointer (some ⟨B2, 0, none⟩), .pointer (some ⟨B3, 0, none⟩)]] 105 (0, 0)) ∧ w'.heap[B2]? = some (.cells #[.pointer (some ⟨s, 0, none⟩)] 90 (0, 0)) ∧ w'.heap[B3]? = some (.cells #[.int .i64 (⟨k, 0⟩ : EntV).key.k, .string (⟨k, 0⟩ : EntV).key.t, .int .i64 (⟨k, 0⟩ : EntV).key.n, .int .i64 (⟨k, 0⟩ : EntV).v] 93 (0, 0)) ∧ Below w.heap.size w w' := by
  have hB0 : Below w.heap.size w (w.alloc (.cells #[.int .i64 k.k, .string k.t, .int .i64 k.n] 26)) := (Below.refl _ w).alloc (Nat.le_refl _) _
  have h0 := h.below hB0
  have hc := cell_of_one h0.1
  have hx := heap_alloc_new w (.cells #[.int .i64 k.k, .string k.t, .int .i64 k.n] 26)
  go_enter Try.func53, Try.ntmps53
  go_wp2_with fail
  generalize (w.alloc (.cells #[.int .i64 k.k, .string k.t, .int .i64 k.n] 26)) = W0 at hB0 h0 hc hx ⊢
  have hk : ∀ W, Below W0.heap.size W0 W → (W.cell? ⟨w.heap.size, 0, none⟩ = some (.int .i64 k.k) ∧ W.cell? ⟨w.heap.size, 1, none⟩ = some (.string k.t) ∧ W.cell? ⟨w.heap.size, 2, none⟩ = some (.int .i64 k.n)) ∧ W.cell? ⟨m, 0, none⟩ = some (.pointer (some ⟨s, 0, none⟩)) := by
    intro W hb
    have e1 := (hb.block _ (lt_of_block hx)).trans hx
    have e2 := cell_of_one (h0.below hb).1
    refine ⟨by simp [World.cell?, e1], e2⟩
  obtain ⟨⟨k0, k1, k2⟩, -⟩ := hk _ (Below.refl _ _)
  have hfr := from_T W0.drew (some ⟨s, 0, none⟩) ⟨k, 0⟩
  dsimp only at hfr
  have hn1 : ∀ (V : World) (a b : Obj), ((V.alloc a).alloc b).heap[V.heap.size]? = some a := fun V a b => (Below.heap_alloc _ _ _ (by simp)).trans (heap_alloc_new V a)
  have hn2 : ∀ (V : World) (a b : Obj), ((V.alloc a).alloc b).heap[V.heap.size + 1]? = some b := fun V a b => by have := heap_alloc_new (V.alloc a) b; simpa using this
  go_region_held3 (fun W => (W.cell? ⟨w.heap.size, 0, none⟩ = some (.int .i64 k.k) ∧ W.cell? ⟨w.heap.size, 1, none⟩ = some (.string k.t) ∧ W.cell? ⟨w.heap.size, 2, none⟩ = some (.int .i64 k.n)) ∧ W.cell? ⟨m, 0, none⟩ = some (.pointer (some ⟨s, 0, none⟩)))
    (first | go_keep | assumption)
    (first
      | ((with_reducible refine hfr.mono ?_); rintro e w1 ⟨rfl, hw1⟩; (have hC1 : Below W0.heap.size W0 w1 := by rw [hw1]; exact ((Below.refl W0.heap.size W0).drew.alloc (Nat.le_refl _) _).alloc (by simp) _); (have hA1 := (congrArg (fun V : World => V.heap[W0.drew.heap.size]?) hw1).trans (hn1 _ _ _)); (have hA2 := (congrArg (fun V : World => V.heap[W0.drew.heap.size + 1]?) hw1).trans (hn2 _ _ _)); clear hw1; have hA1' := Lib.hid hA1; have hA2' := Lib.hid hA2; clear hA1 hA2; have hh1 := hk _ hC1)
      | ((with_reducible refine (pairs_T _ _ _).mono ?_); rintro e w2 ⟨rfl, hw2⟩; (have hC2 : Below W0.heap.size W0 w2 := by rw [hw2]; exact hC1.alloc hC1.size _); (have hA3 := (congrArg (fun V : World => V.heap[w1.heap.size]?) hw2).trans (heap_alloc_new _ _)); (have hB12 : Below w1.heap.size w1 w2 := by rw [hw2]; exact (Below.refl _ w1).alloc (Nat.le_refl _) _); clear hw2; have hA3' := Lib.hid hA3; clear hA3; have hh2 := hk _ hC2)
      | fail "no arm")
  go_wp2_with fail
  go_ret
  refine ⟨_, _, _, rfl, hA3'.out, (hB12.block _ (lt_of_block hA1'.out)).trans hA1'.out, ?_, hB0.trans (hC2.mono hB0.size)⟩
  exact (hB12.block _ (lt_of_block hA2'.out)).trans hA2'.out

end Go.Proofs.Ytbpibbcehfkeeaa.E
