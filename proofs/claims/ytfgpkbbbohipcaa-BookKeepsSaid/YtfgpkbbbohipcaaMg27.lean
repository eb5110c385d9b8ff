/- What All of a set hands a loop. Conditions: the set lies in memory; at most 800000 members.
What a map's All hands a loop. Conditions: the map lies in memory; at most 700000 keys. -/
import Derived.Test.YtfgpkbbbohipcaaRiseSM
import Derived.Test.YtfgpkbbbohipcaaRangeW
import Derived.Test.YtfgpkbbbohipcaaMapOpsM
namespace Go.Proofs.Ytfgpkbbbohipcaa.M
open Go Go.RowKit Go.Shelf

attribute [local go_sem] Oper.semAt_some

theorem all_T (w : World) (p : Option Addr) :
    Calls Try.prog 90 #[.pointer p] w fun e w' => e = .returned (.func (.func 109) #[] #[.pointer (some ⟨w.heap.size, 0, none⟩)]) ∧ w' = w.alloc (.cells #[.pointer p] 107) := by
  have hmf : ∀ (fn : Fn) (first cap : Array Value) (w : World), (Instr.makeFunc fn first cap).run Try.prog w = .ok (.func fn first cap) w := fun _ _ _ _ => rfl
  go_enter Try.func90, Try.ntmps90
  go_wp2_with fail
  go_ret
  exact ⟨rfl, rfl⟩

set_option maxHeartbeats 1000000 in
theorem all_stops (n n₀ : Nat) (Bn s : Nat) (L : List EntM) (w : World) (hB : w.heap[Bn]? = some (.cells #[.pointer (some ⟨s, 0, none⟩)] 107 (0, 0))) (hS : SetAt w s L) (hs : L.length ≤ 800000) (hn : w.heap.size ≤ n₀) :
    SeqW Fence.wide n Try.prog 109 #[.pointer (some ⟨Bn, 0, none⟩)] (fun x : EntM => #[.agg #[.int .i64 x.key.id.k, .string x.key.id.t, .int .i64 x.key.id.n, .int .i64 x.key.attr.k, .string x.key.attr.t, .int .i64 x.key.attr.n, .int .i64 x.key.val.k, .string x.key.val.t, .int .i64 x.key.val.n, .bool x.key.acc, .bool x.key.goal, .int .i64 x.key.tag, .int .i64 x.v]]) (Kp n₀) (fun xs => xs = L) (fun pre => pre <+: L) w := by
  intro l J Jx W hW _ _ hY h0
  have c1 := cell_of_one ((hW.block Bn (lt_of_block hB)).trans hB)
  obtain ⟨t, p, h1, h2, rfl, -⟩ := hS
  have c2 := cell_of_one ((hW.block s (lt_of_block h1)).trans h1)
  have hK : Kp n₀ w W := fun b _ _ hb => (hW.block b (lt_of_block hb)).trans hb
  clear h1 hB hW
  refine callsIn_of_wp Try.func109 rfl trivial ?_ rfl
  simp only [Try.ntmps109, List.size_toArray, List.length_cons, List.length_nil, Nat.reduceAdd, Nat.reduceSub, Array.replicate_succ, Array.replicate_zero, List.push_toArray, List.append_toArray, List.nil_append, List.cons_append]
  gi_wp2_with fail
  refine ⟨trivial, fun h => (by cases h), ?_⟩
  refine (rise_in n₀ w hn l (fun q => q <+: t.list) (fun a b h k => h.trans k) J Jx (fun m pre x W hj hl => YieldAt.anyDepth rfl m (YieldAt.mono (hY pre x W hj hl) fun _ _ q => q.2)) t (n - 1) p 0 0 [] W h2 hK rfl hs h0 (by simp)).mono ?_
  rintro e W1 (⟨rfl, hJ1, _⟩ | ⟨rfl, q, hq, hx⟩)
  · gi_wp2_with fail
    go_end0
    exact ⟨⟨_, rfl⟩, .inl ⟨_, rfl, by simpa using hJ1⟩⟩
  · gi_wp2_with fail
    go_end0
    exact ⟨⟨_, rfl⟩, .inr ⟨q, by simpa using hq, by simpa using hx⟩⟩

end Go.Proofs.Ytfgpkbbbohipcaa.M

namespace Go.Proofs.Ytfgpkbbbohipcaa.M
open Go Go.RowKit Go.Shelf

attribute [local go_sem] Oper.semAt_some

theorem pairs_T (w : World) (gf : Nat) (lb : Array Value) :
    Calls Try.prog 89 #[.func (.func gf) #[] lb] w fun e w' => e = .returned (.func (.func 108) #[] #[.pointer (some ⟨w.heap.size, 0, none⟩)]) ∧ w' = w.alloc (.cells #[.func (.func gf) #[] lb] 159) := by
  have hmf : ∀ (fn : Fn) (first cap : Array Value) (w : World), (Instr.makeFunc fn first cap).run Try.prog w = .ok (.func fn first cap) w := fun _ _ _ _ => rfl
  go_enter Try.func89, Try.ntmps89
  go_wp2_with fail
  go_ret
  exact ⟨rfl, rfl⟩

theorem mapall_T (w : World) (m s : Nat) (L : List EntM) (h : MapAt w m s L) :
    Calls Try.prog 63 #[.pointer (some ⟨m, 0, none⟩)] w fun e w' => e = .returned (.func (.func 108) #[] #[.pointer (some ⟨w.heap.size + 1, 0, none⟩)]) ∧
      w'.heap[w.heap.size + 1]? = some (.cells #[.func (.func 109) #[] #[.pointer (some ⟨w.heap.size, 0, none⟩)]] 159 (0, 0)) ∧ w'.heap[w.heap.size]? = some (.cells #[.pointer (some ⟨s, 0, none⟩)] 107 (0, 0)) ∧ Below w.heap.size w w' := by
  have hc := cell_of_one h.1
  go_enter Try.func63, Try.ntmps63
  go_wp2_with fail
  refine (all_T w (some ⟨s, 0, none⟩)).mono ?_
  rintro e w1 ⟨rfl, rfl⟩
  have hb2 := heap_alloc_new w (.cells #[.pointer (some ⟨s, 0, none⟩)] 107)
  have hB1 : Below w.heap.size w (w.alloc (.cells #[.pointer (some ⟨s, 0, none⟩)] 107)) := (Below.refl _ w).alloc (Nat.le_refl _) _
  have hsz : (w.alloc (.cells #[.pointer (some ⟨s, 0, none⟩)] 107)).heap.size = w.heap.size + 1 := by simp
  go_wp2_with fail
  generalize (w.alloc (.cells #[.pointer (some ⟨s, 0, none⟩)] 107)) = w1 at hb2 hB1 hsz ⊢
  refine (pairs_T w1 _ _).mono ?_
  rintro e w2 ⟨rfl, rfl⟩
  have hBp : Below w1.heap.size w1 (w1.alloc (.cells #[.func (.func 109) #[] #[.pointer (some ⟨w.heap.size, 0, none⟩)]] 159)) := (Below.refl _ w1).alloc (Nat.le_refl _) _
  have hbp := heap_alloc_new w1 (.cells #[.func (.func 109) #[] #[.pointer (some ⟨w.heap.size, 0, none⟩)]] 159)
  go_wp2_with fail
  go_ret
  rw [hsz] at hbp
  exact ⟨rfl, hbp, (hBp.block _ (by omega)).trans hb2, hB1.trans (hBp.mono hB1.size)⟩

/-- What a loop's body leaves as it lies: the trees' nodes, and the boxes of what iterators call back. -/
def KpY (n₀ : Nat) (W W' : World) : Prop :=
  Kp n₀ W W' ∧ ∀ (b : Nat) (c : Array Value) (T : TypeId), (T = 70 ∨ T = 117) → W.heap[b]? = some (.cells c T (0, 0)) → W'.heap[b]? = some (.cells c T (0, 0))

theorem KpY.trans {n₀ : Nat} {A B C : World} (h : KpY n₀ A B) (k : KpY n₀ B C) : KpY n₀ A C := ⟨h.1.trans k.1, fun b c T hT hb => k.2 b c T hT (h.2 b c T hT hb)⟩
theorem KpY.putObj {n₀ : Nat} (W : World) (l : Nat) (o o' : Obj) (h : W.heap[l]? = some o) (hc : o.isCells = false) : KpY n₀ W (W.putObj l o') := by
  refine ⟨Kp.putObj W l o o' h hc, fun b c T _ hb => (World.putObj_heap_other ?_).trans hb⟩
  rintro rfl
  rw [h] at hb
  cases hb
  cases hc

theorem kp_alloc (n₀ : Nat) (W : World) (o : Obj) : Kp n₀ W (W.alloc o) := fun b _ _ hb => (Below.heap_alloc _ _ _ (by have := lt_of_block hb; omega)).trans hb

set_option maxRecDepth 100000 in
set_option maxHeartbeats 1000000 in
theorem pairs_stops (n n₀ : Nat) (B1 B2 s : Nat) (L : List EntM) (w : World) (h1 : w.heap[B1]? = some (.cells #[.func (.func 109) #[] #[.pointer (some ⟨B2, 0, none⟩)]] 159 (0, 0)))
    (h2 : w.heap[B2]? = some (.cells #[.pointer (some ⟨s, 0, none⟩)] 107 (0, 0))) (hS : SetAt w s L) (hs : L.length ≤ 800000) (hn : w.heap.size ≤ n₀) :
    SeqW Fence.wide n Try.prog 108 #[.pointer (some ⟨B1, 0, none⟩)] (fun x : EntM => #[.agg #[.int .i64 x.key.id.k, .string x.key.id.t, .int .i64 x.key.id.n, .int .i64 x.key.attr.k, .string x.key.attr.t, .int .i64 x.key.attr.n, .int .i64 x.key.val.k, .string x.key.val.t, .int .i64 x.key.val.n, .bool x.key.acc, .bool x.key.goal, .int .i64 x.key.tag], .int .i64 x.v]) (KpY n₀) (fun xs => xs = L) (fun pre => pre <+: L) w := by
  intro l J Jx W hW hJ hJx hY h0
  have c1 := cell_of_one ((hW.block B1 (lt_of_block h1)).trans h1)
  have hBy : Below W.heap.size W (W.alloc (.cells #[.func (.yield l) #[] #[]] 70)) := (Below.refl _ W).alloc (Nat.le_refl _) _
  have c1y := (hBy.cell (p := ⟨B1, 0, none⟩) (World.block_lt_of_cell? W _ c1)).trans c1
  have hyb := heap_alloc_new W (.cells #[.func (.yield l) #[] #[]] 70)
  have h2W := (hW.block B2 (lt_of_block h2)).trans h2
  have hSW := hS.below hW
  refine callsIn_wide.2 ((callsIn_wide (n := 3)).1 ?_)
  refine callsIn_of_wp_marks Try.func108 rfl trivial ?_ rfl
  simp only [Try.ntmps108, List.size_toArray, List.length_cons, List.length_nil, Nat.reduceAdd, Nat.reduceSub, Array.replicate_succ, Array.replicate_zero, List.push_toArray, List.append_toArray, List.nil_append, List.cons_append]
  have hsy : (W.alloc (.cells #[.func (.yield l) #[] #[]] 70)).heap.size = W.heap.size + 1 := by simp
  have h0y := hJ.alloc (.cells #[.func (.yield l) #[] #[]] 70) h0
  have h2y := (hBy.block B2 (lt_of_block h2W)).trans h2W
  have hSy := hSW.below hBy
  gi_wp2_with fail
  generalize (W.alloc (.cells #[.func (.yield l) #[] #[]] 70)) = Wy at hBy c1y hyb hsy h0y h2y hSy ⊢
  refine wpIn_rangeW rfl (by omega) (gf := 109) (lb := #[.pointer (some ⟨B2, 0, none⟩)]) rfl trivial (enters_of Try.func109 (by kernel_rfl) rfl)
    (all_stops 2 n₀ B2 s L w h2 hS hs hn) (fun h k => h.trans k) (fun W l o o' h hc => Kp.putObj W l o o' h hc) (hW.trans (hBy.mono hW.size)) (fun _ => rfl)
    (fun pre V => J pre V ∧ V.heap[W.heap.size]? = some (.cells #[.func (.yield l) #[] #[]] 70 (0, 0)))
    (fun c pre V => c = .ret ∧ Jx pre V)
    (OwnFrom.and (own_le hJ (by omega)) (fun _ A B row h hg hr => (hg.block _ (lt_of_block h) (fun e => by obtain ⟨-, o, ho, hc⟩ := hr _ e.symm; rw [h] at ho; cases ho; cases hc)).trans h))
    (fun c s A B row h hg hr => ⟨h.1, own_le hJx (by omega) s A B row h.2 hg hr⟩)
    ⟨h0y, hyb⟩
    (fun x a' V => ∃ Bx, V.heap[Bx]? = some (.cells #[.int .i64 x.key.id.k, .string x.key.id.t, .int .i64 x.key.id.n, .int .i64 x.key.attr.k, .string x.key.attr.t, .int .i64 x.key.attr.n, .int .i64 x.key.val.k, .string x.key.val.t, .int .i64 x.key.val.n, .bool x.key.acc, .bool x.key.goal, .int .i64 x.key.tag, .int .i64 x.v] 110 (0, 0)) ∧ a' = { tmps := #[.func (.yield l) #[] #[], .pointer (some ⟨B1, 0, none⟩), .pointer (some ⟨W.heap.size, 0, none⟩), .pointer (some ⟨Bx, 0, none⟩), .func (.func 109) #[] #[.pointer (some ⟨B2, 0, none⟩)], .agg #[.int .i64 x.key.id.k, .string x.key.id.t, .int .i64 x.key.id.n, .int .i64 x.key.attr.k, .string x.key.attr.t, .int .i64 x.key.attr.n, .int .i64 x.key.val.k, .string x.key.val.t, .int .i64 x.key.val.n, .bool x.key.acc, .bool x.key.goal, .int .i64 x.key.tag, .int .i64 x.v], undef, undef, undef, undef, undef, undef, undef], defers := [] })
    (fun x a' s A B row hs hg hr => by
      obtain ⟨Bx, h2, h3⟩ := hs
      refine ⟨Bx, (hg.block Bx (lt_of_block h2) (fun e => ?_)).trans h2, h3⟩
      obtain ⟨-, o, ho, hc⟩ := hr Bx e.symm
      rw [h2] at ho; cases ho; cases hc)
    ?assign ?body ?done ?stop
  case assign =>
    rintro l2 pre x V K ⟨hj, hy⟩ hK
    gi_wp2
    exact hK _ _ ((KeepsOthers.alloc _ _).from _) (kp_alloc _ _ _) ⟨hJ.alloc _ hj, (Below.heap_alloc _ _ _ (by have := lt_of_block hy; omega)).trans hy⟩ ⟨V.heap.size, heap_alloc_new V _, rfl⟩
  case body =>
    rintro l2 pre x a' V hl ⟨r0, hr0⟩ ⟨hj, hy⟩ ⟨Bx, bX, rfl⟩ hlt
    have hm : V.cell? ⟨Bx, 0, none⟩ = some (.int .i64 x.key.id.k) ∧ V.cell? ⟨Bx, 1, none⟩ = some (.string x.key.id.t) ∧ V.cell? ⟨Bx, 2, none⟩ = some (.int .i64 x.key.id.n) ∧ V.cell? ⟨Bx, 3, none⟩ = some (.int .i64 x.key.attr.k) ∧ V.cell? ⟨Bx, 4, none⟩ = some (.string x.key.attr.t) ∧ V.cell? ⟨Bx, 5, none⟩ = some (.int .i64 x.key.attr.n) ∧ V.cell? ⟨Bx, 6, none⟩ = some (.int .i64 x.key.val.k) ∧ V.cell? ⟨Bx, 7, none⟩ = some (.string x.key.val.t) ∧ V.cell? ⟨Bx, 8, none⟩ = some (.int .i64 x.key.val.n) ∧ V.cell? ⟨Bx, 9, none⟩ = some (.bool x.key.acc) ∧ V.cell? ⟨Bx, 10, none⟩ = some (.bool x.key.goal) ∧ V.cell? ⟨Bx, 11, none⟩ = some (.int .i64 x.key.tag) ∧ V.cell? ⟨Bx, 12, none⟩ = some (.int .i64 x.v) := by simp [World.cell?, bX]
    have hyc := cell_of_one hy
    obtain ⟨fn, tmps, assign, body, hyd, hR⟩ := YieldAt.anyDepth rfl 0 (hY pre x V hj hlt)
    gi_wp2_with fail
    refine RoundIn.mono (F := Fence.wide.inRound l2) hR ?_
    rintro e W2 ⟨hk, (⟨rfl, hJ2, hK2⟩ | ⟨rfl, hx2⟩)⟩
    · gi_wp2_with fail
      exact ⟨keeps_le hk (by omega), hK2.1, hJ2, hK2.2 _ _ _ (.inl rfl) hy⟩
    · gi_wp2_with fail
      exact ⟨keeps_le hk (by omega), rfl, hx2⟩
  case done =>
    rintro D xs V hD rfl ⟨hj, hy⟩ hK
    gi_wp2_with fail
    refine ⟨by simp, .inl ⟨_, _, rfl, run_takeDeferred hK, ?_⟩⟩
    refine ⟨_, results_none rfl _ _ _, ⟨_, rfl⟩, .inl ⟨_, rfl, hJ.putObj _ hj (by omega) hK rfl⟩⟩
  case stop =>
    rintro D c pre V hD hpre ⟨rfl, hj⟩ hK
    gi_wp2_with fail
    refine ⟨by simp, .inl ⟨_, _, rfl, run_takeDeferred hK, ?_⟩⟩
    refine ⟨_, results_none rfl _ _ _, ⟨_, rfl⟩, .inr ⟨pre, hpre, hJx.putObj _ hj (by omega) hK rfl⟩⟩

end Go.Proofs.Ytfgpkbbbohipcaa.M
