/- What spots hands a loop; what Size and exceeds answer. Conditions: the conditions lie in memory; at most 50000 of them. -/
import Derived.Test.YtmnpcpgdhaplaaaSpWalk
import Derived.RangeFuncBox
namespace Go.Proofs.Ytmnpcpgdhaplaaa
open Go Go.RowKit Go.Shelf

attribute [local go_sem] Oper.semAt_some

theorem spots_T (w : World) (s : SlH) :
    Calls Try.prog 39 #[.slice s.a s.n s.c] w fun e w' => e = .returned (.func (.func 64) #[] #[.pointer (some ⟨w.heap.size, 0, none⟩)]) ∧ w' = w.alloc (.cells #[.slice s.a s.n s.c] 22) := by
  have hmf : ∀ (fn : Fn) (first cap : Array Value) (w : World), (Instr.makeFunc fn first cap).run Try.prog w = .ok (.func fn first cap) w := fun _ _ _ _ => rfl
  go_enter Try.func39, Try.ntmps39
  go_wp2_with fail
  go_ret
  exact ⟨rfl, rfl⟩

set_option maxRecDepth 100000 in
set_option maxHeartbeats 1000000 in
theorem spots_stops (n lo hi Bl : Nat) (s : SlH) (cs : List CondV) (w : World) (hB : w.heap[Bl]? = some (.cells #[.slice s.a s.n s.c] 22 (0, 0))) (hC : CondsOk lo hi w s cs) (hhi : hi ≤ w.heap.size) (hs : sizeL cs ≤ 50000) :
    SeqC Fence.wide n Try.prog 64 #[.pointer (some ⟨Bl, 0, none⟩)] (fun x : SpotV × CondV => #[.agg #[.int .i64 x.1.count, .int .i64 x.1.depth], .agg #[.int .i64 x.2.h.kind, .bool x.2.h.goal, .string x.2.h.id, .slice x.2.h.attr.a x.2.h.attr.n x.2.h.attr.c, .slice x.2.h.value.a x.2.h.value.n x.2.h.value.c, .bool x.2.h.acc, .slice x.2.h.conds.a x.2.h.conds.n x.2.h.conds.c]]) (KpC lo hi) (fun xs => xs = flatL 0 0 cs) (fun pre => pre <+: flatL 0 0 cs) w := by
  intro l J Jx W hW hJ _ hY h0
  have c1 := cell_of_one ((hW.block Bl (lt_of_block hB)).trans hB)
  have hCW := hC.keep (KeepIn.of_below hW hhi)
  have hhW : hi ≤ W.heap.size := Nat.le_trans hhi hW.size
  have hwalk := walk_in lo hi l W.heap.size (fun q => q <+: flatL 0 0 cs) (fun a b h k => h.trans k) J Jx hJ (fun m pre x W1 hj hl => YieldAt.anyDepth rfl m (YieldAt.mono (hY pre x W1 hj hl) fun _ _ q => q.2)) (sizeL cs) cs (Nat.le_refl _) (n - 1) s [] W 0 0 (Nat.le_refl _) hhW hCW (by omega) (by omega) (by omega) (by omega) h0 (by simp)
  clear hB hW hC
  have Hw := Lib.hid hwalk
  clear hwalk
  refine callsIn_of_wp Try.func64 rfl trivial ?_ rfl
  simp only [Try.ntmps64, List.size_toArray, List.length_cons, List.length_nil, Nat.reduceAdd, Nat.reduceSub, Array.replicate_succ, Array.replicate_zero, List.push_toArray, List.append_toArray, List.nil_append, List.cons_append]
  gi_wp2_with fail
  refine ⟨trivial, fun h => (by cases h), ?_⟩
  refine Hw.out.mono ?_
  rintro e W1 (⟨rfl, hJ1, _⟩ | ⟨rfl, q, hq, hx⟩)
  · gi_wp2_with fail
    go_end0
    exact ⟨⟨_, rfl⟩, .inl ⟨_, rfl, by simpa using hJ1⟩⟩
  · gi_wp2_with fail
    go_end0
    exact ⟨⟨_, rfl⟩, .inr ⟨q, hq, by simpa using hx⟩⟩

/-- A store into a box of another type, and what is new, leave what a loop over spots keeps. -/
theorem KpC.box {lo hi : Nat} {W : World} {b o : Nat} {c : Array Value} {T : TypeId} {f : Nat × Nat} (hb : W.heap[b]? = some (.cells c T f)) (h1 : T ≠ 64) (h2 : T ≠ 77) (hp : b < lo ∨ hi ≤ b) (v : Value) : KpC lo hi W (W.setCell ⟨b, o, none⟩ v) := by
  refine ⟨((But.refl b W).setCell o v).size, fun k c' T' f' hk hc => (Below.heap_setCell _ _ _ _ ?_).trans hk⟩
  rintro rfl
  rw [hb] at hk
  cases hk
  rcases hc with ⟨h3, h4⟩ | ⟨h3, -⟩ | h3
  · omega
  · exact h1 h3
  · exact h2 h3

set_option pp.deepTerms true
set_option pp.maxSteps 1000000
set_option maxRecDepth 100000 in
set_option maxHeartbeats 2000000 in
theorem size_T (w : World) (lo hi : Nat) (s : SlH) (cs : List CondV) (hC : CondsOk lo hi w s cs) (hhi : hi ≤ w.heap.size) (hs : sizeL cs ≤ 50000) :
    Calls Try.prog 26 #[.slice s.a s.n s.c] w fun e w' => e = .returned (.int .i64 (sizeL cs)) ∧ Below w.heap.size w w' := by
  refine (callsIn_wide (n := 3)).1 ?_
  refine callsIn_of_wp_marks Try.func26 rfl trivial ?_ rfl
  simp only [Try.ntmps26, List.size_toArray, List.length_cons, List.length_nil, Nat.reduceAdd, Nat.reduceSub, Array.replicate_succ, Array.replicate_zero, List.push_toArray, List.append_toArray, List.nil_append, List.cons_append]
  gi_wp2_with fail
  have hB1 : Below w.heap.size w (w.alloc (.cells #[.int .i64 0] 3)) := (Below.refl _ w).alloc (Nat.le_refl _) _
  have hb1 := heap_alloc_new w (.cells #[.int .i64 0] 3)
  generalize (w.alloc (.cells #[.int .i64 0] 3)) = W1 at hB1 hb1 ⊢
  refine ⟨trivial, ?_⟩
  refine (callsIn_wide.2 (spots_T W1 s)).mono ?_
  rintro e W2 ⟨rfl, hw2⟩
  have hB2 : Below W1.heap.size W1 W2 := by rw [hw2]; exact (Below.refl _ W1).alloc (Nat.le_refl _) _
  have hbl : W2.heap[W1.heap.size]? = some (.cells #[.slice s.a s.n s.c] 22 (0, 0)) := by rw [hw2]; exact heap_alloc_new W1 _
  clear hw2
  have hb2 := (hB2.block _ (lt_of_block hb1)).trans hb1
  have hC2 := hB1.trans (hB2.mono hB1.size)
  gi_wp2_with fail
  refine wpIn_rangeC rfl (by omega) (gf := 64) (lb := #[.pointer (some ⟨W1.heap.size, 0, none⟩)]) rfl trivial (enters_of Try.func64 (by kernel_rfl) rfl)
    (spots_stops 2 lo hi W1.heap.size s cs W2 hbl (hC.keep (KeepIn.of_below hC2 hhi)) (Nat.le_trans hhi hC2.size) hs) (fun h k => h.trans k) (fun W l o o' h hc => KpC.putObj W l o o' h hc) (Below.refl _ _) (fun _ => rfl)
    (fun pre W => W.heap[w.heap.size]? = some (.cells #[.int .i64 pre.length] 3 (0, 0)) ∧ Below w.heap.size w W)
    (fun _ _ _ => False)
    (OwnT.and (OwnT.block _ w.heap.size (fun pre : List (SpotV × CondV) => #[.int .i64 pre.length]) 3 (by decide)) (OwnT.below (Nat.le_refl _) hC2.size))
    (fun _ => OwnT.no _)
    ⟨hb2, hC2⟩
    (fun x a' W => ∃ u v, a' = { tmps := #[.slice s.a s.n s.c, undef, .int .i64 0, .pointer (some ⟨w.heap.size, 0, none⟩), .slice s.a s.n s.c, .func (.func 64) #[] #[.pointer (some ⟨W1.heap.size, 0, none⟩)], u, v, undef, undef, undef], defers := [] })
    (fun x a' s A B row hs hg hr => hs)
    ?assign ?body ?done ?stop
  case assign =>
    rintro l pre x W K ⟨hb, hB⟩ hK
    gi_wp2
    exact hK _ _ (KeepsFrom.refl _ _) (KpC.refl _ _ _) ⟨hb, hB⟩ ⟨.agg #[.int .i64 x.1.count, .int .i64 x.1.depth], .agg #[.int .i64 x.2.h.kind, .bool x.2.h.goal, .string x.2.h.id, .slice x.2.h.attr.a x.2.h.attr.n x.2.h.attr.c, .slice x.2.h.value.a x.2.h.value.n x.2.h.value.c, .bool x.2.h.acc, .slice x.2.h.conds.a x.2.h.conds.n x.2.h.conds.c], by simp⟩
  case body =>
    rintro l pre x a' W hl ⟨r, hr⟩ ⟨hb, hB⟩ ⟨u, v, rfl⟩ hlt
    have hlen : pre.length < 50000 := by
      have := hlt.length_le
      rw [flatL_length _ cs (Nat.le_refl _), List.length_append] at this
      simp at this; omega
    have q0 := cell_of_one hb
    have q1 := free_of_one hb
    have hs' : (W.setCell ⟨w.heap.size, 0, none⟩ (.int .i64 ((pre ++ [x]).length : Int))).heap[w.heap.size]? = some (.cells #[.int .i64 ((pre ++ [x]).length : Int)] 3 (0, 0)) := by
      have := set_blockC (o := 0) hb (.int .i64 ((pre ++ [x]).length : Int))
      simpa using this
    have hkp := KpC.box (lo := lo) (hi := hi) (o := 0) hb (by decide) (by decide) (.inr hhi) (.int .i64 ((pre ++ [x]).length : Int))
    have hbs := hB.setCell (p := ⟨w.heap.size, 0, none⟩) (Nat.le_refl _) (.int .i64 ((pre ++ [x]).length : Int))
    have e1 : (((pre ++ [x]).length : Nat) : Int) = (pre.length : Int) + 1 := by simp
    rw [e1] at hs' hkp hbs
    have Hs' := Lib.hid hs'
    have Hkp := Lib.hid hkp
    have Hbs := Lib.hid hbs
    clear hs' hkp hbs e1 hlt
    gi_wp2_with fail
    refine ⟨(KeepsOthers.setCell _ _ _).from _, Hkp.out, ?_, Hbs.out⟩
    simpa using Hs'.out
  case done =>
    rintro D ys W hD rfl ⟨hb, hB⟩ hK
    have q0 := cell_of_one hb
    rw [flatL_length _ cs (Nat.le_refl _)] at q0
    gi_wp2
    refine ⟨by simp, .inl ⟨_, _, rfl, run_takeDeferred hK, ?_⟩⟩
    exact ⟨_, results_tmp rfl _ _ _, rfl, hB.trans (belowK_b (w := w) (Nat.le_refl _) W D _ _ (by have := hC2.size; omega) hK rfl rfl)⟩
  case stop =>
    rintro D c pre W _ _ h _
    exact h.elim

end Go.Proofs.Ytmnpcpgdhaplaaa
