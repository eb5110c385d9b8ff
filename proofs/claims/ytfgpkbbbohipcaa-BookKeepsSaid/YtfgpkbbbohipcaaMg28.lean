/- What Keys of a map hands a loop. Conditions: the map lies in memory; at most 800000 keys.
What the statements' List and First make of a sequence that ranges over another one. Conditions: at most 800000 things come.
Entries of a map, a key and a value, and what it means that two are held against each other. Conditions: none. -/
import Derived.Test.YtfgpkbbbohipcaaMg27
import Derived.Maps.AppendAt
import Derived.Deep.AppendLies
import Derived.Lib.OwnKind
import Derived.OneCell
import Derived.Deep.Onto
import Derived.Deep.RegionWith
import Derived.Stop.RegionWithIn
import Derived.Test.YtfgpkbbbohipcaaMg5
import Derived.RangeFuncBox
import Derived.Test.YtfgpkbbbohipcaaMg1
namespace Go.Proofs.Ytfgpkbbbohipcaa.M
open Go Go.RowKit Go.Shelf Go.Lib

attribute [local go_sem] Oper.semAt_some

/-- An append to a list and the store of what it made leave the trees' nodes and the boxes of what iterators call back. -/
theorem kpy_step {n₀ B b n k : Nat} {W w1 : World} {T t : TypeId} {v : Value} {xs : List Value} {tmp : Obj} (hr : W.ownsRow B T k v n xs) (hg : (W.alloc tmp).grownBy w1 v.ownBlock) (h1 : T ≠ 178) (h2 : T ≠ 70) (h3 : T ≠ 117)
    (hb : Boxed w1 b t v) (k1 : t ≠ 178) (k2 : t ≠ 70) (k3 : t ≠ 117) (u : Value) : KpY n₀ W (w1.setCell ⟨b, 0, none⟩ u) := by
  have key : ∀ (c : Nat) (cs : Array Value) (T' : TypeId), T' ≠ T → T' ≠ t → W.heap[c]? = some (.cells cs T' (0, 0)) → (w1.setCell ⟨b, 0, none⟩ u).heap[c]? = some (.cells cs T' (0, 0)) := by
    intro c cs T' hT ht hc
    have ha : (W.alloc tmp).heap[c]? = some (.cells cs T' (0, 0)) := (Below.heap_alloc _ _ _ (by have := lt_of_block hc; omega)).trans hc
    have e1 : w1.heap[c]? = some (.cells cs T' (0, 0)) := by
      refine (hg.block c (lt_of_block ha) fun e => ?_).trans ha
      obtain ⟨c', f', hk⟩ := ownsRow_kind (hr.alloc tmp) c e.symm
      rw [ha] at hk; cases hk; exact hT rfl
    refine (Below.heap_setCell _ _ _ _ ?_).trans e1
    rintro rfl
    rw [show w1.heap[c]? = _ from hb] at e1
    cases e1; exact ht rfl
  refine ⟨fun c cs _ hc => key c cs _ (Ne.symm h1) (Ne.symm k1) hc, fun c cs T' hT hc => ?_⟩
  rcases hT with rfl | rfl
  · exact key c cs _ (Ne.symm h2) (Ne.symm k2) hc
  · exact key c cs _ (Ne.symm h3) (Ne.symm k3) hc

theorem kpy_below {n₀ : Nat} {W W' : World} (h : Below W.heap.size W W') : KpY n₀ W W' := ⟨fun b _ _ hb => (h.block b (lt_of_block hb)).trans hb, fun b _ _ _ hb => (h.block b (lt_of_block hb)).trans hb⟩

/-- What a loop's body leaves as it lies, wherever it is asked. -/
def KpA (W W' : World) : Prop := ∀ n₀, KpY n₀ W W'

theorem KpA.trans {A B C : World} (h : KpA A B) (k : KpA B C) : KpA A C := fun n => (h n).trans (k n)

theorem keys_T (w : World) (m : Nat) :
    Calls Try.prog 36 #[.pointer (some ⟨m, 0, none⟩)] w fun e w' => e = .returned (.func (.func 62) #[] #[.pointer (some ⟨w.heap.size, 0, none⟩)]) ∧ w' = w.alloc (.cells #[.pointer (some ⟨m, 0, none⟩)] 64) := by
  have hmf : ∀ (fn : Fn) (first cap : Array Value) (w : World), (Instr.makeFunc fn first cap).run Try.prog w = .ok (.func fn first cap) w := fun _ _ _ _ => rfl
  go_enter Try.func36, Try.ntmps36
  go_wp2_with fail
  go_ret
  exact ⟨rfl, rfl⟩

set_option pp.deepTerms true
set_option pp.maxSteps 1000000
set_option maxRecDepth 100000 in
set_option maxHeartbeats 2000000 in
theorem keys_stops (n Bm m s : Nat) (L : List EntM) (w : World) (hB : w.heap[Bm]? = some (.cells #[.pointer (some ⟨m, 0, none⟩)] 64 (0, 0))) (hM : MapAt w m s L) (hs : L.length ≤ 800000) :
    SeqW Fence.wide n Try.prog 62 #[.pointer (some ⟨Bm, 0, none⟩)] (fun x : ElmV => #[.agg #[.int .i64 x.id.k, .string x.id.t, .int .i64 x.id.n, .int .i64 x.attr.k, .string x.attr.t, .int .i64 x.attr.n, .int .i64 x.val.k, .string x.val.t, .int .i64 x.val.n, .bool x.acc, .bool x.goal, .int .i64 x.tag]]) KpA (fun xs => xs = L.map EntM.key) (fun pre => pre <+: L.map EntM.key) w := by
  intro l J Jx W hW hJ hJx hY h0
  have c1 := cell_of_one ((hW.block Bm (lt_of_block hB)).trans hB)
  have hBy : Below W.heap.size W (W.alloc (.cells #[.func (.yield l) #[] #[]] 117)) := (Below.refl _ W).alloc (Nat.le_refl _) _
  have c1y := (hBy.cell (p := ⟨Bm, 0, none⟩) (World.block_lt_of_cell? W _ c1)).trans c1
  have hyb := heap_alloc_new W (.cells #[.func (.yield l) #[] #[]] 117)
  have hMW := hM.below hW
  refine callsIn_wide.2 ((callsIn_wide (n := 3)).1 ?_)
  refine callsIn_of_wp_marks Try.func62 rfl trivial ?_ rfl
  simp only [Try.ntmps62, List.size_toArray, List.length_cons, List.length_nil, Nat.reduceAdd, Nat.reduceSub, Array.replicate_succ, Array.replicate_zero, List.push_toArray, List.append_toArray, List.nil_append, List.cons_append]
  have hsy : (W.alloc (.cells #[.func (.yield l) #[] #[]] 117)).heap.size = W.heap.size + 1 := by simp
  have h0y := hJ.alloc (.cells #[.func (.yield l) #[] #[]] 117) h0
  have hMy := hMW.below hBy
  gi_wp2_with fail
  generalize (W.alloc (.cells #[.func (.yield l) #[] #[]] 117)) = Wy at hBy c1y hyb hsy h0y hMy ⊢
  refine ⟨trivial, ?_⟩
  have hsz := Lib.hid hsy
  clear hsy
  refine (callsIn_wide.2 (mapall_T Wy m s L hMy)).mono ?_
  rintro e w3 ⟨rfl, hp1, hp2, hB3⟩
  have hM3 := hMy.below hB3
  have hyb3 := (hB3.block _ (lt_of_block hyb)).trans hyb
  have h03 := own_le hJ (Nat.le_refl _) [] Wy w3 none h0y ⟨hB3.os, hB3.tape, hB3.output, hB3.size, fun k hk _ => hB3.block k hk⟩ (fun r e => by cases e)
  have hs3 := hB3.size
  have hsz3 : W.heap.size < w3.heap.size := by have := hsz.out; omega
  gi_wp2_with fail
  refine wpIn_rangeW rfl (by omega) (gf := 108) (lb := #[.pointer (some ⟨Wy.heap.size + 1, 0, none⟩)]) rfl trivial (enters_of Try.func108 (by kernel_rfl) rfl)
    (pairs_stops 2 w3.heap.size _ _ s L w3 hp1 hp2 hM3.2 (by omega) (Nat.le_refl _)) (fun h k => h.trans k) (fun W l o o' h hc => KpY.putObj W l o o' h hc) (Below.refl _ _) (fun _ => rfl)
    (fun pre V => J (pre.map EntM.key) V ∧ V.heap[W.heap.size]? = some (.cells #[.func (.yield l) #[] #[]] 117 (0, 0)))
    (fun c pre V => c = .ret ∧ Jx (pre.map EntM.key) V)
    (OwnFrom.and (fun s A B row h hg hr => own_le hJ (by omega) _ A B row h hg hr) (fun _ A B row h hg hr => (hg.block _ (lt_of_block h) (fun e => by obtain ⟨-, o, ho, hc⟩ := hr _ e.symm; rw [h] at ho; cases ho; cases hc)).trans h))
    (fun c s A B row h hg hr => ⟨h.1, own_le hJx (by omega) _ A B row h.2 hg hr⟩)
    ⟨h03, hyb3⟩
    (fun x a' V => ∃ Bx, V.heap[Bx]? = some (.cells #[.int .i64 x.key.id.k, .string x.key.id.t, .int .i64 x.key.id.n, .int .i64 x.key.attr.k, .string x.key.attr.t, .int .i64 x.key.attr.n, .int .i64 x.key.val.k, .string x.key.val.t, .int .i64 x.key.val.n, .bool x.key.acc, .bool x.key.goal, .int .i64 x.key.tag] 67 (0, 0)) ∧ a' = { tmps := #[.func (.yield l) #[] #[], .pointer (some ⟨Bm, 0, none⟩), .pointer (some ⟨W.heap.size, 0, none⟩), .pointer (some ⟨Bx, 0, none⟩), .pointer (some ⟨m, 0, none⟩), .func (.func 108) #[] #[.pointer (some ⟨Wy.heap.size + 1, 0, none⟩)], .agg #[.int .i64 x.key.id.k, .string x.key.id.t, .int .i64 x.key.id.n, .int .i64 x.key.attr.k, .string x.key.attr.t, .int .i64 x.key.attr.n, .int .i64 x.key.val.k, .string x.key.val.t, .int .i64 x.key.val.n, .bool x.key.acc, .bool x.key.goal, .int .i64 x.key.tag], .int .i64 x.v, undef, undef, undef, undef], defers := [] })
    (fun x a' s A B row hs hg hr => by
      obtain ⟨Bx, h2, h3⟩ := hs
      refine ⟨Bx, (hg.block Bx (lt_of_block h2) (fun e => ?_)).trans h2, h3⟩
      obtain ⟨-, o, ho, hc⟩ := hr Bx e.symm
      rw [h2] at ho; cases ho; cases hc)
    ?assign ?body ?done ?stop
  case assign =>
    rintro l2 pre x V K ⟨hj, hy⟩ hK
    gi_wp2
    exact hK _ _ ((KeepsOthers.alloc _ _).from _) (kpy_below ((Below.refl _ V).alloc (Nat.le_refl _) _)) ⟨hJ.alloc _ hj, (Below.heap_alloc _ _ _ (by have := lt_of_block hy; omega)).trans hy⟩ ⟨V.heap.size, heap_alloc_new V _, rfl⟩
  case body =>
    rintro l2 pre x a' V hl ⟨r0, hr0⟩ ⟨hj, hy⟩ ⟨Bx, bX, rfl⟩ hlt
    have hm : V.cell? ⟨Bx, 0, none⟩ = some (.int .i64 x.key.id.k) ∧ V.cell? ⟨Bx, 1, none⟩ = some (.string x.key.id.t) ∧ V.cell? ⟨Bx, 2, none⟩ = some (.int .i64 x.key.id.n) ∧ V.cell? ⟨Bx, 3, none⟩ = some (.int .i64 x.key.attr.k) ∧ V.cell? ⟨Bx, 4, none⟩ = some (.string x.key.attr.t) ∧ V.cell? ⟨Bx, 5, none⟩ = some (.int .i64 x.key.attr.n) ∧ V.cell? ⟨Bx, 6, none⟩ = some (.int .i64 x.key.val.k) ∧ V.cell? ⟨Bx, 7, none⟩ = some (.string x.key.val.t) ∧ V.cell? ⟨Bx, 8, none⟩ = some (.int .i64 x.key.val.n) ∧ V.cell? ⟨Bx, 9, none⟩ = some (.bool x.key.acc) ∧ V.cell? ⟨Bx, 10, none⟩ = some (.bool x.key.goal) ∧ V.cell? ⟨Bx, 11, none⟩ = some (.int .i64 x.key.tag) := by simp [World.cell?, bX]
    have hyc := cell_of_one hy
    have hlt2 : pre.map EntM.key ++ [x.key] <+: L.map EntM.key := by have := hlt.map EntM.key; simpa using this
    obtain ⟨fn, tmps, assign, body, hyd, hR⟩ := YieldAt.anyDepth rfl 0 (hY (pre.map EntM.key) x.key V hj hlt2)
    clear hlt hlt2
    gi_wp2_with fail
    refine RoundIn.mono (F := Fence.wide.inRound l2) hR ?_
    rintro e W2 ⟨hk, (⟨rfl, hJ2, hK2⟩ | ⟨rfl, hx2⟩)⟩
    · gi_wp2_with fail
      exact ⟨keeps_le hk (by omega), hK2 _, by simpa using hJ2, (hK2 0).2 _ _ _ (.inr rfl) hy⟩
    · gi_wp2_with fail
      exact ⟨keeps_le hk (by omega), rfl, by simpa using hx2⟩
  case done =>
    rintro D xs V hD rfl ⟨hj, hy⟩ hK
    gi_wp2_with fail
    refine ⟨by simp, .inl ⟨_, _, rfl, run_takeDeferred hK, ?_⟩⟩
    refine ⟨_, results_none rfl _ _ _, ⟨_, rfl⟩, .inl ⟨_, rfl, hJ.putObj _ hj (by omega) hK rfl⟩⟩
  case stop =>
    rintro D c pre V hD hpre ⟨rfl, hj⟩ hK
    gi_wp2_with fail
    refine ⟨by simp, .inl ⟨_, _, rfl, run_takeDeferred hK, ?_⟩⟩
    refine ⟨_, results_none rfl _ _ _, ⟨_, rfl⟩, .inr ⟨pre.map EntM.key, hpre.map EntM.key, hJx.putObj _ hj (by omega) hK rfl⟩⟩

end Go.Proofs.Ytfgpkbbbohipcaa.M

namespace Go.Proofs.Ytfgpkbbbohipcaa.O
open Go Go.RowKit Go.Shelf Go.Lib

attribute [local go_sem] Oper.semAt_some

theorem eq_nilW (gf : Nat) (lb : Array Value) (w : World) : (binOp .eql 75 (.func (.func gf) #[] lb) .nilFunc).run Try.prog w = .ok (.bool false) w := by kernel_rfl

set_option maxRecDepth 100000 in
set_option maxHeartbeats 2000000 in
theorem list2_T (gf : Nat) (lb : Array Value) (L : List ElmV) (w : World) (heg : ∀ args w, (callFunc gf args).run Try.prog w = .ok (.enter gf args) w)
    (hseq : SeqW Fence.wide 2 Try.prog gf lb (fun x : ElmV => #[.agg #[.int .i64 x.id.k, .string x.id.t, .int .i64 x.id.n, .int .i64 x.attr.k, .string x.attr.t, .int .i64 x.attr.n, .int .i64 x.val.k, .string x.val.t, .int .i64 x.val.n, .bool x.acc, .bool x.goal, .int .i64 x.tag]]) M.KpA (fun xs => xs = L) (fun pre => pre <+: L) w) (hs : L.length ≤ 800000) :
    Calls Try.prog 35 #[.func (.func gf) #[] lb] w fun e w' => ∃ v, e = .returned v ∧ Made w.heap.size w' v L ∧ Below w.heap.size w w' := by
  obtain ⟨i0, hi, hz0, hz1, hz2⟩ := info_parts infoT
  refine (callsIn_wide (n := 3)).1 ?_
  refine callsIn_of_wp_marks Try.func35 rfl trivial ?_ rfl
  simp only [Try.ntmps35, List.size_toArray, List.length_cons, List.length_nil, Nat.reduceAdd, Nat.reduceSub, Array.replicate_succ, Array.replicate_zero, List.push_toArray, List.append_toArray, List.nil_append, List.cons_append]
  have hq := eq_nilW gf lb
  gi_wp2_with fail
  have bO := Boxed.new w 63 (.slice none 0 0)
  have hB0 : Below w.heap.size w (w.alloc (.cells #[.slice none 0 0] 63)) := (Below.refl _ w).alloc (Nat.le_refl _) _
  refine wpIn_rangeW rfl (by omega) (gf := gf) (lb := lb) rfl trivial heg hseq (fun h k => h.trans k) (fun W l o o' h hc n₀ => M.KpY.putObj W l o o' h hc) hB0 (fun _ => rfl)
    (fun pre W => (∃ v, Boxed W w.heap.size 63 v ∧ W.ownsRow w.heap.size 67 12 v pre.length (pre.flatMap fun x => [.int .i64 x.id.k, .string x.id.t, .int .i64 x.id.n, .int .i64 x.attr.k, .string x.attr.t, .int .i64 x.attr.n, .int .i64 x.val.k, .string x.val.t, .int .i64 x.val.n, .bool x.acc, .bool x.goal, .int .i64 x.tag]) ∧ True) ∧ Below w.heap.size w W)
    (fun _ _ _ => False)
    (OwnFrom.and (Own.from (holdsRow_own w.heap.size w.heap.size 63 67 12 (fun pre : List ElmV => pre.length) (fun pre => pre.flatMap fun x => [.int .i64 x.id.k, .string x.id.t, .int .i64 x.id.n, .int .i64 x.attr.k, .string x.attr.t, .int .i64 x.attr.n, .int .i64 x.val.k, .string x.val.t, .int .i64 x.val.n, .bool x.acc, .bool x.goal, .int .i64 x.tag]) (fun _ _ => True)) _) (ownFrom_below (Nat.le_refl _) (by simp)))
    (fun _ _ _ _ _ hs _ _ => hs)
    ⟨⟨_, bO, World.ownsRow_nil _ _ _ _, trivial⟩, hB0⟩
    (fun x a' W => ∃ Bx, w.heap.size < Bx ∧ W.heap[Bx]? = some (.cells #[.int .i64 x.id.k, .string x.id.t, .int .i64 x.id.n, .int .i64 x.attr.k, .string x.attr.t, .int .i64 x.attr.n, .int .i64 x.val.k, .string x.val.t, .int .i64 x.val.n, .bool x.acc, .bool x.goal, .int .i64 x.tag] 67 (0, 0)) ∧ a' = { tmps := #[.func (.func gf) #[] lb, undef, .slice none 0 0, .pointer (some ⟨w.heap.size, 0, none⟩), .pointer (some ⟨Bx, 0, none⟩), .func (.func gf) #[] lb, .bool false, .func (.func gf) #[] lb, .agg #[.int .i64 x.id.k, .string x.id.t, .int .i64 x.id.n, .int .i64 x.attr.k, .string x.attr.t, .int .i64 x.attr.n, .int .i64 x.val.k, .string x.val.t, .int .i64 x.val.n, .bool x.acc, .bool x.goal, .int .i64 x.tag], undef, undef, undef, undef, undef], defers := [] })
    (fun x a' s A B row hs hg hr => by
      obtain ⟨Bx, h1, h2, h3⟩ := hs
      refine ⟨Bx, h1, (hg.block Bx (lt_of_block h2) (fun e => ?_)).trans h2, h3⟩
      obtain ⟨-, o, ho, hc⟩ := hr Bx e.symm
      rw [h2] at ho; cases ho; cases hc)
    ?assign ?body ?done ?stop
  case assign =>
    rintro l pre x W K ⟨⟨v, hv, hrow, -⟩, hB⟩ hK
    gi_wp2
    refine hK _ _ ((KeepsOthers.alloc _ _).from _) (fun n₀ => M.kpy_below ((Below.refl _ W).alloc (Nat.le_refl _) _)) ⟨⟨v, hv.alloc _, hrow.alloc _, trivial⟩, hB.trans ((Below.refl _ W).alloc hB.size _)⟩ ⟨W.heap.size, hv.lt, heap_alloc_new W _, rfl⟩
  case body =>
    rintro l pre x a' W hl ⟨r, hr⟩ ⟨⟨v, hv, hrow, -⟩, hB⟩ ⟨Bx, hBx, bX, rfl⟩ hpre
    have hlt : pre.length < L.length := by have := hpre.length_le; simp at this; omega
    clear hpre
    have hc := hv.cell
    have hm : W.cell? ⟨Bx, 0, none⟩ = some (.int .i64 x.id.k) ∧ W.cell? ⟨Bx, 1, none⟩ = some (.string x.id.t) ∧ W.cell? ⟨Bx, 2, none⟩ = some (.int .i64 x.id.n) ∧ W.cell? ⟨Bx, 3, none⟩ = some (.int .i64 x.attr.k) ∧ W.cell? ⟨Bx, 4, none⟩ = some (.string x.attr.t) ∧ W.cell? ⟨Bx, 5, none⟩ = some (.int .i64 x.attr.n) ∧ W.cell? ⟨Bx, 6, none⟩ = some (.int .i64 x.val.k) ∧ W.cell? ⟨Bx, 7, none⟩ = some (.string x.val.t) ∧ W.cell? ⟨Bx, 8, none⟩ = some (.int .i64 x.val.n) ∧ W.cell? ⟨Bx, 9, none⟩ = some (.bool x.acc) ∧ W.cell? ⟨Bx, 10, none⟩ = some (.bool x.goal) ∧ W.cell? ⟨Bx, 11, none⟩ = some (.int .i64 x.tag) := by simp [World.cell?, bX]
    gi_wp2_with (gi_at_builtin; refine wpListIn_append_own _ rfl _ _ 63 rfl w.heap.size 67 i0 (.agg #[.int .i64 0, .string ⟨#[]⟩, .int .i64 0, .int .i64 0, .string ⟨#[]⟩, .int .i64 0, .int .i64 0, .string ⟨#[]⟩, .int .i64 0, .bool false, .bool false, .int .i64 0]) 12 112 Try.underlying63 hi hz0 hz1 hz2 rfl (by decide) _ _ _ rfl (hrow.alloc _) ⟨W.heap.size, 0, none⟩ 1 1 [.int .i64 x.id.k, .string x.id.t, .int .i64 x.id.n, .int .i64 x.attr.k, .string x.attr.t, .int .i64 x.attr.n, .int .i64 x.val.k, .string x.val.t, .int .i64 x.val.n, .bool x.acc, .bool x.goal, .int .i64 x.tag] rfl rfl (World.news_of_block (cs := #[.int .i64 x.id.k, .string x.id.t, .int .i64 x.id.n, .int .i64 x.attr.k, .string x.attr.t, .int .i64 x.attr.n, .int .i64 x.val.k, .string x.val.t, .int .i64 x.val.n, .bool x.acc, .bool x.goal, .int .i64 x.tag]) (t := 67) (fr := (0, 0)) (heap_alloc_new W _)) (by simp [Value.oneCell']) (by unfold maxLen; omega) (by omega) (by have := hB.size; simp; omega) ?_; intro v' w1 hown' hgrow _; obtain ⟨g', cap', rfl⟩ := ownsRow_succ hown'; obtain ⟨hv1, hv2, hr2, hk2, hb2⟩ := hv.appended (by decide) hrow hB.size (Nat.le_refl _) hown' hgrow; have hkp1 : M.KpA W (w1.setCell ⟨w.heap.size, 0, none⟩ (.slice (some ⟨g', 0, none⟩) (pre.length + 1) cap')) := (fun n₀ => M.kpy_step hrow hgrow (by decide) (by decide) (by decide) hv1 (by decide) (by decide) (by decide) (.slice (some ⟨g', 0, none⟩) (pre.length + 1) cap')); have hc1 := hv1.cell; have hf1 := hv1.frozen)
    exact ⟨hk2.from _, hkp1, ⟨_, hv2, by simpa using hr2, trivial⟩, hB.trans hb2⟩
  case done =>
    rintro D ys W hD rfl ⟨⟨v, hv, hrow, hnil⟩, hB⟩ hK
    have hc := hv.cell
    gi_wp2
    refine ⟨by simp, .inl ⟨_, _, rfl, run_takeDeferred hK, ?_⟩⟩
    exact ⟨_, results_tmp rfl _ _ _, v, rfl, ownsRow_putObj hrow _ hK rfl, hB.trans (belowK_b (w := w) (Nat.le_refl _) W D _ _ (by simp at hD; omega) hK rfl rfl)⟩
  case stop =>
    rintro D c pre W _ _ h _
    exact h.elim

end Go.Proofs.Ytfgpkbbbohipcaa.O

namespace Go.Proofs.Ytfgpkbbbohipcaa
open Go Go.RowKit

/-- An entry: a key and a value. -/
structure EntV where
  key : SymV
  v : Int

def entCmp (x y : EntV) : Int := symCmp x.key y.key
theorem entCmp_lin : Lin entCmp := comap_lin EntV.key symCmp_lin

end Go.Proofs.Ytfgpkbbbohipcaa
