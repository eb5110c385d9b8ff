/- What spots hands a loop; what Size and exceeds answer. Conditions: the conditions lie in memory; at most 50000 of them.
What exceeds answers. Conditions: the conditions lie in memory; at most 50000 of them. -/
import Derived.Test.YtmnpcpgdhaplaaaSpWalk
import Derived.RangeFuncBox
import Derived.Deep.RegionWith
namespace Go.Proofs.Ytmnpcpgdhaplaaa
open Go Go.RowKit Go.Shelf

attribute [local go_sem] Oper.semAt_some

theorem spots_T (w : World) (s : SlH) :
    Calls Try.prog 39 #[.slice s.a s.n s.c] w fun e w' => e = .returned (.func (.func 64) #[] #[.pointer (some ⟨w.heap.size, 0, none⟩)]) ∧ w' = w.alloc (.cells #[.slice s.a s.n s.c] 22) := by
  have hmf : ∀ (fn : Fn) (first cap : Array Value) (w : World), (Instr.makeFunc fn first cap).run Try.prog w = .ok (.func fn first cap) w := fun _ _ _ _ => rfl
  go_enter Try.func39, Try.ntmps39
  go_wp2_with fail
  go_ret
  exact ⟨rfl, rfl⟩

set_option maxRecDepth 100000 in
set_option maxHeartbeats 1000000 in
theorem spots_stops (n lo hi Bl : Nat) (s : SlH) (cs : List CondV) (w : World) (hB : w.heap[Bl]? = some (.cells #[.slice s.a s.n s.c] 22 (0, 0))) (hC : CondsOk lo hi w s cs) (hhi : hi ≤ w.heap.size) (hs : sizeL cs ≤ 50000) :
    SeqC Fence.wide n Try.prog 64 #[.pointer (some ⟨Bl, 0, none⟩)] (fun x : SpotV × CondV => #[.agg #[.int .i64 x.1.count, .int .i64 x.1.depth], .agg #[.int .i64 x.2.h.kind, .bool x.2.h.goal, .string x.2.h.id, .slice x.2.h.attr.a x.2.h.attr.n x.2.h.attr.c, .slice x.2.h.value.a x.2.h.value.n x.2.h.value.c, .bool x.2.h.acc, .slice x.2.h.conds.a x.2.h.conds.n x.2.h.conds.c]]) (KpC lo hi) (fun xs => xs = flatL 0 0 cs) (fun pre => pre <+: flatL 0 0 cs) w := by
  intro l J Jx W hW hJ _ hY h0
  have c1 := cell_of_one ((hW.block Bl (lt_of_block hB)).trans hB)
  have hCW := hC.keep (KeepIn.of_below hW hhi)
  have hhW : hi ≤ W.heap.size := Nat.le_trans hhi hW.size
  have hwalk := walk_in lo hi l W.heap.size (fun q => q <+: flatL 0 0 cs) (fun a b h k => h.trans k) J Jx hJ (fun m pre x W1 hj hl => YieldAt.anyDepth rfl m (YieldAt.mono (hY pre x W1 hj hl) fun _ _ q => q.2)) (sizeL cs) cs (Nat.le_refl _) (n - 1) s [] W 0 0 (Nat.le_refl _) hhW hCW (by omega) (by omega) (by omega) (by omega) h0 (by simp)
  clear hB hW hC
  have Hw := Lib.hid hwalk
  clear hwalk
  refine callsIn_of_wp Try.func64 rfl trivial ?_ rfl
  simp only [Try.ntmps64, List.size_toArray, List.length_cons, List.length_nil, Nat.reduceAdd, Nat.reduceSub, Array.replicate_succ, Array.replicate_zero, List.push_toArray, List.append_toArray, List.nil_append, List.cons_append]
  gi_wp2_with fail
  refine ⟨trivial, fun h => (by cases h), ?_⟩
  refine Hw.out.mono ?_
  rintro e W1 (⟨rfl, hJ1, _⟩ | ⟨rfl, q, hq, hx⟩)
  · gi_wp2_with fail
    go_end0
    exact ⟨⟨_, rfl⟩, .inl ⟨_, rfl, by simpa using hJ1⟩⟩
  · gi_wp2_with fail
    go_end0
    exact ⟨⟨_, rfl⟩, .inr ⟨q, hq, by simpa using hx⟩⟩

/-- A store into a box of another type, and what is new, leave what a loop over spots keeps. -/
theorem KpC.box {lo hi : Nat} {W : World} {b o : Nat} {c : Array Value} {T : TypeId} {f : Nat × Nat} (hb : W.heap[b]? = some (.cells c T f)) (h1 : T ≠ 64) (h2 : T ≠ 77) (hp : b < lo ∨ hi ≤ b) (v : Value) : KpC lo hi W (W.setCell ⟨b, o, none⟩ v) := by
  refine ⟨((But.refl b W).setCell o v).size, fun k c' T' f' hk hc => (Below.heap_setCell _ _ _ _ ?_).trans hk⟩
  rintro rfl
  rw [hb] at hk
  cases hk
  rcases hc with ⟨h3, h4⟩ | ⟨h3, -⟩ | h3
  · omega
  · exact h1 h3
  · exact h2 h3

set_option pp.deepTerms true
set_option pp.maxSteps 1000000
set_option maxRecDepth 100000 in
set_option maxHeartbeats 2000000 in
theorem size_T (w : World) (lo hi : Nat) (s : SlH) (cs : List CondV) (hC : CondsOk lo hi w s cs) (hhi : hi ≤ w.heap.size) (hs : sizeL cs ≤ 50000) :
    Calls Try.prog 26 #[.slice s.a s.n s.c] w fun e w' => e = .returned (.int .i64 (sizeL cs)) ∧ Below w.heap.size w w' := by
  refine (callsIn_wide (n := 3)).1 ?_
  refine callsIn_of_wp_marks Try.func26 rfl trivial ?_ rfl
  simp only [Try.ntmps26, List.size_toArray, List.length_cons, List.length_nil, Nat.reduceAdd, Nat.reduceSub, Array.replicate_succ, Array.replicate_zero, List.push_toArray, List.append_toArray, List.nil_append, List.cons_append]
  gi_wp2_with fail
  have hB1 : Below w.heap.size w (w.alloc (.cells #[.int .i64 0] 3)) := (Below.refl _ w).alloc (Nat.le_refl _) _
  have hb1 := heap_alloc_new w (.cells #[.int .i64 0] 3)
  generalize (w.alloc (.cells #[.int .i64 0] 3)) = W1 at hB1 hb1 ⊢
  refine ⟨trivial, ?_⟩
  refine (callsIn_wide.2 (spots_T W1 s)).mono ?_
  rintro e W2 ⟨rfl, hw2⟩
  have hB2 : Below W1.heap.size W1 W2 := by rw [hw2]; exact (Below.refl _ W1).alloc (Nat.le_refl _) _
  have hbl : W2.heap[W1.heap.size]? = some (.cells #[.slice s.a s.n s.c] 22 (0, 0)) := by rw [hw2]; exact heap_alloc_new W1 _
  clear hw2
  have hb2 := (hB2.block _ (lt_of_block hb1)).trans hb1
  have hC2 := hB1.trans (hB2.mono hB1.size)
  gi_wp2_with fail
  refine wpIn_rangeC rfl (by omega) (gf := 64) (lb := #[.pointer (some ⟨W1.heap.size, 0, none⟩)]) rfl trivial (enters_of Try.func64 (by kernel_rfl) rfl)
    (spots_stops 2 lo hi W1.heap.size s cs W2 hbl (hC.keep (KeepIn.of_below hC2 hhi)) (Nat.le_trans hhi hC2.size) hs) (fun h k => h.trans k) (fun W l o o' h hc => KpC.putObj W l o o' h hc) (Below.refl _ _) (fun _ => rfl)
    (fun pre W => W.heap[w.heap.size]? = some (.cells #[.int .i64 pre.length] 3 (0, 0)) ∧ Below w.heap.size w W)
    (fun _ _ _ => False)
    (OwnT.and (OwnT.block _ w.heap.size (fun pre : List (SpotV × CondV) => #[.int .i64 pre.length]) 3 (by decide)) (OwnT.below (Nat.le_refl _) hC2.size))
    (fun _ => OwnT.no _)
    ⟨hb2, hC2⟩
    (fun x a' W => ∃ u v, a' = { tmps := #[.slice s.a s.n s.c, undef, .int .i64 0, .pointer (some ⟨w.heap.size, 0, none⟩), .slice s.a s.n s.c, .func (.func 64) #[] #[.pointer (some ⟨W1.heap.size, 0, none⟩)], u, v, undef, undef, undef], defers := [] })
    (fun x a' s A B row hs hg hr => hs)
    ?assign ?body ?done ?stop
  case assign =>
    rintro l pre x W K ⟨hb, hB⟩ hK
    gi_wp2
    exact hK _ _ (KeepsFrom.refl _ _) (KpC.refl _ _ _) ⟨hb, hB⟩ ⟨.agg #[.int .i64 x.1.count, .int .i64 x.1.depth], .agg #[.int .i64 x.2.h.kind, .bool x.2.h.goal, .string x.2.h.id, .slice x.2.h.attr.a x.2.h.attr.n x.2.h.attr.c, .slice x.2.h.value.a x.2.h.value.n x.2.h.value.c, .bool x.2.h.acc, .slice x.2.h.conds.a x.2.h.conds.n x.2.h.conds.c], by simp⟩
  case body =>
    rintro l pre x a' W hl ⟨r, hr⟩ ⟨hb, hB⟩ ⟨u, v, rfl⟩ hlt
    have hlen : pre.length < 50000 := by
      have := hlt.length_le
      rw [flatL_length _ cs (Nat.le_refl _), List.length_append] at this
      simp at this; omega
    have q0 := cell_of_one hb
    have q1 := free_of_one hb
    have hs' : (W.setCell ⟨w.heap.size, 0, none⟩ (.int .i64 ((pre ++ [x]).length : Int))).heap[w.heap.size]? = some (.cells #[.int .i64 ((pre ++ [x]).length : Int)] 3 (0, 0)) := by
      have := set_blockC (o := 0) hb (.int .i64 ((pre ++ [x]).length : Int))
      simpa using this
    have hkp := KpC.box (lo := lo) (hi := hi) (o := 0) hb (by decide) (by decide) (.inr hhi) (.int .i64 ((pre ++ [x]).length : Int))
    have hbs := hB.setCell (p := ⟨w.heap.size, 0, none⟩) (Nat.le_refl _) (.int .i64 ((pre ++ [x]).length : Int))
    have e1 : (((pre ++ [x]).length : Nat) : Int) = (pre.length : Int) + 1 := by simp
    rw [e1] at hs' hkp hbs
    have Hs' := Lib.hid hs'
    have Hkp := Lib.hid hkp
    have Hbs := Lib.hid hbs
    clear hs' hkp hbs e1 hlt
    gi_wp2_with fail
    refine ⟨(KeepsOthers.setCell _ _ _).from _, Hkp.out, ?_, Hbs.out⟩
    simpa using Hs'.out
  case done =>
    rintro D ys W hD rfl ⟨hb, hB⟩ hK
    have q0 := cell_of_one hb
    rw [flatL_length _ cs (Nat.le_refl _)] at q0
    gi_wp2
    refine ⟨by simp, .inl ⟨_, _, rfl, run_takeDeferred hK, ?_⟩⟩
    exact ⟨_, results_tmp rfl _ _ _, rfl, hB.trans (belowK_b (w := w) (Nat.le_refl _) W D _ _ (by have := hC2.size; omega) hK rfl rfl)⟩
  case stop =>
    rintro D c pre W _ _ h _
    exact h.elim

end Go.Proofs.Ytmnpcpgdhaplaaa

namespace Go.Proofs.Ytmnpcpgdhaplaaa
open Go Go.RowKit Go.Shelf

attribute [local go_sem] Oper.semAt_some

theorem count_at (k : Nat) : ∀ (cs : List CondV), sizeL cs ≤ k → ∀ (n d : Int) (i : Nat) x, (flatL n d cs)[i]? = some x → x.1.count = n + i := by
  induction k with
  | zero =>
    intro cs h n d i x hx
    have := sizeL_le cs
    obtain rfl : cs = [] := List.length_eq_zero_iff.1 (by omega)
    simp [flatL] at hx
  | succ k ih =>
    intro cs
    induction cs with
    | nil => intro h n d i x hx; simp [flatL] at hx
    | cons c cs ih2 =>
      intro h n d i x hx
      rw [sizeL_cons] at h
      rw [flatL_cons] at hx
      have hl := flatL_length _ c.inner (Nat.le_refl _) (n + 1) (d + 1)
      rcases Nat.lt_or_ge i (1 + sizeL c.inner) with hi | hi
      · rw [List.getElem?_append_left (by simp [hl]; omega)] at hx
        cases i with
        | zero => obtain rfl : _ = x := by simpa using hx
                  simp
        | succ i =>
          have h3 := ih c.inner (by omega) (n + 1) (d + 1) i x (by simpa using hx)
          rw [h3]; omega
      · rw [List.getElem?_append_right (by simp [hl]; omega)] at hx
        have h3 := ih2 (by omega) (n + 1 + sizeL c.inner) d (i - (1 + sizeL c.inner)) x (by
          rw [← hx]; congr 1; simp [hl]; omega)
        rw [h3]; omega

theorem count_next {cs : List CondV} {pre : List (SpotV × CondV)} {x : SpotV × CondV} (h : pre ++ [x] <+: flatL 0 0 cs) : x.1.count = pre.length ∧ pre.length < sizeL cs := by
  obtain ⟨r, hr⟩ := h
  have h1 : (flatL 0 0 cs)[pre.length]? = some x := by rw [← hr]; simp
  have h2 := count_at _ cs (Nat.le_refl _) 0 0 _ x h1
  have h3 := (List.getElem?_eq_some_iff.1 h1).1
  rw [flatL_length _ cs (Nat.le_refl _)] at h3
  exact ⟨by omega, h3⟩

set_option pp.deepTerms true
set_option pp.maxSteps 1000000
set_option maxRecDepth 100000 in
set_option maxHeartbeats 2000000 in
theorem exceeds_T (w : World) (lo hi : Nat) (s : SlH) (cs : List CondV) (m : Nat) (hC : CondsOk lo hi w s cs) (hhi : hi ≤ w.heap.size) (hs : sizeL cs ≤ 50000) :
    Calls Try.prog 63 #[.slice s.a s.n s.c, .int .i64 m] w fun e w' => e = .returned (.bool (decide (m < sizeL cs))) ∧ Below w.heap.size w w' := by
  refine (callsIn_wide (n := 3)).1 ?_
  refine callsIn_of_wp_marks Try.func63 rfl trivial ?_ rfl
  simp only [Try.ntmps63, List.size_toArray, List.length_cons, List.length_nil, Nat.reduceAdd, Nat.reduceSub, Array.replicate_succ, Array.replicate_zero, List.push_toArray, List.append_toArray, List.nil_append, List.cons_append]
  gi_wp2_with fail
  have hB1 : Below w.heap.size w ((w.alloc (.cells #[.int .i64 m] 3)).alloc (.cells #[.bool false] 4)) := ((Below.refl _ w).alloc (Nat.le_refl _) _).alloc (by simp) _
  have hm1 : ((w.alloc (.cells #[.int .i64 m] 3)).alloc (.cells #[.bool false] 4)).heap[w.heap.size]? = some (.cells #[.int .i64 m] 3 (0, 0)) := (Below.heap_alloc _ _ _ (by simp)).trans (heap_alloc_new w _)
  have hb1 := heap_alloc_new (w.alloc (.cells #[.int .i64 m] 3)) (.cells #[.bool false] 4)
  simp only [World.size_alloc] at hb1
  generalize ((w.alloc (.cells #[.int .i64 m] 3)).alloc (.cells #[.bool false] 4)) = W1 at hB1 hm1 hb1 ⊢
  refine ⟨trivial, ?_⟩
  refine (callsIn_wide.2 (spots_T W1 s)).mono ?_
  rintro e W2 ⟨rfl, hw2⟩
  have hB2 : Below W1.heap.size W1 W2 := by rw [hw2]; exact (Below.refl _ W1).alloc (Nat.le_refl _) _
  have hbl : W2.heap[W1.heap.size]? = some (.cells #[.slice s.a s.n s.c] 22 (0, 0)) := by rw [hw2]; exact heap_alloc_new W1 _
  clear hw2
  have hm2 := (hB2.block _ (lt_of_block hm1)).trans hm1
  have hb2 := (hB2.block _ (lt_of_block hb1)).trans hb1
  have hC2 := hB1.trans (hB2.mono hB1.size)
  have hs2 := hB2.size
  gi_wp2_with fail
  refine wpIn_rangeC rfl (by omega) (gf := 64) (lb := #[.pointer (some ⟨W1.heap.size, 0, none⟩)]) rfl trivial (enters_of Try.func64 (by kernel_rfl) rfl)
    (spots_stops 2 lo hi W1.heap.size s cs W2 hbl (hC.keep (KeepIn.of_below hC2 hhi)) (Nat.le_trans hhi hC2.size) hs) (fun h k => h.trans k) (fun W l o o' h hc => KpC.putObj W l o o' h hc) (Below.refl _ _) (fun _ => rfl)
    (fun pre W => (pre.length ≤ m ∧ W.heap[w.heap.size + 1]? = some (.cells #[.bool false] 4 (0, 0))) ∧ W.heap[w.heap.size]? = some (.cells #[.int .i64 m] 3 (0, 0)) ∧ Below w.heap.size w W)
    (fun c _ W => (c = .ret ∧ m < sizeL cs) ∧ W.heap[w.heap.size + 1]? = some (.cells #[.bool true] 4 (0, 0)) ∧ Below w.heap.size w W)
    (OwnT.and (OwnT.and (OwnT.pure _ _) (OwnT.block _ (w.heap.size + 1) (fun _ : List (SpotV × CondV) => #[.bool false]) 4 (by decide))) (OwnT.and (OwnT.block _ w.heap.size (fun _ : List (SpotV × CondV) => #[.int .i64 m]) 3 (by decide)) (OwnT.below (Nat.le_refl _) hC2.size)))
    (fun c => OwnT.and (OwnT.pure _ (fun _ => c = .ret ∧ m < sizeL cs)) (OwnT.and (OwnT.block _ (w.heap.size + 1) (fun _ : List (SpotV × CondV) => #[.bool true]) 4 (by decide)) (OwnT.below (Nat.le_refl _) hC2.size)))
    ⟨⟨by simp, hb2⟩, hm2, hC2⟩
    (fun x a' W => ∃ Bx v, w.heap.size + 1 < Bx ∧ W.heap[Bx]? = some (.cells #[.int .i64 x.1.count, .int .i64 x.1.depth] 77 (0, 0)) ∧ a' = { tmps := #[.slice s.a s.n s.c, .int .i64 m, undef, .pointer (some ⟨w.heap.size, 0, none⟩), .pointer (some ⟨w.heap.size + 1, 0, none⟩), .pointer (some ⟨Bx, 0, none⟩), .slice s.a s.n s.c, .func (.func 64) #[] #[.pointer (some ⟨W1.heap.size, 0, none⟩)], .agg #[.int .i64 x.1.count, .int .i64 x.1.depth], v, undef, undef, undef, undef], defers := [] })
    (fun x a' s A B row hs hg hr => by
      obtain ⟨Bx, v, h1, h2, h3⟩ := hs
      refine ⟨Bx, v, h1, (hg.block Bx (lt_of_block h2) (fun e => ?_)).trans h2, h3⟩
      obtain ⟨-, o, ho, hc⟩ := hr Bx e.symm
      rw [h2] at ho; cases ho; cases hc)
    ?assign ?body ?done ?stop
  case assign =>
    rintro l pre x W K ⟨⟨hp, hb⟩, hm, hB⟩ hK
    gi_wp2
    have hBa : Below W.heap.size W (W.alloc (.cells #[.int .i64 x.1.count, .int .i64 x.1.depth] 77)) := (Below.refl _ W).alloc (Nat.le_refl _) _
    exact hK _ _ ((KeepsOthers.alloc _ _).from _) (KpC.of_below hBa) ⟨⟨hp, (hBa.block _ (lt_of_block hb)).trans hb⟩, (hBa.block _ (lt_of_block hm)).trans hm, hB.trans (hBa.mono hB.size)⟩ ⟨W.heap.size, .agg #[.int .i64 x.2.h.kind, .bool x.2.h.goal, .string x.2.h.id, .slice x.2.h.attr.a x.2.h.attr.n x.2.h.attr.c, .slice x.2.h.value.a x.2.h.value.n x.2.h.value.c, .bool x.2.h.acc, .slice x.2.h.conds.a x.2.h.conds.n x.2.h.conds.c], lt_of_block hb, heap_alloc_new W _, rfl⟩
  case body =>
    rintro l pre x a' W hl ⟨r, hr⟩ ⟨⟨hp, hb⟩, hm, hB⟩ ⟨Bx, v, hBx, bX, rfl⟩ hlt
    obtain ⟨hcount, hlen⟩ := count_next hlt
    obtain ⟨q0, q1, -⟩ := spot_cells bX
    have q2 := cell_of_one hm
    have q3 := cell_of_one hb
    have q4 := free_of_one hb
    rw [hcount] at q0
    by_cases hge : m ≤ pre.length
    · have hge2 : (m : Int) ≤ (pre.length : Int) := by omega
      have hs' : (W.setCell ⟨w.heap.size + 1, 0, none⟩ (.bool true)).heap[w.heap.size + 1]? = some (.cells #[.bool true] 4 (0, 0)) := by
        have := set_blockC (o := 0) hb (.bool true)
        simpa using this
      have hbs := hB.setCell (p := ⟨w.heap.size + 1, 0, none⟩) (Nat.le_succ _) (.bool true)
      have Hs' := Lib.hid hs'
      have Hbs := Lib.hid hbs
      have Hlt : Hid (m < sizeL cs) := Lib.hid (by omega)
      clear hs' hbs hlt hcount
      gi_wp2_with fail
      exact ⟨(KeepsOthers.setCell _ _ _).from _, ⟨rfl, Hlt.out⟩, Hs'.out, Hbs.out⟩
    · have hge2 : ((m : Int) ≤ (pre.length : Int)) = False := eq_false (by omega)
      have Hp : Hid ((pre ++ [x]).length ≤ m) := Lib.hid (by simp; omega)
      clear hlt hcount
      gi_wp2_with fail
      exact ⟨KeepsFrom.refl _ _, KpC.refl _ _ _, ⟨Hp.out, hb⟩, hm, hB⟩
  case done =>
    rintro D ys W hD rfl ⟨⟨hp, hb⟩, hm, hB⟩ hK
    rw [flatL_length _ cs (Nat.le_refl _)] at hp
    have q3 := cell_of_one hb
    have q4 := free_of_one hb
    have hDd : w.heap.size + 1 < D := by have := lt_of_block hb2; omega
    gi_wp2
    have hKD := (Below.heap_setCell W ⟨w.heap.size + 1, 0, none⟩ (.bool false) D (by show D ≠ w.heap.size + 1; omega)).trans hK
    refine ⟨by simp, .inl ⟨_, _, rfl, run_takeDeferred hKD, ?_⟩⟩
    have hs' : (W.setCell ⟨w.heap.size + 1, 0, none⟩ (.bool false)).heap[w.heap.size + 1]? = some (.cells #[.bool false] 4 (0, 0)) := by
      have := set_blockC (o := 0) hb (.bool false)
      simpa using this
    have hc5 := cell_kept (cell_of_one hs') (grownBy_putObj' _ D (.deferred none)) (fun r e => by cases e; exact ⟨_, hKD, rfl⟩)
    refine ⟨.bool false, ?_, ?_, ?_⟩
    · simp [results, Try.results63, go_sem, hc5]
    · rw [decide_eq_false (by omega)]
    · exact (hB.setCell (p := ⟨w.heap.size + 1, 0, none⟩) (Nat.le_succ _) (.bool false)).trans (belowK_b (w := w) (by omega) _ D _ _ (by omega) hKD rfl rfl)
  case stop =>
    rintro D c pre W hD hpre ⟨⟨rfl, hm⟩, hb, hB⟩ hK
    gi_wp2
    refine ⟨by simp, .inl ⟨_, _, rfl, run_takeDeferred hK, ?_⟩⟩
    have hc5 := cell_kept (cell_of_one hb) (grownBy_putObj' _ D (.deferred none)) (fun r e => by cases e; exact ⟨_, hK, rfl⟩)
    refine ⟨.bool true, ?_, ?_, ?_⟩
    · simp [results, Try.results63, go_sem, hc5]
    · rw [decide_eq_true hm]
    · exact hB.trans (belowK_b (w := w) (by have := hC2.size; omega) _ D _ _ (by have := hC2.size; omega) hK rfl rfl)

end Go.Proofs.Ytmnpcpgdhaplaaa
