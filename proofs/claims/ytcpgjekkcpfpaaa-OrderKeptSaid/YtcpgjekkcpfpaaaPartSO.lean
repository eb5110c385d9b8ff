/- What Meet and Less of two sets make. Conditions: the sets lie in memory; at most 300000 members. -/
import Derived.Test.YtcpgjekkcpfpaaaMg23
import Derived.Test.YtcpgjekkcpfpaaaListLawO
import Derived.Test.YtcpgjekkcpfpaaaWholeSO
import Derived.Test.YtcpgjekkcpfpaaaUnionSO
import Derived.Maps.AppendAt
import Derived.Deep.AppendLies
namespace Go.Proofs.Ytcpgjekkcpfpaaa.O
open Go Go.RowKit Go.Shelf

attribute [local go_sem] Oper.semAt_some

theorem grownBy_below {W W' : World} (h : Below W.heap.size W W') : W.grownBy W' none := ⟨h.os, h.tape, h.output, h.size, fun k hk _ => h.block k hk⟩

theorem row_below {B : Nat} {W W' : World} {v : Value} {k : Nat} {xs : List Value} (h : Below W.heap.size W W') (hr : W.ownsRow B 29 12 v k xs) : W'.ownsRow B 29 12 v k xs :=
  hr.kept (grownBy_below h) (by cases v.ownBlock <;> simp)

theorem boxed_below {W W' : World} {b : Nat} {t : TypeId} {v : Value} (h : Below W.heap.size W W') (hb : Boxed W b t v) : Boxed W' b t v := hb.kept (grownBy_below h) (by simp)

theorem kp_grown {n₀ : Nat} {W W' : World} {row : Option Nat} (hg : W.grownBy W' row) (hrow : ∀ r, row = some r → ∃ (c : Array Value) (T : TypeId) (f : Nat × Nat), W.heap[r]? = some (.cells c T f) ∧ T ≠ 67) : Kp n₀ W W' :=
  fun b c _ hb => (hg.block b (lt_of_block hb) (fun e => by obtain ⟨c', T, f, h1, h2⟩ := hrow b e.symm; rw [hb] at h1; cases h1; exact h2 rfl)).trans hb

theorem kp_row {n₀ B : Nat} {W W' : World} {v : Value} {k : Nat} {xs : List Value} (hr : W.ownsRow B 29 12 v k xs) (hg : W.grownBy W' v.ownBlock) : Kp n₀ W W' := by
  refine kp_grown hg fun j ej => ?_
  rcases hr.2 with ⟨rfl, _⟩ | ⟨g, cap, cur, rfl, _, hgb, _⟩
  · simp [Value.ownBlock] at ej
  · obtain rfl : g = j := by simpa [Value.ownBlock] using ej
    exact ⟨_, _, _, hgb, by decide⟩

theorem row_cap {B : Nat} {W : World} {v : Value} {xs : List ElmV} (h : Made B W v xs) :
    ∃ a cap, v = .slice a xs.length cap ∧ cap ≤ maxLen ∧ xs.length ≤ cap := by
  rcases h.2 with ⟨rfl, h0⟩ | ⟨g, cap, cur, rfl, hb, hg, hn, hm, hs, ht⟩
  · exact ⟨none, 0, by rw [h0], by unfold maxLen; omega, by omega⟩
  · exact ⟨_, cap, rfl, hm, hn⟩

set_option maxRecDepth 100000 in
set_option maxHeartbeats 2000000 in
theorem part_T (w : World) (s r : Nat) (hb : Bool) (L R : List ElmV) (hS : SetAt w s L) (hR : SetAt w r R) (hs : L.length ≤ 300000) (hr : R.length ≤ 300000) :
    Calls Try.prog 23 #[.pointer (some ⟨s, 0, none⟩), .pointer (some ⟨r, 0, none⟩), .bool hb] w fun e w' => ∃ c, e = .returned (.pointer (some ⟨c, 0, none⟩)) ∧ w.heap.size ≤ c ∧ SetAt w' c (L.filter (fun x => has elmCmp R x == hb)) ∧ Below w.heap.size w w' := by
  obtain ⟨i0, hi, hz0, hz1, hz2⟩ := info_parts infoT
  refine (callsIn_wide (n := 3)).1 ?_
  refine callsIn_of_wp_marks Try.func23 rfl trivial ?_ rfl
  simp only [Try.ntmps23, List.size_toArray, List.length_cons, List.length_nil, Nat.reduceAdd, Nat.reduceSub, Array.replicate_succ, Array.replicate_zero, List.push_toArray, List.append_toArray, List.nil_append, List.cons_append]
  gi_wp2_with fail
  refine ⟨trivial, ?_⟩
  refine (callsIn_wide.2 (all_T _ (some ⟨s, 0, none⟩))).mono ?_
  rintro e w1 ⟨rfl, rfl⟩
  gi_wp2_with fail
  have hB1 : Below w.heap.size w ((((w.alloc (.cells #[.pointer (some ⟨r, 0, none⟩)] 24)).alloc (.cells #[.bool hb] 4)).alloc (.cells #[.slice none 0 0] 22)).alloc (.cells #[.pointer (some ⟨s, 0, none⟩)] 24)) := ((((Below.refl _ w).alloc (Nat.le_refl _) _).alloc (by simp) _).alloc (by simp; omega) _).alloc (by simp; omega) _
  have hb1 := heap_alloc_new (((w.alloc (.cells #[.pointer (some ⟨r, 0, none⟩)] 24)).alloc (.cells #[.bool hb] 4)).alloc (.cells #[.slice none 0 0] 22)) (.cells #[.pointer (some ⟨s, 0, none⟩)] 24)
  have bO := (Boxed.new ((w.alloc (.cells #[.pointer (some ⟨r, 0, none⟩)] 24)).alloc (.cells #[.bool hb] 4)) 22 (.slice none 0 0)).alloc (.cells #[.pointer (some ⟨s, 0, none⟩)] 24)
  have hpc : ((((w.alloc (.cells #[.pointer (some ⟨r, 0, none⟩)] 24)).alloc (.cells #[.bool hb] 4)).alloc (.cells #[.slice none 0 0] 22)).alloc (.cells #[.pointer (some ⟨s, 0, none⟩)] 24)).cell? ⟨w.heap.size, 0, none⟩ = some (.pointer (some ⟨r, 0, none⟩)) := by go_simp
  have hbc : ((((w.alloc (.cells #[.pointer (some ⟨r, 0, none⟩)] 24)).alloc (.cells #[.bool hb] 4)).alloc (.cells #[.slice none 0 0] 22)).alloc (.cells #[.pointer (some ⟨s, 0, none⟩)] 24)).cell? ⟨w.heap.size + 1, 0, none⟩ = some (.bool hb) := by go_simp
  have hsz : ((((w.alloc (.cells #[.pointer (some ⟨r, 0, none⟩)] 24)).alloc (.cells #[.bool hb] 4)).alloc (.cells #[.slice none 0 0] 22)).alloc (.cells #[.pointer (some ⟨s, 0, none⟩)] 24)).heap.size = w.heap.size + 4 := by simp
  simp only [World.size_alloc] at hb1 bO
  have hS1 := hS.below hB1
  generalize ((((w.alloc (.cells #[.pointer (some ⟨r, 0, none⟩)] 24)).alloc (.cells #[.bool hb] 4)).alloc (.cells #[.slice none 0 0] 22)).alloc (.cells #[.pointer (some ⟨s, 0, none⟩)] 24)) = W2 at hpc hbc hsz hB1 hb1 hS1 bO ⊢
  refine wpIn_rangeFunc_ownH rfl (by omega) (gf := 20) (lb := #[.pointer (some ⟨w.heap.size + 1 + 1 + 1, 0, none⟩)]) rfl trivial (enters_of Try.func20 (by kernel_rfl) rfl)
    (all_stops 2 W2.heap.size _ s L W2 hb1 hS1 (by omega) (Nat.le_refl _)) (fun h k => h.trans k) (fun W l o o' _ h hc _ => Kp.putObj W l o o' h hc) (Below.refl _ _) (fun _ => rfl)
    (fun pre W => (∃ v, Boxed W (w.heap.size + 1 + 1) 22 v ∧ W.ownsRow (w.heap.size + 1 + 1) 29 12 v (pre.filter (fun x => has elmCmp R x == hb)).length ((pre.filter (fun x => has elmCmp R x == hb)).flatMap fun x => [.int .i64 x.id.k, .string x.id.t, .int .i64 x.id.n, .int .i64 x.attr.k, .string x.attr.t, .int .i64 x.attr.n, .int .i64 x.val.k, .string x.val.t, .int .i64 x.val.n, .bool x.acc, .bool x.goal, .int .i64 x.tag]) ∧ True) ∧ Below (w.heap.size + 1 + 1) W2 W)
    (fun _ _ _ => False)
    (OwnFrom.and (Own.from (holdsRow_own (w.heap.size + 1 + 1) (w.heap.size + 1 + 1) 22 29 12 (fun pre : List ElmV => (pre.filter (fun x => has elmCmp R x == hb)).length) (fun pre => (pre.filter (fun x => has elmCmp R x == hb)).flatMap fun x => [.int .i64 x.id.k, .string x.id.t, .int .i64 x.id.n, .int .i64 x.attr.k, .string x.attr.t, .int .i64 x.attr.n, .int .i64 x.val.k, .string x.val.t, .int .i64 x.val.n, .bool x.acc, .bool x.goal, .int .i64 x.tag]) (fun _ _ => True)) _)
      (ownFrom_below (by omega) (by omega)))
    (fun _ _ _ _ _ hs _ _ => hs)
    ⟨⟨_, bO, World.ownsRow_nil _ _ _ _, trivial⟩, Below.refl _ _⟩
    (fun x a' W => ∃ Bx, w.heap.size < Bx ∧ W.heap[Bx]? = some (.cells #[.int .i64 x.id.k, .string x.id.t, .int .i64 x.id.n, .int .i64 x.attr.k, .string x.attr.t, .int .i64 x.attr.n, .int .i64 x.val.k, .string x.val.t, .int .i64 x.val.n, .bool x.acc, .bool x.goal, .int .i64 x.tag] 29 (0, 0)) ∧ a' = { tmps := #[.pointer (some ⟨s, 0, none⟩), .pointer (some ⟨r, 0, none⟩), .bool hb, undef, .pointer (some ⟨w.heap.size, 0, none⟩), .pointer (some ⟨w.heap.size + 1, 0, none⟩), .pointer none, .pointer (some ⟨w.heap.size + 1 + 1, 0, none⟩), .pointer (some ⟨Bx, 0, none⟩), undef, undef, .pointer (some ⟨s, 0, none⟩), .func (.func 20) #[] #[.pointer (some ⟨w.heap.size + 1 + 1 + 1, 0, none⟩)], .agg #[.int .i64 x.id.k, .string x.id.t, .int .i64 x.id.n, .int .i64 x.attr.k, .string x.attr.t, .int .i64 x.attr.n, .int .i64 x.val.k, .string x.val.t, .int .i64 x.val.n, .bool x.acc, .bool x.goal, .int .i64 x.tag], undef, undef, undef, undef, undef, undef, undef, undef, undef, undef, undef, undef, undef, undef, undef, undef, undef], defers := [] })
    (fun x a' s A B row hs hg hr => by
      obtain ⟨Bx, h1, h2, h3⟩ := hs
      refine ⟨Bx, h1, (hg.block Bx (lt_of_block h2) (fun e => ?_)).trans h2, h3⟩
      obtain ⟨-, o, ho, hc⟩ := hr Bx e.symm
      rw [h2] at ho; cases ho; cases hc)
    ?assign ?body ?done ?stop
  case assign =>
    rintro l pre x W K ⟨⟨v, hv, hrow, -⟩, hB⟩ hK
    have hba : Below W.heap.size W (W.alloc (.cells #[.int .i64 x.id.k, .string x.id.t, .int .i64 x.id.n, .int .i64 x.attr.k, .string x.attr.t, .int .i64 x.attr.n, .int .i64 x.val.k, .string x.val.t, .int .i64 x.val.n, .bool x.acc, .bool x.goal, .int .i64 x.tag] 29)) := (Below.refl _ W).alloc (Nat.le_refl _) _
    gi_wp2
    exact hK _ _ ((KeepsOthers.alloc _ _).from _) (Kp.of_below (hba.mono hB.size)) ⟨⟨v, hv.alloc _, hrow.alloc _, trivial⟩, hB.trans (hba.mono (by have := hB.size; omega))⟩ ⟨W.heap.size, by have := hB.size; omega, heap_alloc_new W _, rfl⟩
  case body =>
    rintro l pre x a' W hl ⟨r0, hr0⟩ ⟨⟨v, hv, hrow, -⟩, hB⟩ ⟨Bx, hBx, bX, rfl⟩ hlt
    have hm0 : W.cell? ⟨Bx, 0, none⟩ = some (.int .i64 x.id.k) ∧ W.cell? ⟨Bx, 1, none⟩ = some (.string x.id.t) ∧ W.cell? ⟨Bx, 2, none⟩ = some (.int .i64 x.id.n) ∧ W.cell? ⟨Bx, 3, none⟩ = some (.int .i64 x.attr.k) ∧ W.cell? ⟨Bx, 4, none⟩ = some (.string x.attr.t) ∧ W.cell? ⟨Bx, 5, none⟩ = some (.int .i64 x.attr.n) ∧ W.cell? ⟨Bx, 6, none⟩ = some (.int .i64 x.val.k) ∧ W.cell? ⟨Bx, 7, none⟩ = some (.string x.val.t) ∧ W.cell? ⟨Bx, 8, none⟩ = some (.int .i64 x.val.n) ∧ W.cell? ⟨Bx, 9, none⟩ = some (.bool x.acc) ∧ W.cell? ⟨Bx, 10, none⟩ = some (.bool x.goal) ∧ W.cell? ⟨Bx, 11, none⟩ = some (.int .i64 x.tag) := by simp [World.cell?, bX]
    have hpc' := (hB.cell (p := ⟨w.heap.size, 0, none⟩) (show w.heap.size < _ by omega)).trans hpc
    have hbc' := (hB.cell (p := ⟨w.heap.size + 1, 0, none⟩) (show w.heap.size + 1 < _ by omega)).trans hbc
    have hRW := hR.below (hB1.trans (hB.mono (by omega)))
    have hpl := callsIn_wide (n := 0).2 (place_T W r R x hRW (by omega))
    obtain ⟨q, hq⟩ : ∃ q, has elmCmp R x = q := ⟨_, rfl⟩
    rw [hq] at hpl
    have hd : 1 ≤ 3 - 1 - 1 := by omega
    by_cases hqh : q = hb
    · subst hqh
      have hqq : (q == q) = true := beq_self_eq_true q
      have hf : (pre ++ [x]).filter (fun x => has elmCmp R x == q) = pre.filter (fun x => has elmCmp R x == q) ++ [x] := by
        rw [List.filter_append]; simp [hq]
      have Hf := Lib.hid hf
      have Hq := Lib.hid hq
      have hfl := List.length_filter_le (fun x => has elmCmp R x == q) pre
      clear hf hq
      gi_wp2_with fail
      refine ⟨trivial, ?_⟩
      refine (CallsIn.inRound l hpl).mono ?_
      rintro e w3 ⟨rfl, hB3⟩
      have hv3 := boxed_below hB3 hv
      have hrow3 := row_below hB3 hrow
      have hB4 := hB.trans (hB3.mono (by have := hB.size; omega))
      have hc := hv3.cell
      have hbc3 := (hB4.cell (p := ⟨w.heap.size + 1, 0, none⟩) (show w.heap.size + 1 < _ by omega)).trans hbc
      have hm3 := mem_below hB3 (lt_of_block bX) hm0
      have bX3 := (hB3.block Bx (lt_of_block bX)).trans bX
      gi_wp2_with (gi_at_builtin; refine wpListIn_append_own _ rfl _ _ 22 rfl (w.heap.size + 1 + 1) 29 i0 (.agg #[.int .i64 0, .string ⟨#[]⟩, .int .i64 0, .int .i64 0, .string ⟨#[]⟩, .int .i64 0, .int .i64 0, .string ⟨#[]⟩, .int .i64 0, .bool false, .bool false, .int .i64 0]) 12 112 Try.underlying22 hi hz0 hz1 hz2 rfl (by decide) _ _ _ rfl (hrow3.alloc _) ⟨w3.heap.size, 0, none⟩ 1 1 [.int .i64 x.id.k, .string x.id.t, .int .i64 x.id.n, .int .i64 x.attr.k, .string x.attr.t, .int .i64 x.attr.n, .int .i64 x.val.k, .string x.val.t, .int .i64 x.val.n, .bool x.acc, .bool x.goal, .int .i64 x.tag] rfl rfl (World.news_of_block (cs := #[.int .i64 x.id.k, .string x.id.t, .int .i64 x.id.n, .int .i64 x.attr.k, .string x.attr.t, .int .i64 x.attr.n, .int .i64 x.val.k, .string x.val.t, .int .i64 x.val.n, .bool x.acc, .bool x.goal, .int .i64 x.tag]) (t := 29) (fr := (0, 0)) (heap_alloc_new w3 _)) (by simp [Value.oneCell']) (by unfold maxLen; omega) (by omega) (by have := hB4.size; simp; omega) ?_; intro v' w5 hown' hgrow _; obtain ⟨g', cap', rfl⟩ := ownsRow_succ hown'; obtain ⟨hv5, hv6, hr6, hk6, hb6⟩ := hv3.appended (by decide) hrow3 (by have := hB4.size; omega) (Nat.le_refl _) hown' hgrow; have hc5 := hv5.cell; have hf5 := hv5.frozen)
      have hK6 := (keepsFrom_below (B := W2.heap.size) hB3).trans (hk6.from _)
      refine ⟨hK6, ?_, ⟨_, hv6, by rw [Hf.out]; simpa using hr6, trivial⟩, hB4.trans hb6⟩
      refine ((Kp.of_below (hB3.mono hB.size)).trans ((Kp.of_below ((Below.refl _ w3).alloc (Nat.le_trans hB.size hB3.size) _)).trans (kp_row (hrow3.alloc _) hgrow))).trans (kp_grown (grownBy_setCell' w5 _ _) fun j ej => ?_)
      cases ej
      exact ⟨_, _, _, hv5, by decide⟩
    · have hqq : (q == hb) = false := beq_eq_false_iff_ne.2 hqh
      have hf : (pre ++ [x]).filter (fun x => has elmCmp R x == hb) = pre.filter (fun x => has elmCmp R x == hb) := by
        rw [List.filter_append]; simp [hq, hqh]
      have Hf := Lib.hid hf
      have Hq := Lib.hid hq
      clear hf hq hqh
      gi_wp2_with fail
      refine ⟨trivial, ?_⟩
      refine (CallsIn.inRound l hpl).mono ?_
      rintro e w3 ⟨rfl, hB3⟩
      have hv3 := boxed_below hB3 hv
      have hrow3 := row_below hB3 hrow
      have hB4 := hB.trans (hB3.mono (by have := hB.size; omega))
      have hbc3 := (hB4.cell (p := ⟨w.heap.size + 1, 0, none⟩) (show w.heap.size + 1 < _ by omega)).trans hbc
      gi_wp2_with fail
      exact ⟨keepsFrom_below hB3, Kp.of_below (hB3.mono hB.size), ⟨_, hv3, by rw [Hf.out]; exact hrow3, trivial⟩, hB4⟩
  case done =>
    rintro D ys W hD rfl ⟨⟨v, hv, hrow, hnil⟩, hB⟩ hK
    have hc := hv.cell
    obtain ⟨a1, cap1, rfl, hcap, hlc⟩ := row_cap hrow
    have hfl := List.length_filter_le (fun x => has elmCmp R x == hb) ys
    have hgr := callsIn_wide (n := 2).2 (grow_T ys.length W a1 cap1 (ys.filter (fun x => has elmCmp R x == hb)) hfl hlc hcap (by omega) (by
      obtain ⟨a2, cap2, e2, h2⟩ := (Made.ge hrow).slice
      cases e2; exact h2))
    gi_wp2
    refine ⟨trivial, ?_⟩
    refine hgr.mono ?_
    rintro e w3 ⟨t3, p3, rfl, ht3, hL3, hB3⟩
    gi_wp2
    have hBa : Below w3.heap.size w3 (w3.alloc (.cells #[.pointer p3] 47)) := (Below.refl _ w3).alloc (Nat.le_refl _) _
    have hK3 := ((hB3.trans (hBa.mono hB3.size)).block D (Array.getElem?_eq_some_iff.1 hK).1).trans hK
    refine ⟨by simp, .inl ⟨_, _, rfl, run_takeDeferred hK3, ?_⟩⟩
    have hBf := hB3.trans (hBa.mono hB3.size)
    have hBd := belowK_b (w := W2) (n₀ := w.heap.size) (by omega) _ D _ (.deferred none) hD hK3 rfl rfl
    have hBW := hB1.trans (hB.mono (by omega))
    refine ⟨_, results_tmp rfl _ _ _, w3.heap.size, rfl, Nat.le_trans hBW.size hB3.size, ?_, (hBW.trans (hBf.mono hBW.size)).trans hBd⟩
    obtain ⟨-, -, -, -, -, hso⟩ := hS
    have hset : SetAt (w3.alloc (.cells #[.pointer p3] 47)) w3.heap.size (ys.filter (fun x => has elmCmp R x == hb)) := ⟨t3, p3, heap_alloc_new w3 _, ht3.ext hBa, hL3, List.Pairwise.filter _ hso⟩
    exact hset.grown (grownBy_putObj' _ D (.deferred none)) (fun r e => by cases e; exact ⟨_, hK3, rfl⟩)
  case stop =>
    rintro D c pre W _ _ h _
    exact h.elim

end Go.Proofs.Ytcpgjekkcpfpaaa.O
