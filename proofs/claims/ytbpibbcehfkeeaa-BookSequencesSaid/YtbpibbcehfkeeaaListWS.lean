/- What the statements' List and First make of a sequence that ranges over another one. Conditions: at most 800000 things come. -/
import Derived.Test.YtbpibbcehfkeeaaKeysW
import Derived.Test.YtbpibbcehfkeeaaBookKit
import Derived.RangeFuncBox
namespace Go.Proofs.Ytbpibbcehfkeeaa.S
open Go Go.RowKit Go.Shelf Go.Lib

attribute [local go_sem] Oper.semAt_some

theorem eq_nilW (gf : Nat) (lb : Array Value) (w : World) : (binOp .eql 55 (.func (.func gf) #[] lb) .nilFunc).run Try.prog w = .ok (.bool false) w := by kernel_rfl

set_option maxRecDepth 100000 in
set_option maxHeartbeats 2000000 in
theorem list2_T (gf : Nat) (lb : Array Value) (L : List SymV) (w : World) (heg : ∀ args w, (callFunc gf args).run Try.prog w = .ok (.enter gf args) w)
    (hseq : SeqW Fence.wide 2 Try.prog gf lb (fun x : SymV => #[.agg #[.int .i64 x.k, .string x.t, .int .i64 x.n]]) E.KpA (fun xs => xs = L) (fun pre => pre <+: L) w) (hs : L.length ≤ 800000) :
    Calls Try.prog 26 #[.func (.func gf) #[] lb] w fun e w' => ∃ v, e = .returned v ∧ Made w.heap.size w' v L ∧ Below w.heap.size w w' := by
  obtain ⟨i0, hi, hz0, hz1, hz2⟩ := info_parts E.infoS
  refine (callsIn_wide (n := 3)).1 ?_
  refine callsIn_of_wp_marks Try.func26 rfl trivial ?_ rfl
  simp only [Try.ntmps26, List.size_toArray, List.length_cons, List.length_nil, Nat.reduceAdd, Nat.reduceSub, Array.replicate_succ, Array.replicate_zero, List.push_toArray, List.append_toArray, List.nil_append, List.cons_append]
  have hq := eq_nilW gf lb
  gi_wp2_with fail
  have bO := Boxed.new w 29 (.slice none 0 0)
  have hB0 : Below w.heap.size w (w.alloc (.cells #[.slice none 0 0] 29)) := (Below.refl _ w).alloc (Nat.le_refl _) _
  refine wpIn_rangeW rfl (by omega) (gf := gf) (lb := lb) rfl trivial heg hseq (fun h k => h.trans k) (fun W l o o' h hc n₀ => E.KpY.putObj W l o o' h hc) hB0 (fun _ => rfl)
    (fun pre W => (∃ v, Boxed W w.heap.size 29 v ∧ W.ownsRow w.heap.size 26 3 v pre.length (pre.flatMap fun x => [.int .i64 x.k, .string x.t, .int .i64 x.n]) ∧ True) ∧ Below w.heap.size w W)
    (fun _ _ _ => False)
    (OwnFrom.and (Own.from (holdsRow_own w.heap.size w.heap.size 29 26 3 (fun pre : List SymV => pre.length) (fun pre => pre.flatMap fun x => [.int .i64 x.k, .string x.t, .int .i64 x.n]) (fun _ _ => True)) _) (ownFrom_below (Nat.le_refl _) (by simp)))
    (fun _ _ _ _ _ hs _ _ => hs)
    ⟨⟨_, bO, World.ownsRow_nil _ _ _ _, trivial⟩, hB0⟩
    (fun x a' W => ∃ Bx, w.heap.size < Bx ∧ W.heap[Bx]? = some (.cells #[.int .i64 x.k, .string x.t, .int .i64 x.n] 26 (0, 0)) ∧ a' = { tmps := #[.func (.func gf) #[] lb, undef, .slice none 0 0, .pointer (some ⟨w.heap.size, 0, none⟩), .pointer (some ⟨Bx, 0, none⟩), .func (.func gf) #[] lb, .bool false, .func (.func gf) #[] lb, .agg #[.int .i64 x.k, .string x.t, .int .i64 x.n], undef, undef, undef, undef, undef], defers := [] })
    (fun x a' s A B row hs hg hr => by
      obtain ⟨Bx, h1, h2, h3⟩ := hs
      refine ⟨Bx, h1, (hg.block Bx (lt_of_block h2) (fun e => ?_)).trans h2, h3⟩
      obtain ⟨-, o, ho, hc⟩ := hr Bx e.symm
      rw [h2] at ho; cases ho; cases hc)
    ?assign ?body ?done ?stop
  case assign =>
    rintro l pre x W K ⟨⟨v, hv, hrow, -⟩, hB⟩ hK
    gi_wp2
    refine hK _ _ ((KeepsOthers.alloc _ _).from _) (fun n₀ => E.kpy_below ((Below.refl _ W).alloc (Nat.le_refl _) _)) ⟨⟨v, hv.alloc _, hrow.alloc _, trivial⟩, hB.trans ((Below.refl _ W).alloc hB.size _)⟩ ⟨W.heap.size, hv.lt, heap_alloc_new W _, rfl⟩
  case body =>
    rintro l pre x a' W hl ⟨r, hr⟩ ⟨⟨v, hv, hrow, -⟩, hB⟩ ⟨Bx, hBx, bX, rfl⟩ hpre
    have hlt : pre.length < L.length := by have := hpre.length_le; simp at this; omega
    clear hpre
    have hc := hv.cell
    have hm : W.cell? ⟨Bx, 0, none⟩ = some (.int .i64 x.k) ∧ W.cell? ⟨Bx, 1, none⟩ = some (.string x.t) ∧ W.cell? ⟨Bx, 2, none⟩ = some (.int .i64 x.n) := by simp [World.cell?, bX]
    gi_wp2_with (gi_at_builtin; refine wpListIn_append_own _ rfl _ _ 29 rfl w.heap.size 26 i0 (.agg #[.int .i64 0, .string ⟨#[]⟩, .int .i64 0]) 3 32 Try.underlying29 hi hz0 hz1 hz2 rfl (by decide) _ _ _ rfl (hrow.alloc _) ⟨W.heap.size, 0, none⟩ 1 1 [.int .i64 x.k, .string x.t, .int .i64 x.n] rfl rfl (World.news_of_block (cs := #[.int .i64 x.k, .string x.t, .int .i64 x.n]) (t := 26) (fr := (0, 0)) (heap_alloc_new W _)) (by simp [Value.oneCell']) (by unfold maxLen; omega) (by omega) (by have := hB.size; simp; omega) ?_; intro v' w1 hown' hgrow _; obtain ⟨g', cap', rfl⟩ := ownsRow_succ hown'; obtain ⟨hv1, hv2, hr2, hk2, hb2⟩ := hv.appended (by decide) hrow hB.size (Nat.le_refl _) hown' hgrow; have hkp1 : E.KpA W (w1.setCell ⟨w.heap.size, 0, none⟩ (.slice (some ⟨g', 0, none⟩) (pre.length + 1) cap')) := (fun n₀ => E.kpy_step hrow hgrow (by decide) (by decide) (by decide) hv1 (by decide) (by decide) (by decide) (.slice (some ⟨g', 0, none⟩) (pre.length + 1) cap')); have hc1 := hv1.cell; have hf1 := hv1.frozen)
    exact ⟨hk2.from _, hkp1, ⟨_, hv2, by simpa using hr2, trivial⟩, hB.trans hb2⟩
  case done =>
    rintro D ys W hD rfl ⟨⟨v, hv, hrow, hnil⟩, hB⟩ hK
    have hc := hv.cell
    gi_wp2
    refine ⟨by simp, .inl ⟨_, _, rfl, run_takeDeferred hK, ?_⟩⟩
    exact ⟨_, results_tmp rfl _ _ _, v, rfl, ownsRow_putObj hrow _ hK rfl, hB.trans (belowK_b (w := w) (Nat.le_refl _) W D _ _ (by simp at hD; omega) hK rfl rfl)⟩
  case stop =>
    rintro D c pre W _ _ h _
    exact h.elim

set_option maxRecDepth 100000 in
set_option maxHeartbeats 2000000 in
theorem first2_T (gf : Nat) (lb : Array Value) (L : List SymV) (w : World) (k : Nat) (heg : ∀ args w, (callFunc gf args).run Try.prog w = .ok (.enter gf args) w)
    (hseq : SeqW Fence.wide 2 Try.prog gf lb (fun x : SymV => #[.agg #[.int .i64 x.k, .string x.t, .int .i64 x.n]]) E.KpA (fun xs => xs = L) (fun pre => pre <+: L) w) (hs : L.length ≤ 800000) (hk : k ≤ 800000) :
    Calls Try.prog 28 #[.func (.func gf) #[] lb, .int .i64 k] w fun e w' => ∃ v, e = .returned v ∧ Made w.heap.size w' v (L.take k) ∧ Below w.heap.size w w' := by
  obtain ⟨i0, hi, hz0, hz1, hz2⟩ := info_parts E.infoS
  refine (callsIn_wide (n := 3)).1 ?_
  refine callsIn_of_wp_marks Try.func28 rfl trivial ?_ rfl
  simp only [Try.ntmps28, List.size_toArray, List.length_cons, List.length_nil, Nat.reduceAdd, Nat.reduceSub, Array.replicate_succ, Array.replicate_zero, List.push_toArray, List.append_toArray, List.nil_append, List.cons_append]
  have hq := eq_nilW gf lb
  by_cases h1 : 1 ≤ k
  · gi_wp2_with fail
    have bO := Boxed.new (w.alloc (.cells #[.int .i64 k] 3)) 29 (.slice none 0 0)
    have hB0 : Below w.heap.size w ((w.alloc (.cells #[.int .i64 k] 3)).alloc (.cells #[.slice none 0 0] 29)) := ((Below.refl _ w).alloc (Nat.le_refl _) _).alloc (by simp) _
    have hkc : ((w.alloc (.cells #[.int .i64 k] 3)).alloc (.cells #[.slice none 0 0] 29)).cell? ⟨w.heap.size, 0, none⟩ = some (.int .i64 k) := by go_simp
    have hsz : ((w.alloc (.cells #[.int .i64 k] 3)).alloc (.cells #[.slice none 0 0] 29)).heap.size = w.heap.size + 2 := by simp
    simp only [World.size_alloc] at bO
    generalize ((w.alloc (.cells #[.int .i64 k] 3)).alloc (.cells #[.slice none 0 0] 29)) = W2 at bO hB0 hkc hsz ⊢
    refine wpIn_rangeW rfl (by omega) (gf := gf) (lb := lb) rfl trivial heg hseq (fun h k => h.trans k) (fun W l o o' h hc n₀ => E.KpY.putObj W l o o' h hc) hB0 (fun _ => rfl)
      (fun pre W => (∃ v, Boxed W (w.heap.size + 1) 29 v ∧ W.ownsRow (w.heap.size + 1) 26 3 v pre.length (pre.flatMap fun x => [.int .i64 x.k, .string x.t, .int .i64 x.n]) ∧ pre.length < k) ∧ Below (w.heap.size + 1) W2 W)
      (fun c pre W => c = .exit 0 ∧ (∃ v, Boxed W (w.heap.size + 1) 29 v ∧ W.ownsRow (w.heap.size + 1) 26 3 v pre.length (pre.flatMap fun x => [.int .i64 x.k, .string x.t, .int .i64 x.n]) ∧ pre.length = k) ∧ Below (w.heap.size + 1) W2 W)
      (OwnFrom.and (Own.from (holdsRow_own (w.heap.size + 1) (w.heap.size + 1) 29 26 3 (fun pre : List SymV => pre.length) (fun pre => pre.flatMap fun x => [.int .i64 x.k, .string x.t, .int .i64 x.n]) (fun pre _ => pre.length < k)) _) (ownFrom_below (by omega) (by omega)))
      (fun c s A B row hs hg hr => ⟨hs.1, OwnFrom.and (Own.from (holdsRow_own (w.heap.size + 1) (w.heap.size + 1) 29 26 3 (fun pre : List SymV => pre.length) (fun pre => pre.flatMap fun x => [.int .i64 x.k, .string x.t, .int .i64 x.n]) (fun pre _ => pre.length = k)) _) (ownFrom_below (by omega) (by omega)) s A B row hs.2 hg hr⟩)
      ⟨⟨_, bO, World.ownsRow_nil _ _ _ _, h1⟩, Below.refl _ _⟩
      (fun x a' W => ∃ Bx, w.heap.size < Bx ∧ W.heap[Bx]? = some (.cells #[.int .i64 x.k, .string x.t, .int .i64 x.n] 26 (0, 0)) ∧ a' = { tmps := #[.func (.func gf) #[] lb, .int .i64 k, undef, .pointer (some ⟨w.heap.size, 0, none⟩), .slice none 0 0, .pointer (some ⟨w.heap.size + 1, 0, none⟩), .pointer (some ⟨Bx, 0, none⟩), .func (.func gf) #[] lb, .bool false, .bool false, .int .i64 k, .bool (decide ((k : Int) < 1)), .bool (decide ((k : Int) < 1)), .func (.func gf) #[] lb, .agg #[.int .i64 x.k, .string x.t, .int .i64 x.n], undef, undef, undef, undef, undef, undef, undef, undef, undef], defers := [] })
      (fun x a' s A B row hs hg hr => by
        obtain ⟨Bx, h1, h2, h3⟩ := hs
        refine ⟨Bx, h1, (hg.block Bx (lt_of_block h2) (fun e => ?_)).trans h2, h3⟩
        obtain ⟨-, o, ho, hc⟩ := hr Bx e.symm
        rw [h2] at ho; cases ho; cases hc)
      ?assign ?body ?done ?stop
    case assign =>
      rintro l pre x W K ⟨⟨v, hv, hrow, hlk⟩, hB⟩ hK
      have hba : Below W.heap.size W (W.alloc (.cells #[.int .i64 x.k, .string x.t, .int .i64 x.n] 26)) := (Below.refl _ W).alloc (Nat.le_refl _) _
      gi_wp2
      exact hK _ _ ((KeepsOthers.alloc _ _).from _) (fun n₀ => E.kpy_below hba) ⟨⟨v, hv.alloc _, hrow.alloc _, hlk⟩, hB.trans (hba.mono (by have := hB.size; omega))⟩ ⟨W.heap.size, by have := hB.size; omega, heap_alloc_new W _, rfl⟩
    case body =>
      rintro l pre x a' W hl ⟨r, hr⟩ ⟨⟨v, hv, hrow, hlk⟩, hB⟩ ⟨Bx, hBx, bX, rfl⟩ hpre
      have hlt : pre.length < L.length := by have := hpre.length_le; simp at this; omega
      clear hpre
      have hc := hv.cell
      have hm : W.cell? ⟨Bx, 0, none⟩ = some (.int .i64 x.k) ∧ W.cell? ⟨Bx, 1, none⟩ = some (.string x.t) ∧ W.cell? ⟨Bx, 2, none⟩ = some (.int .i64 x.n) := by simp [World.cell?, bX]
      have arm : True := trivial
      by_cases hlast : pre.length + 1 = k
      · have hge : (k : Int) ≤ ((pre.length + 1 : Nat) : Int) := by omega
        have hge2 : (k : Int) ≤ (pre.length : Int) + 1 := by omega
        have Hlast := Lib.hid hlast
        clear hlast
        gi_wp2_with (gi_at_builtin; refine wpListIn_append_own _ rfl _ _ 29 rfl (w.heap.size + 1) 26 i0 (.agg #[.int .i64 0, .string ⟨#[]⟩, .int .i64 0]) 3 32 Try.underlying29 hi hz0 hz1 hz2 rfl (by decide) _ _ _ rfl (hrow.alloc _) ⟨W.heap.size, 0, none⟩ 1 1 [.int .i64 x.k, .string x.t, .int .i64 x.n] rfl rfl (World.news_of_block (cs := #[.int .i64 x.k, .string x.t, .int .i64 x.n]) (t := 26) (fr := (0, 0)) (heap_alloc_new W _)) (by simp [Value.oneCell']) (by unfold maxLen; omega) (by omega) (by have := hB.size; simp; omega) ?_; intro v' w1 hown' hgrow _; obtain ⟨g', cap', rfl⟩ := ownsRow_succ hown'; obtain ⟨hv1, hv2, hr2, hk2, hb2⟩ := hv.appended (by decide) hrow (by have := hB.size; omega) (Nat.le_refl _) hown' hgrow; have hkp1 : E.KpA W (w1.setCell ⟨w.heap.size + 1, 0, none⟩ (.slice (some ⟨g', 0, none⟩) (pre.length + 1) cap')) := (fun n₀ => E.kpy_step hrow hgrow (by decide) (by decide) (by decide) hv1 (by decide) (by decide) (by decide) (.slice (some ⟨g', 0, none⟩) (pre.length + 1) cap')); have hc1 := hv1.cell; have hf1 := hv1.frozen; have hc2 := hv2.cell; have hkc2 := ((hB.trans hb2).cell (p := ⟨w.heap.size, 0, none⟩) (show w.heap.size < _ by omega)).trans hkc)
        exact ⟨hk2.from _, rfl, ⟨_, hv2, by simpa using hr2, by simpa using Hlast.out⟩, hB.trans hb2⟩
      · have hlt2 : ((pre.length + 1 : Nat) : Int) < k := by omega
        have hlt3 : (pre.length : Int) + 1 < k := by omega
        have Hlast : Hid (pre.length + 1 < k) := Lib.hid (by omega)
        clear hlast
        gi_wp2_with (gi_at_builtin; refine wpListIn_append_own _ rfl _ _ 29 rfl (w.heap.size + 1) 26 i0 (.agg #[.int .i64 0, .string ⟨#[]⟩, .int .i64 0]) 3 32 Try.underlying29 hi hz0 hz1 hz2 rfl (by decide) _ _ _ rfl (hrow.alloc _) ⟨W.heap.size, 0, none⟩ 1 1 [.int .i64 x.k, .string x.t, .int .i64 x.n] rfl rfl (World.news_of_block (cs := #[.int .i64 x.k, .string x.t, .int .i64 x.n]) (t := 26) (fr := (0, 0)) (heap_alloc_new W _)) (by simp [Value.oneCell']) (by unfold maxLen; omega) (by omega) (by have := hB.size; simp; omega) ?_; intro v' w1 hown' hgrow _; obtain ⟨g', cap', rfl⟩ := ownsRow_succ hown'; obtain ⟨hv1, hv2, hr2, hk2, hb2⟩ := hv.appended (by decide) hrow (by have := hB.size; omega) (Nat.le_refl _) hown' hgrow; have hkp1 : E.KpA W (w1.setCell ⟨w.heap.size + 1, 0, none⟩ (.slice (some ⟨g', 0, none⟩) (pre.length + 1) cap')) := (fun n₀ => E.kpy_step hrow hgrow (by decide) (by decide) (by decide) hv1 (by decide) (by decide) (by decide) (.slice (some ⟨g', 0, none⟩) (pre.length + 1) cap')); have hc1 := hv1.cell; have hf1 := hv1.frozen; have hc2 := hv2.cell; have hkc2 := ((hB.trans hb2).cell (p := ⟨w.heap.size, 0, none⟩) (show w.heap.size < _ by omega)).trans hkc)
        exact ⟨hk2.from _, hkp1, ⟨_, hv2, by simpa using hr2, by simpa using Hlast.out⟩, hB.trans hb2⟩
    case done =>
      rintro D ys W hD rfl ⟨⟨v, hv, hrow, hnil⟩, hB⟩ hK
      have hc := hv.cell
      gi_wp2
      refine ⟨by simp, .inl ⟨_, _, rfl, run_takeDeferred hK, ?_⟩⟩
      refine ⟨_, results_tmp rfl _ _ _, v, rfl, ?_, (hB0.trans (hB.mono (by omega))).trans (belowK_b (w := w) (Nat.le_refl _) W D _ _ (by omega) hK rfl rfl)⟩
      rw [List.take_of_length_le (by omega)]
      exact World.ownsRow.mono (ownsRow_putObj hrow _ hK rfl) (by omega)
    case stop =>
      rintro D c pre W hD hpre ⟨rfl, ⟨v, hv, hrow, hlk⟩, hB⟩ hK
      have hc := hv.cell
      gi_wp2
      refine ⟨by simp, .inl ⟨_, _, rfl, run_takeDeferred hK, ?_⟩⟩
      refine ⟨_, results_tmp rfl _ _ _, v, rfl, ?_, (hB0.trans (hB.mono (by omega))).trans (belowK_b (w := w) (Nat.le_refl _) W D _ _ (by omega) hK rfl rfl)⟩
      obtain ⟨q, rfl⟩ := hpre
      rw [← hlk, List.take_left']
      · exact World.ownsRow.mono (ownsRow_putObj hrow _ hK rfl) (by omega)
      · rfl
  · obtain rfl : k = 0 := by omega
    gi_wp2_with fail
    refine ⟨_, results_tmp rfl _ _ _, .slice none 0 0, rfl, World.ownsRow_nil _ _ _ _, ((Below.refl _ w).alloc (Nat.le_refl _) _).alloc (by simp) _⟩

end Go.Proofs.Ytbpibbcehfkeeaa.S
