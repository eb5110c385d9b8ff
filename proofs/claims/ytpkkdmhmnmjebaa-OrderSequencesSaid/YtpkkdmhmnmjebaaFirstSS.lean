/- What the statements' First makes of a sequence that stops. Conditions: at most 800000 things come. -/
import Derived.Test.YtpkkdmhmnmjebaaListSS
import Derived.Test.YtpkkdmhmnmjebaaPartSS
import Derived.Maps.AppendAt
import Derived.Deep.AppendLies
import Derived.Deep.Onto
namespace Go.Proofs.Ytpkkdmhmnmjebaa.S
open Go Go.RowKit Go.Shelf

attribute [local go_sem] Oper.semAt_some

set_option maxRecDepth 100000 in
set_option maxHeartbeats 2000000 in
theorem first_T (gf : Nat) (lb : Array Value) (n₀ : Nat) (L : List SymV) (w : World) (k : Nat) (heg : ∀ args w, (callFunc gf args).run Try.prog w = .ok (.enter gf args) w)
    (hseq : SeqStopsK Fence.wide 2 Try.prog gf lb (fun x : SymV => #[.agg #[.int .i64 x.k, .string x.t, .int .i64 x.n]]) (Kp n₀) (fun xs => xs = L) (fun pre => pre <+: L) L.length w) (hs : L.length ≤ 800000) (hk : k ≤ 800000) (hn : n₀ ≤ w.heap.size) :
    Calls Try.prog 34 #[.func (.func gf) #[] lb, .int .i64 k] w fun e w' => ∃ v, e = .returned v ∧ Made w.heap.size w' v (L.take k) ∧ Below w.heap.size w w' := by
  obtain ⟨i0, hi, hz0, hz1, hz2⟩ := info_parts infoT
  refine (callsIn_wide (n := 3)).1 ?_
  refine callsIn_of_wp_marks Try.func34 rfl trivial ?_ rfl
  simp only [Try.ntmps34, List.size_toArray, List.length_cons, List.length_nil, Nat.reduceAdd, Nat.reduceSub, Array.replicate_succ, Array.replicate_zero, List.push_toArray, List.append_toArray, List.nil_append, List.cons_append]
  have hq := eq_nilFunc gf lb
  by_cases h1 : 1 ≤ k
  · gi_wp2_with fail
    have bO := Boxed.new (w.alloc (.cells #[.int .i64 k] 3)) 28 (.slice none 0 0)
    have hB0 : Below w.heap.size w ((w.alloc (.cells #[.int .i64 k] 3)).alloc (.cells #[.slice none 0 0] 28)) := ((Below.refl _ w).alloc (Nat.le_refl _) _).alloc (by simp) _
    have hkc : ((w.alloc (.cells #[.int .i64 k] 3)).alloc (.cells #[.slice none 0 0] 28)).cell? ⟨w.heap.size, 0, none⟩ = some (.int .i64 k) := by go_simp
    have hsz : ((w.alloc (.cells #[.int .i64 k] 3)).alloc (.cells #[.slice none 0 0] 28)).heap.size = w.heap.size + 2 := by simp
    simp only [World.size_alloc] at bO
    generalize ((w.alloc (.cells #[.int .i64 k] 3)).alloc (.cells #[.slice none 0 0] 28)) = W2 at bO hB0 hkc hsz ⊢
    refine wpIn_rangeFunc_ownH rfl (by omega) (gf := gf) (lb := lb) rfl trivial heg hseq (fun h k => h.trans k) (fun W l o o' _ h hc _ => Kp.putObj W l o o' h hc) hB0 (fun _ => rfl)
      (fun pre W => (∃ v, Boxed W (w.heap.size + 1) 28 v ∧ W.ownsRow (w.heap.size + 1) 26 3 v pre.length (pre.flatMap fun x => [.int .i64 x.k, .string x.t, .int .i64 x.n]) ∧ pre.length < k) ∧ Below (w.heap.size + 1) W2 W)
      (fun c pre W => c = .exit 0 ∧ (∃ v, Boxed W (w.heap.size + 1) 28 v ∧ W.ownsRow (w.heap.size + 1) 26 3 v pre.length (pre.flatMap fun x => [.int .i64 x.k, .string x.t, .int .i64 x.n]) ∧ pre.length = k) ∧ Below (w.heap.size + 1) W2 W)
      (OwnFrom.and (Own.from (holdsRow_own (w.heap.size + 1) (w.heap.size + 1) 28 26 3 (fun pre : List SymV => pre.length) (fun pre => pre.flatMap fun x => [.int .i64 x.k, .string x.t, .int .i64 x.n]) (fun pre _ => pre.length < k)) _) (ownFrom_below (by omega) (by omega)))
      (fun c s A B row hs hg hr => ⟨hs.1, OwnFrom.and (Own.from (holdsRow_own (w.heap.size + 1) (w.heap.size + 1) 28 26 3 (fun pre : List SymV => pre.length) (fun pre => pre.flatMap fun x => [.int .i64 x.k, .string x.t, .int .i64 x.n]) (fun pre _ => pre.length = k)) _) (ownFrom_below (by omega) (by omega)) s A B row hs.2 hg hr⟩)
      ⟨⟨_, bO, World.ownsRow_nil _ _ _ _, h1⟩, Below.refl _ _⟩
      (fun x a' W => ∃ Bx, w.heap.size < Bx ∧ W.heap[Bx]? = some (.cells #[.int .i64 x.k, .string x.t, .int .i64 x.n] 26 (0, 0)) ∧ a' = { tmps := #[.func (.func gf) #[] lb, .int .i64 k, undef, .pointer (some ⟨w.heap.size, 0, none⟩), .slice none 0 0, .pointer (some ⟨w.heap.size + 1, 0, none⟩), .pointer (some ⟨Bx, 0, none⟩), .func (.func gf) #[] lb, .bool false, .bool false, .int .i64 k, .bool (decide ((k : Int) < 1)), .bool (decide ((k : Int) < 1)), .func (.func gf) #[] lb, .agg #[.int .i64 x.k, .string x.t, .int .i64 x.n], undef, undef, undef, undef, undef, undef, undef, undef, undef], defers := [] })
      (fun x a' s A B row hs hg hr => by
        obtain ⟨Bx, h1, h2, h3⟩ := hs
        refine ⟨Bx, h1, (hg.block Bx (lt_of_block h2) (fun e => ?_)).trans h2, h3⟩
        obtain ⟨-, o, ho, hc⟩ := hr Bx e.symm
        rw [h2] at ho; cases ho; cases hc)
      ?assign ?body ?done ?stop
    case assign =>
      rintro l pre x W K ⟨⟨v, hv, hrow, hlk⟩, hB⟩ hK
      have hba : Below W.heap.size W (W.alloc (.cells #[.int .i64 x.k, .string x.t, .int .i64 x.n] 26)) := (Below.refl _ W).alloc (Nat.le_refl _) _
      gi_wp2
      exact hK _ _ ((KeepsOthers.alloc _ _).from _) (Kp.of_below (hba.mono (by have := hB.size; omega))) ⟨⟨v, hv.alloc _, hrow.alloc _, hlk⟩, hB.trans (hba.mono (by have := hB.size; omega))⟩ ⟨W.heap.size, by have := hB.size; omega, heap_alloc_new W _, rfl⟩
    case body =>
      rintro l pre x a' W hl ⟨r, hr⟩ ⟨⟨v, hv, hrow, hlk⟩, hB⟩ ⟨Bx, hBx, bX, rfl⟩ hlt
      have hc := hv.cell
      have hm : W.cell? ⟨Bx, 0, none⟩ = some (.int .i64 x.k) ∧ W.cell? ⟨Bx, 1, none⟩ = some (.string x.t) ∧ W.cell? ⟨Bx, 2, none⟩ = some (.int .i64 x.n) := by simp [World.cell?, bX]
      have arm : True := trivial
      by_cases hlast : pre.length + 1 = k
      · have hge : (k : Int) ≤ ((pre.length + 1 : Nat) : Int) := by omega
        have hge2 : (k : Int) ≤ (pre.length : Int) + 1 := by omega
        have Hlast := Lib.hid hlast
        clear hlast
        gi_wp2_with (gi_at_builtin; refine wpListIn_append_own _ rfl _ _ 28 rfl (w.heap.size + 1) 26 i0 (.agg #[.int .i64 0, .string ⟨#[]⟩, .int .i64 0]) 3 32 Try.underlying28 hi hz0 hz1 hz2 rfl (by decide) _ _ _ rfl (hrow.alloc _) ⟨W.heap.size, 0, none⟩ 1 1 [.int .i64 x.k, .string x.t, .int .i64 x.n] rfl rfl (World.news_of_block (cs := #[.int .i64 x.k, .string x.t, .int .i64 x.n]) (t := 26) (fr := (0, 0)) (heap_alloc_new W _)) (by simp [Value.oneCell']) (by unfold maxLen; omega) (by omega) (by have := hB.size; simp; omega) ?_; intro v' w1 hown' hgrow _; obtain ⟨g', cap', rfl⟩ := ownsRow_succ hown'; obtain ⟨hv1, hv2, hr2, hk2, hb2⟩ := hv.appended (by decide) hrow (by have := hB.size; omega) (Nat.le_refl _) hown' hgrow; have hc1 := hv1.cell; have hf1 := hv1.frozen; have hc2 := hv2.cell; have hkc2 := ((hB.trans hb2).cell (p := ⟨w.heap.size, 0, none⟩) (show w.heap.size < _ by omega)).trans hkc)
        exact ⟨hk2.from _, rfl, ⟨_, hv2, by simpa using hr2, by simpa using Hlast.out⟩, hB.trans hb2⟩
      · have hlt2 : ((pre.length + 1 : Nat) : Int) < k := by omega
        have hlt3 : (pre.length : Int) + 1 < k := by omega
        have Hlast : Hid (pre.length + 1 < k) := Lib.hid (by omega)
        clear hlast
        gi_wp2_with (gi_at_builtin; refine wpListIn_append_own _ rfl _ _ 28 rfl (w.heap.size + 1) 26 i0 (.agg #[.int .i64 0, .string ⟨#[]⟩, .int .i64 0]) 3 32 Try.underlying28 hi hz0 hz1 hz2 rfl (by decide) _ _ _ rfl (hrow.alloc _) ⟨W.heap.size, 0, none⟩ 1 1 [.int .i64 x.k, .string x.t, .int .i64 x.n] rfl rfl (World.news_of_block (cs := #[.int .i64 x.k, .string x.t, .int .i64 x.n]) (t := 26) (fr := (0, 0)) (heap_alloc_new W _)) (by simp [Value.oneCell']) (by unfold maxLen; omega) (by omega) (by have := hB.size; simp; omega) ?_; intro v' w1 hown' hgrow _; obtain ⟨g', cap', rfl⟩ := ownsRow_succ hown'; obtain ⟨hv1, hv2, hr2, hk2, hb2⟩ := hv.appended (by decide) hrow (by have := hB.size; omega) (Nat.le_refl _) hown' hgrow; have hc1 := hv1.cell; have hf1 := hv1.frozen; have hc2 := hv2.cell; have hkc2 := ((hB.trans hb2).cell (p := ⟨w.heap.size, 0, none⟩) (show w.heap.size < _ by omega)).trans hkc)
        exact ⟨hk2.from _, Kp.of_below (hb2.mono (by omega)), ⟨_, hv2, by simpa using hr2, by simpa using Hlast.out⟩, hB.trans hb2⟩
    case done =>
      rintro D ys W hD rfl ⟨⟨v, hv, hrow, hnil⟩, hB⟩ hK
      have hc := hv.cell
      gi_wp2
      refine ⟨by simp, .inl ⟨_, _, rfl, run_takeDeferred hK, ?_⟩⟩
      refine ⟨_, results_tmp rfl _ _ _, v, rfl, ?_, (hB0.trans (hB.mono (by omega))).trans (belowK_b (w := w) (Nat.le_refl _) W D _ _ (by omega) hK rfl rfl)⟩
      rw [List.take_of_length_le (by omega)]
      exact World.ownsRow.mono (ownsRow_putObj hrow _ hK rfl) (by omega)
    case stop =>
      rintro D c pre W hD hpre ⟨rfl, ⟨v, hv, hrow, hlk⟩, hB⟩ hK
      have hc := hv.cell
      gi_wp2
      refine ⟨by simp, .inl ⟨_, _, rfl, run_takeDeferred hK, ?_⟩⟩
      refine ⟨_, results_tmp rfl _ _ _, v, rfl, ?_, (hB0.trans (hB.mono (by omega))).trans (belowK_b (w := w) (Nat.le_refl _) W D _ _ (by omega) hK rfl rfl)⟩
      obtain ⟨q, rfl⟩ := hpre
      rw [← hlk, List.take_left']
      · exact World.ownsRow.mono (ownsRow_putObj hrow _ hK rfl) (by omega)
      · rfl
  · obtain rfl : k = 0 := by omega
    gi_wp2_with fail
    refine ⟨_, results_tmp rfl _ _ _, .slice none 0 0, rfl, World.ownsRow_nil _ _ _ _, ((Below.refl _ w).alloc (Nat.le_refl _) _).alloc (by simp) _⟩

end Go.Proofs.Ytpkkdmhmnmjebaa.S
