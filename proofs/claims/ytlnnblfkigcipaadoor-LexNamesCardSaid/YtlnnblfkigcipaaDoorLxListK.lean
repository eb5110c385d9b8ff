/- What List, All make of a text's tokens. Conditions: the text is not too long; the tables lie as the program lays them. -/
import Derived.Test.YtlnnblfkigcipaaDoorLxAppK
namespace Go.Proofs.YtlnnblfkigcipaaDoor
open Go Go.RowKit Go.Shelf

attribute [local go_sem] Oper.semAt_some

theorem infoTok : (Tryd.prog.info? 30).map (fun i => (i.zero, i.size, i.bytes)) = some (some (.agg #[.int .i64 0, .string ⟨#[]⟩, .int .i64 0]), 3, 32) := by kernel_rfl

/-- v is a slice of the tokens xs, in memory of the call's own. -/
def Made (B : Nat) (W : World) (v : Value) (xs : List SymV) : Prop := W.ownsRow B 30 3 v xs.length (xs.flatMap fun x => [.int .i64 x.k, .string x.t, .int .i64 x.n])

theorem eq_nilFunc (gf : Nat) (lb : Array Value) (w : World) : (binOp .eql 32 (.func (.func gf) #[] lb) .nilFunc).run Tryd.prog w = .ok (.bool false) w := by kernel_rfl

set_option maxRecDepth 100000 in
set_option maxHeartbeats 2000000 in
theorem list_T (gf : Nat) (lb : Array Value) (n₀ : Nat) (L : List SymV) (w : World) (heg : ∀ args w, (callFunc gf args).run Tryd.prog w = .ok (.enter gf args) w)
    (hseq : SeqStopsK Fence.wide 2 Tryd.prog gf lb (fun x : SymV => #[.agg #[.int .i64 x.k, .string x.t, .int .i64 x.n]]) (Kq n₀) (fun xs => xs = L) (fun pre => pre <+: L) L.length w) (hs : L.length ≤ 800000) (hn : n₀ ≤ w.heap.size) :
    Calls Tryd.prog 13 #[.func (.func gf) #[] lb] w fun e w' => ∃ v, e = .returned v ∧ Made w.heap.size w' v L ∧ Below w.heap.size w w' := by
  obtain ⟨i0, hi, hz0, hz1, hz2⟩ := info_parts infoTok
  refine (callsIn_wide (n := 3)).1 ?_
  refine callsIn_of_wp_marks Tryd.func13 rfl trivial ?_ rfl
  simp only [Tryd.ntmps13, List.size_toArray, List.length_cons, List.length_nil, Nat.reduceAdd, Nat.reduceSub, Array.replicate_succ, Array.replicate_zero, List.push_toArray, List.append_toArray, List.nil_append, List.cons_append]
  have hq := eq_nilFunc gf lb
  gi_wp2_with fail
  have bO := Boxed.new w 26 (.slice none 0 0)
  have hB0 : Below w.heap.size w (w.alloc (.cells #[.slice none 0 0] 26)) := (Below.refl _ w).alloc (Nat.le_refl _) _
  refine wpIn_rangeFunc_ownH rfl (by omega) (gf := gf) (lb := lb) rfl trivial heg hseq (fun h k => h.trans k) (fun W l o o' _ h hc _ => Kq.putObj W l o o' h hc) hB0 (fun _ => rfl)
    (fun pre W => (∃ v, Boxed W w.heap.size 26 v ∧ W.ownsRow w.heap.size 30 3 v pre.length (pre.flatMap fun x => [.int .i64 x.k, .string x.t, .int .i64 x.n]) ∧ (pre.length = 0 → v = .slice none 0 0)) ∧ Below w.heap.size w W)
    (fun _ _ _ => False)
    (OwnFrom.and (Own.from (holdsRow_own w.heap.size w.heap.size 26 30 3 (fun pre : List SymV => pre.length) (fun pre => pre.flatMap fun x => [.int .i64 x.k, .string x.t, .int .i64 x.n]) (fun pre v => (pre.length = 0 → v = .slice none 0 0))) _) (ownFrom_below (Nat.le_refl _) (by simp)))
    (fun _ _ _ _ _ hs _ _ => hs)
    ⟨⟨_, bO, World.ownsRow_nil _ _ _ _, fun _ => rfl⟩, hB0⟩
    (fun x a' W => ∃ Bx, w.heap.size < Bx ∧ W.heap[Bx]? = some (.cells #[.int .i64 x.k, .string x.t, .int .i64 x.n] 30 (0, 0)) ∧ a' = { tmps := #[.func (.func gf) #[] lb, undef, .slice none 0 0, .pointer (some ⟨w.heap.size, 0, none⟩), .pointer (some ⟨Bx, 0, none⟩), .func (.func gf) #[] lb, .bool false, .func (.func gf) #[] lb, .agg #[.int .i64 x.k, .string x.t, .int .i64 x.n], undef, undef, undef, undef, undef], defers := [] })
    (fun x a' s A B row hs hg hr => by
      obtain ⟨Bx, h1, h2, h3⟩ := hs
      refine ⟨Bx, h1, (hg.block Bx (lt_of_block h2) (fun e => ?_)).trans h2, h3⟩
      obtain ⟨-, o, ho, hc⟩ := hr Bx e.symm
      rw [h2] at ho; cases ho; cases hc)
    ?assign ?body ?done ?stop
  case assign =>
    rintro l pre x W K ⟨⟨v, hv, hrow, hnil⟩, hB⟩ hK
    gi_wp2
    refine hK _ _ ((KeepsOthers.alloc _ _).from _) (Kq.of_below ((Below.refl _ W).alloc (Nat.le_refl _) _)) ⟨⟨v, hv.alloc _, hrow.alloc _, hnil⟩, hB.trans ((Below.refl _ W).alloc hB.size _)⟩ ⟨W.heap.size, hv.lt, heap_alloc_new W _, rfl⟩
  case body =>
    rintro l pre x a' W hl ⟨r, hr⟩ ⟨⟨v, hv, hrow, hnil⟩, hB⟩ ⟨Bx, hBx, bX, rfl⟩ hlt
    have hc := hv.cell
    obtain ⟨m0, m1, m2⟩ := mem_tok bX
    have Hnil := Lib.hid hnil
    clear hnil
    gi_wp2_with (gi_at_builtin; refine wpListIn_append_keep _ rfl _ _ 26 rfl w.heap.size 30 i0 (.agg #[.int .i64 0, .string ⟨#[]⟩, .int .i64 0]) 3 32 Tryd.underlying26 hi hz0 hz1 hz2 rfl (by decide) _ _ _ rfl (hrow.alloc _) Hnil.out ⟨W.heap.size, 0, none⟩ 1 1 [.int .i64 x.k, .string x.t, .int .i64 x.n] rfl (by decide) rfl (World.news_of_block (cs := #[.int .i64 x.k, .string x.t, .int .i64 x.n]) (t := 30) (fr := (0, 0)) (heap_alloc_new W _)) (by simp [Value.oneCell']) (by unfold maxLen; omega) (by omega) (by have := hB.size; simp; omega) ?_; intro v' w1 hown' hgrow hkeep; obtain ⟨g', cap', rfl⟩ := ownsRow_succ hown'; obtain ⟨hv1, hv2, hr2, hk2, hb2⟩ := hv.appended (by decide) hrow hB.size (Nat.le_refl _) hown' hgrow; have hkq := kq_append (v' := .slice (some ⟨g', 0, none⟩) (pre.length + 1) cap') hv (by decide) (by decide) hrow (Nat.le_refl _) hgrow hkeep hv1; have hc1 := hv1.cell; have hf1 := hv1.frozen)
    exact ⟨hk2.from _, ⟨fun b c T f hb h => hkq.1 b c T f (by omega) h, hkq.2⟩, ⟨_, hv2, by simpa using hr2, fun h => by simp at h⟩, hB.trans hb2⟩
  case done =>
    rintro D ys W hD rfl ⟨⟨v, hv, hrow, hnil⟩, hB⟩ hK
    have hc := hv.cell
    gi_wp2
    refine ⟨by simp, .inl ⟨_, _, rfl, run_takeDeferred hK, ?_⟩⟩
    exact ⟨_, results_tmp rfl _ _ _, v, rfl, ownsRow_putObj hrow _ hK rfl, hB.trans (belowK_b (w := w) (Nat.le_refl _) W D _ _ (by simp at hD; omega) hK rfl rfl)⟩
  case stop =>
    rintro D c pre W _ _ h _
    exact h.elim

set_option maxRecDepth 100000 in
set_option maxHeartbeats 2000000 in
theorem first_T (gf : Nat) (lb : Array Value) (n₀ : Nat) (L : List SymV) (w : World) (k : Nat) (heg : ∀ args w, (callFunc gf args).run Tryd.prog w = .ok (.enter gf args) w)
    (hseq : SeqStopsK Fence.wide 2 Tryd.prog gf lb (fun x : SymV => #[.agg #[.int .i64 x.k, .string x.t, .int .i64 x.n]]) (Kq n₀) (fun xs => xs = L) (fun pre => pre <+: L) L.length w) (hs : L.length ≤ 800000) (hk : k ≤ 800000) (hn : n₀ ≤ w.heap.size) :
    Calls Tryd.prog 16 #[.func (.func gf) #[] lb, .int .i64 k] w fun e w' => ∃ v, e = .returned v ∧ Made w.heap.size w' v (L.take k) ∧ Below w.heap.size w w' := by
  obtain ⟨i0, hi, hz0, hz1, hz2⟩ := info_parts infoTok
  refine (callsIn_wide (n := 3)).1 ?_
  refine callsIn_of_wp_marks Tryd.func16 rfl trivial ?_ rfl
  simp only [Tryd.ntmps16, List.size_toArray, List.length_cons, List.length_nil, Nat.reduceAdd, Nat.reduceSub, Array.replicate_succ, Array.replicate_zero, List.push_toArray, List.append_toArray, List.nil_append, List.cons_append]
  have hq := eq_nilFunc gf lb
  by_cases h1 : 1 ≤ k
  · gi_wp2_with fail
    have bO := Boxed.new (w.alloc (.cells #[.int .i64 k] 3)) 26 (.slice none 0 0)
    have hB0 : Below w.heap.size w ((w.alloc (.cells #[.int .i64 k] 3)).alloc (.cells #[.slice none 0 0] 26)) := ((Below.refl _ w).alloc (Nat.le_refl _) _).alloc (by simp) _
    have hkc : ((w.alloc (.cells #[.int .i64 k] 3)).alloc (.cells #[.slice none 0 0] 26)).cell? ⟨w.heap.size, 0, none⟩ = some (.int .i64 k) := by go_simp
    have hsz : ((w.alloc (.cells #[.int .i64 k] 3)).alloc (.cells #[.slice none 0 0] 26)).heap.size = w.heap.size + 2 := by simp
    simp only [World.size_alloc] at bO
    generalize ((w.alloc (.cells #[.int .i64 k] 3)).alloc (.cells #[.slice none 0 0] 26)) = W2 at bO hB0 hkc hsz ⊢
    refine wpIn_rangeFunc_ownH rfl (by omega) (gf := gf) (lb := lb) rfl trivial heg hseq (fun h k => h.trans k) (fun W l o o' _ h hc _ => Kq.putObj W l o o' h hc) hB0 (fun _ => rfl)
      (fun pre W => (∃ v, Boxed W (w.heap.size + 1) 26 v ∧ W.ownsRow (w.heap.size + 1) 30 3 v pre.length (pre.flatMap fun x => [.int .i64 x.k, .string x.t, .int .i64 x.n]) ∧ (pre.length < k ∧ (pre.length = 0 → v = .slice none 0 0))) ∧ Below (w.heap.size + 1) W2 W)
      (fun c pre W => c = .exit 0 ∧ (∃ v, Boxed W (w.heap.size + 1) 26 v ∧ W.ownsRow (w.heap.size + 1) 30 3 v pre.length (pre.flatMap fun x => [.int .i64 x.k, .string x.t, .int .i64 x.n]) ∧ pre.length = k) ∧ Below (w.heap.size + 1) W2 W)
      (OwnFrom.and (Own.from (holdsRow_own (w.heap.size + 1) (w.heap.size + 1) 26 30 3 (fun pre : List SymV => pre.length) (fun pre => pre.flatMap fun x => [.int .i64 x.k, .string x.t, .int .i64 x.n]) (fun pre v => pre.length < k ∧ (pre.length = 0 → v = .slice none 0 0))) _) (ownFrom_below (by omega) (by omega)))
      (fun c s A B row hs hg hr => ⟨hs.1, OwnFrom.and (Own.from (holdsRow_own (w.heap.size + 1) (w.heap.size + 1) 26 30 3 (fun pre : List SymV => pre.length) (fun pre => pre.flatMap fun x => [.int .i64 x.k, .string x.t, .int .i64 x.n]) (fun pre _ => pre.length = k)) _) (ownFrom_below (by omega) (by omega)) s A B row hs.2 hg hr⟩)
      ⟨⟨_, bO, World.ownsRow_nil _ _ _ _, h1, fun _ => rfl⟩, Below.refl _ _⟩
      (fun x a' W => ∃ Bx, w.heap.size < Bx ∧ W.heap[Bx]? = some (.cells #[.int .i64 x.k, .string x.t, .int .i64 x.n] 30 (0, 0)) ∧ a' = { tmps := #[.func (.func gf) #[] lb, .int .i64 k, undef, .pointer (some ⟨w.heap.size, 0, none⟩), .slice none 0 0, .pointer (some ⟨w.heap.size + 1, 0, none⟩), .pointer (some ⟨Bx, 0, none⟩), .func (.func gf) #[] lb, .bool false, .bool false, .int .i64 k, .bool (decide ((k : Int) < 1)), .bool (decide ((k : Int) < 1)), .func (.func gf) #[] lb, .agg #[.int .i64 x.k, .string x.t, .int .i64 x.n], undef, undef, undef, undef, undef, undef, undef, undef, undef], defers := [] })
      (fun x a' s A B row hs hg hr => by
        obtain ⟨Bx, h1, h2, h3⟩ := hs
        refine ⟨Bx, h1, (hg.block Bx (lt_of_block h2) (fun e => ?_)).trans h2, h3⟩
        obtain ⟨-, o, ho, hc⟩ := hr Bx e.symm
        rw [h2] at ho; cases ho; cases hc)
      ?assign ?body ?done ?stop
    case assign =>
      rintro l pre x W K ⟨⟨v, hv, hrow, hlk, hnil⟩, hB⟩ hK
      have hba : Below W.heap.size W (W.alloc (.cells #[.int .i64 x.k, .string x.t, .int .i64 x.n] 30)) := (Below.refl _ W).alloc (Nat.le_refl _) _
      gi_wp2
      exact hK _ _ ((KeepsOthers.alloc _ _).from _) (Kq.of_below hba) ⟨⟨v, hv.alloc _, hrow.alloc _, hlk, hnil⟩, hB.trans (hba.mono (by have := hB.size; omega))⟩ ⟨W.heap.size, by have := hB.size; omega, heap_alloc_new W _, rfl⟩
    case body =>
      rintro l pre x a' W hl ⟨r, hr⟩ ⟨⟨v, hv, hrow, hlk, hnil⟩, hB⟩ ⟨Bx, hBx, bX, rfl⟩ hlt
      have Hnil := Lib.hid hnil
      clear hnil
      have hc := hv.cell
      obtain ⟨m0, m1, m2⟩ := mem_tok bX
      have arm : True := trivial
      by_cases hlast : pre.length + 1 = k
      · have hge : (k : Int) ≤ ((pre.length + 1 : Nat) : Int) := by omega
        have hge2 : (k : Int) ≤ (pre.length : Int) + 1 := by omega
        have Hlast := Lib.hid hlast
        clear hlast
        gi_wp2_with (gi_at_builtin; refine wpListIn_append_keep _ rfl _ _ 26 rfl (w.heap.size + 1) 30 i0 (.agg #[.int .i64 0, .string ⟨#[]⟩, .int .i64 0]) 3 32 Tryd.underlying26 hi hz0 hz1 hz2 rfl (by decide) _ _ _ rfl (hrow.alloc _) Hnil.out ⟨W.heap.size, 0, none⟩ 1 1 [.int .i64 x.k, .string x.t, .int .i64 x.n] rfl (by decide) rfl (World.news_of_block (cs := #[.int .i64 x.k, .string x.t, .int .i64 x.n]) (t := 30) (fr := (0, 0)) (heap_alloc_new W _)) (by simp [Value.oneCell']) (by unfold maxLen; omega) (by omega) (by have := hB.size; simp; omega) ?_; intro v' w1 hown' hgrow hkeep; obtain ⟨g', cap', rfl⟩ := ownsRow_succ hown'; obtain ⟨hv1, hv2, hr2, hk2, hb2⟩ := hv.appended (by decide) hrow (by have := hB.size; omega) (Nat.le_refl _) hown' hgrow; have hkq := kq_append (v' := .slice (some ⟨g', 0, none⟩) (pre.length + 1) cap') hv (by decide) (by decide) hrow (Nat.le_refl _) hgrow hkeep hv1; have hc1 := hv1.cell; have hf1 := hv1.frozen; have hc2 := hv2.cell; have hkc2 := ((hB.trans hb2).cell (p := ⟨w.heap.size, 0, none⟩) (show w.heap.size < _ by omega)).trans hkc)
        exact ⟨hk2.from _, rfl, ⟨_, hv2, by simpa using hr2, by simpa using Hlast.out⟩, hB.trans hb2⟩
      · have hlt2 : ((pre.length + 1 : Nat) : Int) < k := by omega
        have hlt3 : (pre.length : Int) + 1 < k := by omega
        have Hlast : Hid (pre.length + 1 < k) := Lib.hid (by omega)
        clear hlast
        gi_wp2_with (gi_at_builtin; refine wpListIn_append_keep _ rfl _ _ 26 rfl (w.heap.size + 1) 30 i0 (.agg #[.int .i64 0, .string ⟨#[]⟩, .int .i64 0]) 3 32 Tryd.underlying26 hi hz0 hz1 hz2 rfl (by decide) _ _ _ rfl (hrow.alloc _) Hnil.out ⟨W.heap.size, 0, none⟩ 1 1 [.int .i64 x.k, .string x.t, .int .i64 x.n] rfl (by decide) rfl (World.news_of_block (cs := #[.int .i64 x.k, .string x.t, .int .i64 x.n]) (t := 30) (fr := (0, 0)) (heap_alloc_new W _)) (by simp [Value.oneCell']) (by unfold maxLen; omega) (by omega) (by have := hB.size; simp; omega) ?_; intro v' w1 hown' hgrow hkeep; obtain ⟨g', cap', rfl⟩ := ownsRow_succ hown'; obtain ⟨hv1, hv2, hr2, hk2, hb2⟩ := hv.appended (by decide) hrow (by have := hB.size; omega) (Nat.le_refl _) hown' hgrow; have hkq := kq_append (v' := .slice (some ⟨g', 0, none⟩) (pre.length + 1) cap') hv (by decide) (by decide) hrow (Nat.le_refl _) hgrow hkeep hv1; have hc1 := hv1.cell; have hf1 := hv1.frozen; have hc2 := hv2.cell; have hkc2 := ((hB.trans hb2).cell (p := ⟨w.heap.size, 0, none⟩) (show w.heap.size < _ by omega)).trans hkc)
        exact ⟨hk2.from _, ⟨fun b c T f hb h => hkq.1 b c T f (by omega) h, hkq.2⟩, ⟨_, hv2, by simpa using hr2, by simpa using Hlast.out, fun h => by simp at h⟩, hB.trans hb2⟩
    case done =>
      rintro D ys W hD rfl ⟨⟨v, hv, hrow, hnil⟩, hB⟩ hK
      have hc := hv.cell
      gi_wp2
      refine ⟨by simp, .inl ⟨_, _, rfl, run_takeDeferred hK, ?_⟩⟩
      refine ⟨_, results_tmp rfl _ _ _, v, rfl, ?_, (hB0.trans (hB.mono (by omega))).trans (belowK_b (w := w) (Nat.le_refl _) W D _ _ (by omega) hK rfl rfl)⟩
      rw [List.take_of_length_le (by omega)]
      exact World.ownsRow.mono (ownsRow_putObj hrow _ hK rfl) (by omega)
    case stop =>
      rintro D c pre W hD hpre ⟨rfl, ⟨v, hv, hrow, hlk⟩, hB⟩ hK
      have hc := hv.cell
      gi_wp2
      refine ⟨by simp, .inl ⟨_, _, rfl, run_takeDeferred hK, ?_⟩⟩
      refine ⟨_, results_tmp rfl _ _ _, v, rfl, ?_, (hB0.trans (hB.mono (by omega))).trans (belowK_b (w := w) (Nat.le_refl _) W D _ _ (by omega) hK rfl rfl)⟩
      obtain ⟨q, rfl⟩ := hpre
      rw [← hlk, List.take_left']
      · exact World.ownsRow.mono (ownsRow_putObj hrow _ hK rfl) (by omega)
      · rfl
  · obtain rfl : k = 0 := by omega
    gi_wp2_with fail
    refine ⟨_, results_tmp rfl _ _ _, .slice none 0 0, rfl, World.ownsRow_nil _ _ _ _, ((Below.refl _ w).alloc (Nat.le_refl _) _).alloc (by simp) _⟩

theorem toks_len (N : Nat) : ∀ (f : Nat) (l : List UInt8), l.length < f → (toks N f l).length ≤ l.length + 1 := by
  intro f
  induction f with
  | zero => intro l h; omega
  | succ f ih =>
    intro l h
    unfold toks
    split
    · simp
    · rename_i hn
      split
      · simp
      · have := meas_pos (skipM false l); have := meas_le _ hn; have := skip_le false l
        have h2 := ih ((skipM false l).drop (measL (skipM false l)).2) (by simp; omega)
        simp only [List.length_cons, List.length_drop] at h2 ⊢
        omega

theorem toksA_len (l : List UInt8) : (toksA l).length ≤ l.length + 1 := toks_len _ _ _ (by omega)

set_option maxRecDepth 100000 in
set_option maxHeartbeats 2000000 in
theorem all_T (w : World) (t : ByteArray) (hm : t.size ≤ 100000) (hE : EnvX w) (hn : 7 ≤ w.heap.size) :
    Calls Tryd.prog 12 #[.string t] w fun e w' => ∃ v, e = .returned v ∧ Made w.heap.size w' v (toksA t.data.toList) ∧ Below w.heap.size w w' := by
  obtain ⟨i0, hi, hz0, hz1, hz2⟩ := info_parts infoTok
  have hlen := toksA_len t.data.toList
  rw [← size_list] at hlen
  obtain ⟨L, hL⟩ : ∃ L, toksA t.data.toList = L := ⟨_, rfl⟩
  rw [hL] at hlen ⊢
  refine (callsIn_wide (n := 3)).1 ?_
  refine callsIn_of_wp_marks Tryd.func12 rfl trivial ?_ rfl
  simp only [Tryd.ntmps12, List.size_toArray, List.length_cons, List.length_nil, Nat.reduceAdd, Nat.reduceSub, Array.replicate_succ, Array.replicate_zero, List.push_toArray, List.append_toArray, List.nil_append, List.cons_append]
  gi_wp2_with fail
  refine ⟨trivial, (callsIn_wide.2 (tokens_T _ t)).mono ?_⟩
  rintro e w1 ⟨rfl, rfl⟩
  have bO := (Boxed.new w 26 (.slice none 0 0)).alloc (.cells #[.string t] 9)
  have hB0 : Below w.heap.size w ((w.alloc (.cells #[.slice none 0 0] 26)).alloc (.cells #[.string t] 9)) := ((Below.refl _ w).alloc (Nat.le_refl _) _).alloc (by simp) _
  have hbt : ((w.alloc (.cells #[.slice none 0 0] 26)).alloc (.cells #[.string t] 9)).heap[w.heap.size + 1]? = some (.cells #[.string t] 9 (0, 0)) := by simpa using heap_alloc_new (w.alloc (.cells #[.slice none 0 0] 26)) (.cells #[.string t] 9)
  have hsz : ((w.alloc (.cells #[.slice none 0 0] 26)).alloc (.cells #[.string t] 9)).heap.size = w.heap.size + 2 := by simp
  gi_wp2_with fail
  generalize ((w.alloc (.cells #[.slice none 0 0] 26)).alloc (.cells #[.string t] 9)) = W2 at bO hB0 hbt hsz ⊢
  have hseq := tokens_stops 2 w.heap.size (w.heap.size + 1) t W2 hm hbt (hE.below hB0) hn
  rw [hL] at hseq
  clear hL
  have hl8 : L.length ≤ 800000 := by omega
  have hgb : Below (w.heap.size + 1) W2 W2 := Below.refl _ _
  refine wpIn_rangeFunc_ownH rfl (by omega) (gf := 21) (lb := #[.pointer (some ⟨w.heap.size + 1, 0, none⟩)]) rfl trivial (enters_of Tryd.func21 (by kernel_rfl) rfl) hseq (fun h k => h.trans k) (fun W l o o' _ h hc _ => Kq.putObj W l o o' h hc) (Below.refl _ _) (fun _ => rfl)
    (fun pre W => (∃ v, Boxed W w.heap.size 26 v ∧ W.ownsRow w.heap.size 30 3 v pre.length (pre.flatMap fun x => [.int .i64 x.k, .string x.t, .int .i64 x.n]) ∧ (pre.length = 0 → v = .slice none 0 0)) ∧ Below w.heap.size W2 W)
    (fun _ _ _ => False)
    (OwnFrom.and (Own.from (holdsRow_own w.heap.size w.heap.size 26 30 3 (fun pre : List SymV => pre.length) (fun pre => pre.flatMap fun x => [.int .i64 x.k, .string x.t, .int .i64 x.n]) (fun pre v => (pre.length = 0 → v = .slice none 0 0))) _) (ownFrom_below (by omega) (by omega)))
    (fun _ _ _ _ _ hs _ _ => hs)
    ⟨⟨_, bO, World.ownsRow_nil _ _ _ _, fun _ => rfl⟩, Below.refl _ _⟩
    (fun x a' W => ∃ Bx, w.heap.size < Bx ∧ W.heap[Bx]? = some (.cells #[.int .i64 x.k, .string x.t, .int .i64 x.n] 30 (0, 0)) ∧ a' = { tmps := #[.string t, undef, .slice none 0 0, .pointer (some ⟨w.heap.size, 0, none⟩), .pointer (some ⟨Bx, 0, none⟩), .string t, .func (.func 21) #[] #[.pointer (some ⟨w.heap.size + 1, 0, none⟩)], .agg #[.int .i64 x.k, .string x.t, .int .i64 x.n], undef, undef, undef, undef, undef], defers := [] })
    (fun x a' s A B row hs hg hr => by
      obtain ⟨Bx, h1, h2, h3⟩ := hs
      refine ⟨Bx, h1, (hg.block Bx (lt_of_block h2) (fun e => ?_)).trans h2, h3⟩
      obtain ⟨-, o, ho, hc⟩ := hr Bx e.symm
      rw [h2] at ho; cases ho; cases hc)
    ?assign ?body ?done ?stop
  case assign =>
    rintro l pre x W K ⟨⟨v, hv, hrow, hnil⟩, hB⟩ hK
    have hba : Below W.heap.size W (W.alloc (.cells #[.int .i64 x.k, .string x.t, .int .i64 x.n] 30)) := (Below.refl _ W).alloc (Nat.le_refl _) _
    gi_wp2
    refine hK _ _ ((KeepsOthers.alloc _ _).from _) (Kq.of_below hba) ⟨⟨v, hv.alloc _, hrow.alloc _, hnil⟩, hB.trans (hba.mono (by have := hB.size; omega))⟩ ⟨W.heap.size, hv.lt, heap_alloc_new W _, rfl⟩
  case body =>
    rintro l pre x a' W hl ⟨r, hr⟩ ⟨⟨v, hv, hrow, hnil⟩, hB⟩ ⟨Bx, hBx, bX, rfl⟩ hlt
    have hc := hv.cell
    obtain ⟨m0, m1, m2⟩ := mem_tok bX
    have Hnil := Lib.hid hnil
    clear hnil
    gi_wp2_with (gi_at_builtin; refine wpListIn_append_keep _ rfl _ _ 26 rfl w.heap.size 30 i0 (.agg #[.int .i64 0, .string ⟨#[]⟩, .int .i64 0]) 3 32 Tryd.underlying26 hi hz0 hz1 hz2 rfl (by decide) _ _ _ rfl (hrow.alloc _) Hnil.out ⟨W.heap.size, 0, none⟩ 1 1 [.int .i64 x.k, .string x.t, .int .i64 x.n] rfl (by decide) rfl (World.news_of_block (cs := #[.int .i64 x.k, .string x.t, .int .i64 x.n]) (t := 30) (fr := (0, 0)) (heap_alloc_new W _)) (by simp [Value.oneCell']) (by unfold maxLen; omega) (by omega) (by have := hB.size; simp; omega) ?_; intro v' w1 hown' hgrow hkeep; obtain ⟨g', cap', rfl⟩ := ownsRow_succ hown'; obtain ⟨hv1, hv2, hr2, hk2, hb2⟩ := hv.appended (by decide) hrow (by have := hB.size; omega) (Nat.le_refl _) hown' hgrow; have hkq := kq_append (v' := .slice (some ⟨g', 0, none⟩) (pre.length + 1) cap') hv (by decide) (by decide) hrow (Nat.le_refl _) hgrow hkeep hv1; have hc1 := hv1.cell; have hf1 := hv1.frozen)
    exact ⟨hk2.from _, ⟨fun b c T f hb h => hkq.1 b c T f (by omega) h, hkq.2⟩, ⟨_, hv2, by simpa using hr2, fun h => by simp at h⟩, hB.trans hb2⟩
  case done =>
    rintro D ys W hD rfl ⟨⟨v, hv, hrow, hnil⟩, hB⟩ hK
    have hc := hv.cell
    gi_wp2
    refine ⟨by simp, .inl ⟨_, _, rfl, run_takeDeferred hK, ?_⟩⟩
    exact ⟨_, results_tmp rfl _ _ _, v, rfl, ownsRow_putObj hrow _ hK rfl, (hB0.trans hB).trans (belowK_b (w := w) (Nat.le_refl _) W D _ _ (by omega) hK rfl rfl)⟩
  case stop =>
    rintro D c pre W _ _ h _
    exact h.elim

end Go.Proofs.YtlnnblfkigcipaaDoor
