/- What the statements' List and First make of a sequence of numbers that may change things on its way. Conditions: at most 100000 numbers. -/
import Derived.Test.YtckdojneogeblaaQKeep
import Derived.RangeFuncBox
import Derived.Maps.AppendAt
import Derived.Shelf.Abstract
namespace Go.Proofs.Ytckdojneogeblaa.QI
open Go Go.RowKit Go.Shelf

attribute [local go_sem] Oper.semAt_some

/-- The block of a slice. -/
def ob (v : Value) : Option Nat := (endOf v).map (·.1)

theorem eq_nilFunc (gf : Nat) (lb : Array Value) (w : World) : (binOp .eql 40 (.func (.func gf) #[] lb) .nilFunc).run Try.prog w = .ok (.bool false) w := by kernel_rfl

/-- What the caller of a loop holds on to: G behind pre, Gm ahead of x, while the loop's own slice lies in block r. -/
structure Host (n m : Nat) (Rq : List Int → World → Prop) (Mv : List Int → Int → World → World → Prop) (Me : List Int → World → World → Prop) (S Sp : List Int → Prop) (Kp : World → World → Prop) (G : List Int → Option Nat → World → Prop) (Gm : List Int → Int → Option Nat → World → Prop) : Prop where
  rq : ∀ pre r W, G pre r W → Rq pre W
  mv : ∀ pre x r W W2, m ≤ W.heap.size → G pre r W → Mv pre x W W2 → Gm pre x r W2 ∧ W.heap.size ≤ W2.heap.size ∧ ∀ k, n ≤ k → k < W.heap.size → W2.heap[k]? = W.heap[k]?
  me : ∀ pre r W W2, m ≤ W.heap.size → S pre → G pre r W → Me pre W W2 → G pre r W2 ∧ W.heap.size ≤ W2.heap.size ∧ ∀ k, n ≤ k → k < W.heap.size → W2.heap[k]? = W.heap[k]?
  mvK : ∀ pre x W1 W2, Mv pre x W1 W2 → KeepsFrom 0 W1 W2
  meK : ∀ pre W1 W2, Me pre W1 W2 → KeepsFrom 0 W1 W2
  st : ∀ pre r W W' row, n ≤ W.heap.size → G pre r W → W.grownBy W' row → (∀ q, row = some q → n ≤ q ∧ ∃ o : Obj, W.heap[q]? = some o ∧ o.isCells = false) → G pre r W'
  stm : ∀ pre x r W W' row, n ≤ W.heap.size → Gm pre x r W → W.grownBy W' row → (∀ q, row = some q → n ≤ q ∧ ∃ o : Obj, W.heap[q]? = some o ∧ o.isCells = false) → Gm pre x r W'
  body : ∀ pre x r r' W W', n ≤ W.heap.size → Gm pre x r W → Sp (pre ++ [x]) → W'.os = W.os → W'.tape = W.tape → W'.output = W.output → W.heap.size ≤ W'.heap.size → (∀ k, k < W.heap.size → k < n ∨ m ≤ k → some k ≠ r → W'.heap[k]? = W.heap[k]?) →
    (∀ k, r = some k → m ≤ k) → (r' = r ∨ ∃ k, r' = some k ∧ W.heap.size ≤ k) → (∀ k, r' = some k → k < W'.heap.size) → G (pre ++ [x]) r' W'
  kpT : ∀ {A B C : World}, Kp A B → Kp B C → Kp A C
  kpO : ∀ (W : World) (l : Nat) (o o' : Obj), W.heap[l]? = some o → o.isCells = false → Kp W (W.putObj l o')
  kpB : ∀ W W', Below n W W' → Kp W W'

theorem lt_of_get {w : World} {k : Nat} {o : Obj} (h : w.heap[k]? = some o) : k < w.heap.size := (Array.getElem?_eq_some_iff.1 h).1

theorem Rw.grow {B : Nat} {W W' : World} {v : Value} {xs : List Int} {row : Option Nat} (h : Rw en 3 B W v xs) (hg : W.grownBy W' row) (hr : ∀ q, row = some q → ∃ o : Obj, W.heap[q]? = some o ∧ o.isCells = false) : Rw en 3 B W' v xs := by
  rcases h with h | ⟨g, off, cap, cur, rfl, h1, h2, h3⟩
  · exact .inl h
  · exact .inr ⟨g, off, cap, cur, rfl, h1, (grownBy_keeps_cells hg hr h2 rfl).trans h2, h3⟩

theorem ob_lt {B : Nat} {W : World} {v : Value} {xs : List Int} (h : Rw en 3 B W v xs) : ∀ k, ob v = some k → B ≤ k ∧ k < W.heap.size := by
  intro k e
  obtain ⟨⟨g, l⟩, e1, rfl⟩ := Option.map_eq_some_iff.1 e
  have := h.end_ge g l e1
  exact ⟨this.1, this.2.1⟩

/-- What an append to the loop's own slice leaves behind. -/
theorem step_out (b : Nat) {W w1 : World} {v v' : Value} {pre : List Int} {x : Int} (h1 : W.heap[b]? = some (.cells #[v] 28 (0, 0))) (h2 : Rw en 3 (b + 1) W v pre)
    (hF : Fr (endOf v) (W.alloc (.cells #[.int .i64 x] 3)) w1) (hE : ∀ g l, endOf v' = some (g, l) → (∃ l0, endOf v = some (g, l0) ∧ l0 ≤ l) ∨ (W.alloc (.cells #[.int .i64 x] 3)).heap.size ≤ g) (hR : Rw en 3 (b + 1) w1 v' (pre ++ [x])) :
    KeepsFrom 0 W (w1.setCell ⟨b, 0, none⟩ v') ∧ Below b W (w1.setCell ⟨b, 0, none⟩ v') ∧ (w1.setCell ⟨b, 0, none⟩ v').heap[b]? = some (.cells #[v'] 28 (0, 0)) ∧ Rw en 3 (b + 1) (w1.setCell ⟨b, 0, none⟩ v') v' (pre ++ [x]) ∧
      (∀ k, k < W.heap.size → k ≠ b → some k ≠ ob v → (w1.setCell ⟨b, 0, none⟩ v').heap[k]? = W.heap[k]?) ∧ (∀ k, ob v = some k → b ≤ k) ∧ (ob v' = ob v ∨ ∃ k, ob v' = some k ∧ W.heap.size ≤ k) := by
  have hA : Below W.heap.size W (W.alloc (.cells #[.int .i64 x] 3)) := (Below.refl _ W).alloc (Nat.le_refl _) _
  have hob : ∀ k, ob v = some k → b + 1 ≤ k ∧ k < W.heap.size := by
    intro k e
    obtain ⟨⟨g, l⟩, e1, rfl⟩ := Option.map_eq_some_iff.1 e
    have := h2.end_ge g l e1
    exact ⟨this.1, this.2.1⟩
  have hblk : ∀ k, k < W.heap.size → some k ≠ ob v → w1.heap[k]? = W.heap[k]? := fun k hk hne =>
    (hF.block k (by have := hA.size; omega) (fun g l e e2 => hne (by rw [e2]; simp [ob, e]))).trans (hA.block k hk)
  have hbl := lt_of_block h1
  have hb1 : w1.heap[b]? = some (.cells #[v] 28 (0, 0)) := (hblk b hbl (fun e => by have := (hob b e.symm).1; omega)).trans h1
  have hset : ∀ k, k ≠ b → (w1.setCell ⟨b, 0, none⟩ v').heap[k]? = w1.heap[k]? := fun k hk => Below.heap_setCell _ _ _ _ hk
  have hsz : W.heap.size ≤ (w1.setCell ⟨b, 0, none⟩ v').heap.size := by
    have h1 := hA.size
    have h2 := hF.size
    simp only [World.setCell, Array.size_modify]
    omega
  refine ⟨⟨hsz, fun k o _ hk ho => ?_⟩, ⟨hF.os, hF.tape, hF.output, hsz, fun k hk => ?_⟩, setCell_heap hb1 v', hR.keep fun g l e => hset g (by have := (hR.end_ge g l e).1; omega), fun k hk hkb hne => (hset k hkb).trans (hblk k hk hne), fun k e => by have := (hob k e).1; omega, ?_⟩
  · have hkb : k ≠ b := by
      rintro rfl
      rw [h1] at hk; cases hk; cases ho
    refine ((hset k hkb).trans (hblk k (lt_of_get hk) (fun e => ?_))).trans hk
    rcases h2 with ⟨rfl, -⟩ | ⟨g, off, cap, cur, rfl, -, hg, -⟩
    · simp [ob, endOf] at e
    · simp [ob, endOf] at e
      subst e
      rw [hg] at hk; cases hk; cases ho
  · have hkw : k < W.heap.size := by omega
    exact (hset k (by omega)).trans (hblk k hkw (fun e => by have := (hob k e.symm).1; omega))
  · rcases hR with ⟨-, h⟩ | ⟨g, off, cap, cur, rfl, -⟩
    · simp at h
    · rcases hE g _ rfl with ⟨l0, e0, -⟩ | h
      · exact .inl (by unfold ob; rw [e0]; rfl)
      · exact .inr ⟨g, by simp [ob, endOf], by have := hA.size; omega⟩

set_option maxRecDepth 100000 in
set_option maxHeartbeats 2000000 in
theorem list_M (gf : Nat) (lb : Array Value) (L : List Int) (w : World) {Rq : List Int → World → Prop} {Mv : List Int → Int → World → World → Prop} {Me : List Int → World → World → Prop} {Kp : World → World → Prop} {G : List Int → Option Nat → World → Prop} {Gm : List Int → Int → Option Nat → World → Prop} (heg : ∀ args w, (callFunc gf args).run Try.prog w = .ok (.enter gf args) w)
    (hseq : SeqM Fence.wide 2 Try.prog gf lb (fun x : Int => #[.int .i64 x]) Kp Rq Mv Me (fun xs => xs = L) (fun pre => pre <+: L) w) (H : Host w.heap.size (w.heap.size + 1) Rq Mv Me (fun xs => xs = L) (fun pre => pre <+: L) Kp G Gm) (h0 : G [] none w) (hs : L.length ≤ 100000) :
    Calls Try.prog 17 #[.func (.func gf) #[] lb] w fun e w' => ∃ v, e = .returned v ∧ Rw en 3 w.heap.size w' v L ∧ G L (ob v) w' := by
  obtain ⟨i0, hi, hz0, hz1, hz2⟩ := info_parts' infoT
  refine (callsIn_wide (n := 3)).1 ?_
  refine callsIn_of_wp_marks Try.func17 rfl trivial ?_ rfl
  simp only [Try.ntmps17, List.size_toArray, List.length_cons, List.length_nil, Nat.reduceAdd, Nat.reduceSub, Array.replicate_succ, Array.replicate_zero, List.push_toArray, List.append_toArray, List.nil_append, List.cons_append]
  have hq := eq_nilFunc gf lb
  gi_wp2_with fail
  have hB0 : Below w.heap.size w (w.alloc (.cells #[.slice none 0 0] 28)) := (Below.refl _ w).alloc (Nat.le_refl _) _
  have bO := heap_alloc_new w (.cells #[.slice none 0 0] 28)
  have hG1 := H.st _ _ _ _ none (Nat.le_refl _) h0 (World.grownBy_alloc w (.cells #[.slice none 0 0] 28) none) (fun _ e => by cases e)
  have hsz : (w.alloc (.cells #[.slice none 0 0] 28)).heap.size = w.heap.size + 1 := by simp
  generalize w.alloc (.cells #[.slice none 0 0] 28) = W1 at hB0 bO hG1 hsz ⊢
  have own : ∀ {Z : List Int → Option Nat → World → Prop}, (∀ pre r W W' row, w.heap.size ≤ W.heap.size → Z pre r W → W.grownBy W' row → (∀ q, row = some q → w.heap.size ≤ q ∧ ∃ o : Obj, W.heap[q]? = some o ∧ o.isCells = false) → Z pre r W') →
      OwnFrom W1.heap.size (fun pre W => W1.heap.size ≤ W.heap.size ∧ ∃ v, W.heap[w.heap.size]? = some (.cells #[v] 28 (0, 0)) ∧ Rw en 3 (w.heap.size + 1) W v pre ∧ Z pre (ob v) W) := by
    intro Z hZ s A C row ⟨hsz', v, h1, h2, h3⟩ hg hr
    exact ⟨Nat.le_trans hsz' hg.size, v, (grownBy_keeps_cells hg (fun q e => (hr q e).2) h1 rfl).trans h1, Rw.grow h2 hg (fun q e => (hr q e).2), hZ _ _ _ _ row (by omega) h3 hg (fun q e => ⟨by have := (hr q e).1; omega, (hr q e).2⟩)⟩
  refine wpIn_rangeM rfl (by omega) (gf := gf) (lb := lb) rfl trivial heg hseq H.kpT H.kpO hB0 (fun _ => rfl)
    (fun pre W => W1.heap.size ≤ W.heap.size ∧ ∃ v, W.heap[w.heap.size]? = some (.cells #[v] 28 (0, 0)) ∧ Rw en 3 (w.heap.size + 1) W v pre ∧ G pre (ob v) W)
    (fun pre x W => W1.heap.size ≤ W.heap.size ∧ ∃ v, W.heap[w.heap.size]? = some (.cells #[v] 28 (0, 0)) ∧ Rw en 3 (w.heap.size + 1) W v pre ∧ Gm pre x (ob v) W)
    (fun _ _ _ => False)
    (own H.st) (fun x => own (Z := fun pre r W => Gm pre x r W) (fun pre r W W' row => H.stm pre x r W W' row)) (fun _ _ _ _ _ hs _ _ => hs)
    ⟨Nat.le_refl _, _, bO, Rw.nil _, hG1⟩
    (fun pre W h => by obtain ⟨-, v, -, -, h⟩ := h; exact H.rq _ _ _ h)
    (fun pre x Wa Wb h hm _ => by
      obtain ⟨hz, v, h1, h2, h3⟩ := h
      obtain ⟨k1, k2, k3⟩ := H.mv _ _ _ _ _ (by omega) h3 hm
      exact ⟨by omega, v, (k3 _ (Nat.le_refl _) (lt_of_block h1)).trans h1, h2.keep fun g l e => k3 g (by have := (h2.end_ge g l e).1; omega) (h2.end_ge g l e).2.1, k1⟩)
    (fun pre Wa Wb hS h hm _ => by
      obtain ⟨hz, v, h1, h2, h3⟩ := h
      obtain ⟨k1, k2, k3⟩ := H.me _ _ _ _ (by omega) hS h3 hm
      exact ⟨by omega, v, (k3 _ (Nat.le_refl _) (lt_of_block h1)).trans h1, h2.keep fun g l e => k3 g (by have := (h2.end_ge g l e).1; omega) (h2.end_ge g l e).2.1, k1⟩)
    H.mvK H.meK
    (fun pre x a' W => a' = { tmps := #[.func (.func gf) #[] lb, undef, .slice none 0 0, .pointer (some ⟨w.heap.size, 0, none⟩), .int .i64 x, .func (.func gf) #[] lb, .bool false, .func (.func gf) #[] lb, .int .i64 x, undef, undef, undef, undef, undef], defers := [] } ∧
      W1.heap.size ≤ W.heap.size ∧ ∃ v, W.heap[w.heap.size]? = some (.cells #[v] 28 (0, 0)) ∧ Rw en 3 (w.heap.size + 1) W v pre ∧ Gm pre x (ob v) W)
    (fun pre x a' s A B row hs hg hr => ⟨hs.1, own (Z := fun pre r W => Gm pre x r W) (fun pre r W W' row => H.stm pre x r W W' row) pre A B row hs.2 hg hr⟩)
    ?assign ?body ?done ?stop
  case assign =>
    intro l pre x W K hm hK
    gi_wp2
    exact hK _ _ (KeepsFrom.refl _ _) (H.kpB _ _ (Below.refl _ _)) ⟨rfl, hm⟩
  case body =>
    rintro l pre x a' W hl ⟨r0, hr0⟩ ⟨rfl, hz, v, h1, h2, h3⟩ hpre
    have hlen : pre.length < L.length := by have := hpre.length_le; simp at this; omega
    obtain ⟨a, cap, rfl, -, -, -⟩ := h2.src
    have hc : W.cell? ⟨w.heap.size, 0, none⟩ = some (.slice a pre.length cap) := cell_of_heap h1 (i := 0) rfl
    have ha : Below W.heap.size W (W.alloc (.cells #[.int .i64 x] 3)) := (Below.refl _ W).alloc (Nat.le_refl _) _
    have hn := heap_alloc_new W (.cells #[.int .i64 x] 3)
    have hsx : Src1 en (W.alloc (.cells #[.int .i64 x] 3)) (some ⟨W.heap.size, 0, none⟩) 1 [x] := .inr ⟨_, rfl, fun j y hy => by
      cases j with
      | zero => cases hy; exact cell_of_heap hn (i := 0) rfl
      | succ j => simp at hy⟩
    have HR := Lib.hid h2
    have H1 := Lib.hid h1
    have H3 := Lib.hid h3
    have Hpre := Lib.hid hpre
    clear h3 hpre hn
    gi_wp2_with (gi_at_builtin; refine wpListIn_append_rw (B := w.heap.size + 1) one rfl _ _ 28 rfl Try.underlying28 hi hz0 hz1 hz2 rfl (.slice a pre.length cap) pre rfl (HR.out.below ha) _ 1 1 [x] rfl rfl hsx (by simp; omega) (by simp; omega) (by have := ha.size; omega) ?_; intro v' w1 hR hF hE hN; obtain ⟨hS1, hS2, hS3, hS4, hS5, hS6, hS7⟩ := step_out w.heap.size H1.out HR.out hF hE hR; have hb1 := (hF.block w.heap.size (by have := ha.size; omega) (fun g l e => by have := (HR.out.end_ge g l e).1; omega)).trans ((ha.block _ (by omega)).trans H1.out); have hc1 : w1.cell? ⟨w.heap.size, 0, none⟩ = some (.slice a pre.length cap) := cell_of_heap hb1 (i := 0) rfl; have hf1 := frozen_of_heap hb1 0; clear hE hN hR hF; obtain ⟨a', cap', rfl, -, -, -⟩ := hS4.src)
    simp only [List.length_append, List.length_cons, List.length_nil, Nat.zero_add] at hS1 hS2 hS3 hS4 hS5 hS7
    exact ⟨⟨hS1.size, fun k o _ => hS1.same k o (Nat.zero_le _)⟩, H.kpB _ _ hS2, by have := hS1.size; omega, _, hS3, hS4, H.body _ _ _ _ _ _ (by omega) H3.out Hpre.out hS2.os hS2.tape hS2.output hS2.size (fun k hk hk1 hne => hS5 k hk (by omega) hne) (fun k e => (ob_lt HR.out k e).1) hS7 (fun k e => (ob_lt hS4 k e).2)⟩
  case done =>
    rintro D ys W hD rfl ⟨hz, v, h1, h2, h3⟩ hK
    have hc : W.cell? ⟨w.heap.size, 0, none⟩ = some v := cell_of_heap h1 (i := 0) rfl
    gi_wp2
    refine ⟨by simp, .inl ⟨_, _, rfl, run_takeDeferred hK, ?_⟩⟩
    have hgr := grownBy_putObj' W D (.deferred none)
    have hrow : ∀ r, some D = some r → ∃ o : Obj, W.heap[r]? = some o ∧ o.isCells = false := fun r e => by cases e; exact ⟨_, hK, rfl⟩
    exact ⟨_, results_tmp rfl _ _ _, v, rfl, (Rw.grow h2 hgr hrow).mono (by omega), H.st _ _ _ _ (some D) (by omega) h3 hgr (fun q e => ⟨by cases e; omega, hrow q e⟩)⟩
  case stop =>
    rintro D c pre W _ _ h _
    exact h.elim

set_option maxRecDepth 100000 in
set_option maxHeartbeats 2000000 in
theorem first_M (gf : Nat) (lb : Array Value) (L : List Int) (k : Nat) (w : World) {Rq : List Int → World → Prop} {Mv : List Int → Int → World → World → Prop} {Me : List Int → World → World → Prop} {Kp : World → World → Prop} {G : List Int → Option Nat → World → Prop} {Gm : List Int → Int → Option Nat → World → Prop} (heg : ∀ args w, (callFunc gf args).run Try.prog w = .ok (.enter gf args) w)
    (hseq : SeqM Fence.wide 2 Try.prog gf lb (fun x : Int => #[.int .i64 x]) Kp Rq Mv Me (fun xs => xs = L) (fun pre => pre <+: L) w) (H : Host w.heap.size (w.heap.size + 2) Rq Mv Me (fun xs => xs = L) (fun pre => pre <+: L) Kp G Gm) (h0 : G [] none w) (hs : L.length ≤ 100000) (hk : k ≤ 100000) :
    Calls Try.prog 20 #[.func (.func gf) #[] lb, .int .i64 k] w fun e w' => ∃ v, e = .returned v ∧ Rw en 3 w.heap.size w' v (L.take k) ∧ G (L.take k) (ob v) w' := by
  obtain ⟨i0, hi, hz0, hz1, hz2⟩ := info_parts' infoT
  refine (callsIn_wide (n := 3)).1 ?_
  refine callsIn_of_wp_marks Try.func20 rfl trivial ?_ rfl
  simp only [Try.ntmps20, List.size_toArray, List.length_cons, List.length_nil, Nat.reduceAdd, Nat.reduceSub, Array.replicate_succ, Array.replicate_zero, List.push_toArray, List.append_toArray, List.nil_append, List.cons_append]
  have hq := eq_nilFunc gf lb
  by_cases h1k : 1 ≤ k
  · gi_wp2_with fail
    have hB0 : Below w.heap.size w ((w.alloc (.cells #[.int .i64 k] 3)).alloc (.cells #[.slice none 0 0] 28)) := ((Below.refl _ w).alloc (Nat.le_refl _) _).alloc (by simp) _
    have bK : ((w.alloc (.cells #[.int .i64 k] 3)).alloc (.cells #[.slice none 0 0] 28)).heap[w.heap.size]? = some (.cells #[.int .i64 k] 3 (0, 0)) := (Below.heap_alloc _ _ _ (by simp)).trans (heap_alloc_new w (.cells #[.int .i64 k] 3))
    have bO : ((w.alloc (.cells #[.int .i64 k] 3)).alloc (.cells #[.slice none 0 0] 28)).heap[w.heap.size + 1]? = some (.cells #[.slice none 0 0] 28 (0, 0)) := by
      have := heap_alloc_new (w.alloc (.cells #[.int .i64 k] 3)) (.cells #[.slice none 0 0] 28)
      simpa only [World.size_alloc] using this
    have hG0 := H.st _ _ _ _ none (Nat.le_refl _) h0 (World.grownBy_alloc w (.cells #[.int .i64 k] 3) none) (fun _ e => by cases e)
    have hG1 := H.st _ _ _ _ none (by simp) hG0 (World.grownBy_alloc (w.alloc (.cells #[.int .i64 k] 3)) (.cells #[.slice none 0 0] 28) none) (fun _ e => by cases e)
    have hsz : ((w.alloc (.cells #[.int .i64 k] 3)).alloc (.cells #[.slice none 0 0] 28)).heap.size = w.heap.size + 2 := by simp
    clear hG0
    generalize (w.alloc (.cells #[.int .i64 k] 3)).alloc (.cells #[.slice none 0 0] 28) = W1 at hB0 bK bO hG1 hsz ⊢
    have own : ∀ {Z : List Int → Option Nat → World → Prop} {C : List Int → Prop}, (∀ pre r W W' row, w.heap.size ≤ W.heap.size → Z pre r W → W.grownBy W' row → (∀ q, row = some q → w.heap.size ≤ q ∧ ∃ o : Obj, W.heap[q]? = some o ∧ o.isCells = false) → Z pre r W') →
        OwnFrom W1.heap.size (fun pre W => C pre ∧ W1.heap.size ≤ W.heap.size ∧ ∃ v, W.heap[w.heap.size]? = some (.cells #[.int .i64 k] 3 (0, 0)) ∧ W.heap[w.heap.size + 1]? = some (.cells #[v] 28 (0, 0)) ∧ Rw en 3 (w.heap.size + 1 + 1) W v pre ∧ Z pre (ob v) W) := by
      intro Z C hZ s A D row ⟨hC, hsz', v, hk0, h1, h2, h3⟩ hg hr
      exact ⟨hC, Nat.le_trans hsz' hg.size, v, (grownBy_keeps_cells hg (fun q e => (hr q e).2) hk0 rfl).trans hk0, (grownBy_keeps_cells hg (fun q e => (hr q e).2) h1 rfl).trans h1, Rw.grow h2 hg (fun q e => (hr q e).2), hZ _ _ _ _ row (by omega) h3 hg (fun q e => ⟨by have := (hr q e).1; omega, (hr q e).2⟩)⟩
    refine wpIn_rangeM rfl (by omega) (gf := gf) (lb := lb) rfl trivial heg hseq H.kpT H.kpO hB0 (fun _ => rfl)
      (fun pre W => pre.length < k ∧ W1.heap.size ≤ W.heap.size ∧ ∃ v, W.heap[w.heap.size]? = some (.cells #[.int .i64 k] 3 (0, 0)) ∧ W.heap[w.heap.size + 1]? = some (.cells #[v] 28 (0, 0)) ∧ Rw en 3 (w.heap.size + 1 + 1) W v pre ∧ G pre (ob v) W)
      (fun pre x W => pre.length < k ∧ W1.heap.size ≤ W.heap.size ∧ ∃ v, W.heap[w.heap.size]? = some (.cells #[.int .i64 k] 3 (0, 0)) ∧ W.heap[w.heap.size + 1]? = some (.cells #[v] 28 (0, 0)) ∧ Rw en 3 (w.heap.size + 1 + 1) W v pre ∧ Gm pre x (ob v) W)
      (fun c pre W => (c = .exit 0 ∧ pre.length = k) ∧ W1.heap.size ≤ W.heap.size ∧ ∃ v, W.heap[w.heap.size]? = some (.cells #[.int .i64 k] 3 (0, 0)) ∧ W.heap[w.heap.size + 1]? = some (.cells #[v] 28 (0, 0)) ∧ Rw en 3 (w.heap.size + 1 + 1) W v pre ∧ G pre (ob v) W)
      (own (C := fun pre => pre.length < k) H.st) (fun x => own (C := fun pre => pre.length < k) (Z := fun pre r W => Gm pre x r W) (fun pre r W W' row => H.stm pre x r W W' row)) (fun c => own (C := fun pre => c = .exit 0 ∧ pre.length = k) H.st)
      ⟨h1k, Nat.le_refl _, _, bK, bO, Rw.nil _, hG1⟩
      (fun pre W h => by obtain ⟨-, -, v, -, -, -, h⟩ := h; exact H.rq _ _ _ h)
      (fun pre x Wa Wb h hm _ => by
        obtain ⟨hC, hz, v, hk0, h1, h2, h3⟩ := h
        obtain ⟨k1, k2, k3⟩ := H.mv _ _ _ _ _ (by omega) h3 hm
        exact ⟨hC, by omega, v, (k3 _ (Nat.le_refl _) (lt_of_block hk0)).trans hk0, (k3 _ (by omega) (lt_of_block h1)).trans h1, h2.keep fun g l e => k3 g (by have := (h2.end_ge g l e).1; omega) (h2.end_ge g l e).2.1, k1⟩)
      (fun pre Wa Wb hS h hm _ => by
        obtain ⟨hC, hz, v, hk0, h1, h2, h3⟩ := h
        obtain ⟨k1, k2, k3⟩ := H.me _ _ _ _ (by omega) hS h3 hm
        exact ⟨hC, by omega, v, (k3 _ (Nat.le_refl _) (lt_of_block hk0)).trans hk0, (k3 _ (by omega) (lt_of_block h1)).trans h1, h2.keep fun g l e => k3 g (by have := (h2.end_ge g l e).1; omega) (h2.end_ge g l e).2.1, k1⟩)
      H.mvK H.meK
      (fun pre x a' W => a' = { tmps := #[.func (.func gf) #[] lb, .int .i64 k, undef, .pointer (some ⟨w.heap.size, 0, none⟩), .slice none 0 0, .pointer (some ⟨w.heap.size + 1, 0, none⟩), .int .i64 x, .func (.func gf) #[] lb, .bool false, .bool false, .int .i64 k, .bool (decide ((k : Int) < 1)), .bool (decide ((k : Int) < 1)), .func (.func gf) #[] lb, .int .i64 x, undef, undef, undef, undef, undef, undef, undef, undef, undef], defers := [] } ∧
        pre.length < k ∧ W1.heap.size ≤ W.heap.size ∧ ∃ v, W.heap[w.heap.size]? = some (.cells #[.int .i64 k] 3 (0, 0)) ∧ W.heap[w.heap.size + 1]? = some (.cells #[v] 28 (0, 0)) ∧ Rw en 3 (w.heap.size + 1 + 1) W v pre ∧ Gm pre x (ob v) W)
      (fun pre x a' s A B row hs hg hr => ⟨hs.1, own (C := fun pre => pre.length < k) (Z := fun pre r W => Gm pre x r W) (fun pre r W W' row => H.stm pre x r W W' row) pre A B row hs.2 hg hr⟩)
      ?assign ?body ?done ?stop
    case assign =>
      intro l pre x W K hm hK
      gi_wp2
      exact hK _ _ (KeepsFrom.refl _ _) (H.kpB _ _ (Below.refl _ _)) ⟨rfl, hm⟩
    case body =>
      rintro l pre x a' W hl ⟨r0, hr0⟩ ⟨rfl, hC, hz, v, hk0, h1, h2, h3⟩ hpre
      have hlen : pre.length < L.length := by have := hpre.length_le; simp at this; omega
      obtain ⟨a, cap, rfl, -, -, -⟩ := h2.src
      have hc : W.cell? ⟨w.heap.size + 1, 0, none⟩ = some (.slice a pre.length cap) := cell_of_heap h1 (i := 0) rfl
      have ha : Below W.heap.size W (W.alloc (.cells #[.int .i64 x] 3)) := (Below.refl _ W).alloc (Nat.le_refl _) _
      have hn := heap_alloc_new W (.cells #[.int .i64 x] 3)
      have hsx : Src1 en (W.alloc (.cells #[.int .i64 x] 3)) (some ⟨W.heap.size, 0, none⟩) 1 [x] := .inr ⟨_, rfl, fun j y hy => by
        cases j with
        | zero => cases hy; exact cell_of_heap hn (i := 0) rfl
        | succ j => simp at hy⟩
      have HR := Lib.hid h2
      have H1 := Lib.hid h1
      have H3 := Lib.hid h3
      have HK := Lib.hid hk0
      have Hpre := Lib.hid hpre
      clear h3 hpre hn hk0
      by_cases hlast : pre.length + 1 = k
      · have hge : (k : Int) ≤ ((pre.length + 1 : Nat) : Int) := by omega
        have hge2 : (k : Int) ≤ (pre.length : Int) + 1 := by omega
        have Hlast := Lib.hid hlast
        clear hlast
        gi_wp2_with (gi_at_builtin; refine wpListIn_append_rw (B := w.heap.size + 1 + 1) one rfl _ _ 28 rfl Try.underlying28 hi hz0 hz1 hz2 rfl (.slice a pre.length cap) pre rfl (HR.out.below ha) _ 1 1 [x] rfl rfl hsx (by simp; omega) (by simp; omega) (by have := ha.size; omega) ?_; intro v' w1 hR hF hE hN; obtain ⟨hS1, hS2, hS3, hS4, hS5, hS6, hS7⟩ := step_out (w.heap.size + 1) H1.out HR.out hF hE hR; have hb1 := (hF.block (w.heap.size + 1) (by have := ha.size; omega) (fun g l e => by have := (HR.out.end_ge g l e).1; omega)).trans ((ha.block _ (by omega)).trans H1.out); have hc1 : w1.cell? ⟨w.heap.size + 1, 0, none⟩ = some (.slice a pre.length cap) := cell_of_heap hb1 (i := 0) rfl; have hf1 := frozen_of_heap hb1 0; have hk1 := (hS2.block w.heap.size (by omega)).trans HK.out; clear hE hN hR hF; obtain ⟨a', cap', rfl, -, -, -⟩ := hS4.src; simp only [List.length_append, List.length_cons, List.length_nil, Nat.zero_add] at hS1 hS2 hS3 hS4 hS5 hS7 hk1; have hkc := cell_of_heap hk1 (i := 0) rfl; have hoc : (w1.setCell ⟨w.heap.size + 1, 0, none⟩ (.slice a' (pre.length + 1) cap')).cell? ⟨w.heap.size + 1, 0, none⟩ = some (.slice a' (pre.length + 1) cap') := cell_of_heap hS3 (i := 0) rfl)
        exact ⟨⟨hS1.size, fun k o _ => hS1.same k o (Nat.zero_le _)⟩, ⟨⟨rfl, by simpa using Hlast.out⟩, by have := hS1.size; omega, _, hk1, hS3, hS4, H.body _ _ _ _ _ _ (by omega) H3.out Hpre.out hS2.os hS2.tape hS2.output hS2.size (fun k hk hk1 hne => hS5 k hk (by omega) hne) (fun k e => (ob_lt HR.out k e).1) hS7 (fun k e => (ob_lt hS4 k e).2)⟩⟩
      · have hlt2 : ((pre.length + 1 : Nat) : Int) < k := by omega
        have hlt3 : (pre.length : Int) + 1 < k := by omega
        have Hlast : Hid (pre.length + 1 < k) := Lib.hid (by omega)
        clear hlast
        gi_wp2_with (gi_at_builtin; refine wpListIn_append_rw (B := w.heap.size + 1 + 1) one rfl _ _ 28 rfl Try.underlying28 hi hz0 hz1 hz2 rfl (.slice a pre.length cap) pre rfl (HR.out.below ha) _ 1 1 [x] rfl rfl hsx (by simp; omega) (by simp; omega) (by have := ha.size; omega) ?_; intro v' w1 hR hF hE hN; obtain ⟨hS1, hS2, hS3, hS4, hS5, hS6, hS7⟩ := step_out (w.heap.size + 1) H1.out HR.out hF hE hR; have hb1 := (hF.block (w.heap.size + 1) (by have := ha.size; omega) (fun g l e => by have := (HR.out.end_ge g l e).1; omega)).trans ((ha.block _ (by omega)).trans H1.out); have hc1 : w1.cell? ⟨w.heap.size + 1, 0, none⟩ = some (.slice a pre.length cap) := cell_of_heap hb1 (i := 0) rfl; have hf1 := frozen_of_heap hb1 0; have hk1 := (hS2.block w.heap.size (by omega)).trans HK.out; clear hE hN hR hF; obtain ⟨a', cap', rfl, -, -, -⟩ := hS4.src; simp only [List.length_append, List.length_cons, List.length_nil, Nat.zero_add] at hS1 hS2 hS3 hS4 hS5 hS7 hk1; have hkc := cell_of_heap hk1 (i := 0) rfl; have hoc : (w1.setCell ⟨w.heap.size + 1, 0, none⟩ (.slice a' (pre.length + 1) cap')).cell? ⟨w.heap.size + 1, 0, none⟩ = some (.slice a' (pre.length + 1) cap') := cell_of_heap hS3 (i := 0) rfl)
        exact ⟨⟨hS1.size, fun k o _ => hS1.same k o (Nat.zero_le _)⟩, H.kpB _ _ (hS2.mono (by omega)), ⟨by simpa using Hlast.out, by have := hS1.size; omega, _, hk1, hS3, hS4, H.body _ _ _ _ _ _ (by omega) H3.out Hpre.out hS2.os hS2.tape hS2.output hS2.size (fun k hk hk1 hne => hS5 k hk (by omega) hne) (fun k e => (ob_lt HR.out k e).1) hS7 (fun k e => (ob_lt hS4 k e).2)⟩⟩
    case done =>
      rintro D ys W hD rfl ⟨hC, hz, v, hk0, h1, h2, h3⟩ hK
      have hc : W.cell? ⟨w.heap.size + 1, 0, none⟩ = some v := cell_of_heap h1 (i := 0) rfl
      gi_wp2
      refine ⟨by simp, .inl ⟨_, _, rfl, run_takeDeferred hK, ?_⟩⟩
      have hgr := grownBy_putObj' W D (.deferred none)
      have hrow : ∀ r, some D = some r → ∃ o : Obj, W.heap[r]? = some o ∧ o.isCells = false := fun r e => by cases e; exact ⟨_, hK, rfl⟩
      rw [List.take_of_length_le (by omega)]
      exact ⟨_, results_tmp rfl _ _ _, v, rfl, (Rw.grow h2 hgr hrow).mono (by omega), H.st _ _ _ _ (some D) (by omega) h3 hgr (fun q e => ⟨by cases e; omega, hrow q e⟩)⟩
    case stop =>
      rintro D c pre W hD hpre ⟨⟨rfl, hC⟩, hz, v, hk0, h1, h2, h3⟩ hK
      have hc : W.cell? ⟨w.heap.size + 1, 0, none⟩ = some v := cell_of_heap h1 (i := 0) rfl
      gi_wp2
      refine ⟨by simp, .inl ⟨_, _, rfl, run_takeDeferred hK, ?_⟩⟩
      have hgr := grownBy_putObj' W D (.deferred none)
      have hrow : ∀ r, some D = some r → ∃ o : Obj, W.heap[r]? = some o ∧ o.isCells = false := fun r e => by cases e; exact ⟨_, hK, rfl⟩
      obtain ⟨q, rfl⟩ := hpre
      rw [← hC, List.take_left']
      · exact ⟨_, results_tmp rfl _ _ _, v, rfl, (Rw.grow h2 hgr hrow).mono (by omega), H.st _ _ _ _ (some D) (by omega) h3 hgr (fun q e => ⟨by cases e; omega, hrow q e⟩)⟩
      · rfl
  · obtain rfl : k = 0 := by omega
    gi_wp2_with fail
    have hG0 := H.st _ _ _ _ none (Nat.le_refl _) h0 (World.grownBy_alloc w (.cells #[.int .i64 (0 : Nat)] 3) none) (fun _ e => by cases e)
    have hG1 := H.st _ _ _ _ none (by simp) hG0 (World.grownBy_alloc (w.alloc (.cells #[.int .i64 (0 : Nat)] 3)) (.cells #[.slice none 0 0] 28) none) (fun _ e => by cases e)
    exact ⟨_, results_tmp rfl _ _ _, .slice none 0 0, rfl, Rw.nil _, hG1⟩

theorem host_all (w : World) (m : Nat) (hm : w.heap.size ≤ m) (r : Option (Nat × Nat)) (S Sp : List Int → Prop) (hr : ∀ g l, r = some (g, l) → g < w.heap.size) :
    Host w.heap.size m (fun _ _ => True) (fun _ _ W W' => W' = W) (fun _ W W' => W' = W) S Sp (KpE r) (fun _ _ W => Below w.heap.size w W) (fun _ _ _ W => Below w.heap.size w W) where
  rq _ _ _ _ := trivial
  mv _ _ _ W W2 _ h e := by subst e; exact ⟨h, Nat.le_refl _, fun _ _ _ => rfl⟩
  me _ _ W W2 _ _ h e := by subst e; exact ⟨h, Nat.le_refl _, fun _ _ _ => rfl⟩
  mvK _ _ _ _ e := by subst e; exact KeepsFrom.refl _ _
  meK _ _ _ e := by subst e; exact KeepsFrom.refl _ _
  st _ _ _ _ _ hn h hg hr := h.grown hg hn (fun k e => (hr k e).1)
  stm _ _ _ _ _ _ hn h hg hr := h.grown hg hn (fun k e => (hr k e).1)
  body _ _ r r' W W' hn h _ h1 h2 h3 h4 h5 h6 _ _ := h.trans ⟨h1, h2, h3, h4, fun k hk => h5 k (by omega) (.inl hk) (fun e => by have := h6 k e.symm; omega)⟩
  kpT h k := h.trans k
  kpO W l o o' h hc := KpE.putObj W l o o' h hc
  kpB W W' h := KpE.of_below h hr

/-- List of All. -/
theorem list_all (w : World) (Bn s : Nat) (a : Option Addr) (cap : Nat) (xs : List Int) (hB : w.heap[Bn]? = some (.cells #[.pointer (some ⟨s, 0, none⟩)] 23 (0, 0))) (h : w.cell? ⟨s, 0, none⟩ = some (.slice a xs.length cap)) (h5 : xs.length ≤ 65536) (hx : IntsOf w (.slice a xs.length cap) xs) :
    Calls Try.prog 17 #[.func (.func 30) #[] #[.pointer (some ⟨Bn, 0, none⟩)]] w fun e w' => ∃ v, e = .returned v ∧ IntsOf w' v xs ∧ Below w.heap.size w w' := by
  obtain ⟨a', cap', e, -, hno, hx⟩ := hx
  simp only [Value.slice.injEq] at e
  obtain ⟨rfl, -, rfl⟩ := e
  obtain ⟨r, hr, hr2⟩ : ∃ r : Option (Nat × Nat), (xs ≠ [] → r = endOf (.slice a xs.length cap)) ∧ ∀ g l, r = some (g, l) → g < w.heap.size := by
    cases xs with
    | nil => exact ⟨none, fun h => absurd rfl h, fun _ _ e => by cases e⟩
    | cons x xs =>
      obtain ⟨g', off, rfl, hc⟩ := hx 0 x rfl
      refine ⟨_, fun _ => rfl, fun g l e => ?_⟩
      have := World.block_lt_of_cell? w _ hc
      simp [endOf] at e
      simp at this
      omega
  refine (list_M _ _ xs w (enters_of Try.func30 (by kernel_rfl) rfl) (all_stops 2 Bn w s a cap xs hB h h5 r hr hx) (host_all w _ (by omega) r _ _ hr2) (Below.refl _ _) (by omega)).mono ?_
  rintro e w' ⟨v, rfl, hR, hB⟩
  exact ⟨v, rfl, Rw.ints hR, hB⟩

end Go.Proofs.Ytckdojneogeblaa.QI
