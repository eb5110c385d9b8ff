/- Collect, over the law's own sequence. Conditions: the list lies in memory; at most 100000 numbers. -/
import Derived.Test.YtckdojneogeblaaQLoop
import Derived.RecoverIn
import Derived.Stop.RegionWithIn
import Derived.Test.YtckdojneogeblaaNearQ
namespace Go.Proofs.Ytckdojneogeblaa.QI
open Go Go.RowKit Go.Shelf

attribute [local go_sem] Oper.semAt_some

/-- Cells of the blocks P stay. -/
def KpP (P : Nat → Prop) (W W' : World) : Prop := ∀ b i u, P b → W.cell? ⟨b, i, none⟩ = some u → W'.cell? ⟨b, i, none⟩ = some u

theorem KpP.refl (P : Nat → Prop) (W : World) : KpP P W W := fun _ _ _ _ h => h
theorem KpP.trans {P : Nat → Prop} {A B C : World} (h : KpP P A B) (k : KpP P B C) : KpP P A C := fun b i u hb hc => k b i u hb (h b i u hb hc)
theorem KpP.putObj {P : Nat → Prop} (W : World) (l : Nat) (o o' : Obj) (h : W.heap[l]? = some o) (hc : o.isCells = false) : KpP P W (W.putObj l o') := by
  intro b i u _ hb
  refine (World.cell?_of_block (World.putObj_heap_other ?_)).trans hb
  rintro rfl
  unfold World.cell? at hb
  simp only [h] at hb
  cases o <;> first | (cases hc; done) | (cases hb; done)
theorem KpP.blocks {P : Nat → Prop} {W W' : World} (h : ∀ b, P b → b < W.heap.size → W'.heap[b]? = W.heap[b]?) : KpP P W W' := fun b _ _ hb hc => (World.cell?_of_block (h b hb (World.block_lt_of_cell? W _ hc))).trans hc
theorem KpP.set {P : Nat → Prop} (W : World) (b₀ i : Nat) (v : Value) (h : ¬ P b₀) : KpP P W (W.setCell ⟨b₀, i, none⟩ v) := KpP.blocks fun b hb _ => Below.heap_setCell _ _ _ _ (fun e => h (by have e' : b = b₀ := e; rw [← e']; exact hb))

/-- How many were asked for. -/
def Asked (Ba : Nat) (pre : List Int) (W : World) : Prop := W.heap[Ba]? = some (.cells #[.int .i64 (pre.length : Nat)] 3 (0, 0))

set_option maxRecDepth 100000 in
set_option maxHeartbeats 1000000 in
theorem seq_stops (n Bl Ba : Nat) (P : Nat → Prop) (w : World) (a : Option Addr) (cap : Nat) (xs : List Int) (hPa : ¬ P Ba) (hPl : P Bl) (h : w.cell? ⟨Bl, 0, none⟩ = some (.slice a xs.length cap)) (h5 : xs.length ≤ 65536)
    (hx : ∀ j x, xs[j]? = some x → ∃ g off, a = some ⟨g, off, none⟩ ∧ P g ∧ w.cell? ⟨g, off + j, none⟩ = some (.int .i64 x)) :
    SeqM Fence.wide n Try.prog 23 #[.pointer (some ⟨Bl, 0, none⟩), .pointer (some ⟨Ba, 0, none⟩)] (fun x : Int => #[.int .i64 x]) (KpP P) (Asked Ba) (fun pre _ W W' => W' = W.setCell ⟨Ba, 0, none⟩ (.int .i64 ((pre.length : Int) + 1))) (fun _ W W' => W' = W) (fun ys => ys = xs) (fun pre => pre <+: xs) w := by
  intro l J Jm Jx W hW hRq hMv _ hY h0
  have hl0 : ∀ W', KpP P W W' → W'.cell? ⟨Bl, 0, none⟩ = some (.slice a xs.length cap) := fun W' hk => by
    have hb := World.block_lt_of_cell? w _ h
    exact hk _ _ _ hPl ((hW.cell (p := ⟨Bl, 0, none⟩) hb).trans h)
  have hel : ∀ W', KpP P W W' → ∀ j x, xs[j]? = some x → ∃ g off, a = some ⟨g, off, none⟩ ∧ P g ∧ W'.cell? ⟨g, off + j, none⟩ = some (.int .i64 x) := by
    intro W' hk j x hx'
    obtain ⟨g, off, rfl, hg, hc⟩ := hx j x hx'
    have hb := World.block_lt_of_cell? w _ hc
    exact ⟨g, off, rfl, hg, hk _ _ _ hg ((hW.cell (p := ⟨g, off + j, none⟩) hb).trans hc)⟩
  have Hel := Lib.hid hel
  have Hl0 := Lib.hid hl0
  clear hel hl0 h hx
  refine callsIn_wide.2 ((callsIn_wide (n := 3)).1 ?_)
  refine callsIn_of_wp Try.func23 rfl trivial ?_ rfl
  simp only [Try.ntmps23, List.size_toArray, List.length_cons, List.length_nil, Nat.reduceAdd, Nat.reduceSub, Array.replicate_succ, Array.replicate_zero, List.push_toArray, List.append_toArray, List.nil_append, List.cons_append]
  gi_wp2_with fail
  gi_loopg [4] xs.length (fun m i wr => ∃ j : Nat, i = .int .i64 j ∧ j ≤ xs.length ∧ Hid (m = xs.length - j) ∧ Hid (J (xs.take j) wr) ∧ KpP P W wr)
  case atStart => exact ⟨0, rfl, by omega, Lib.hid rfl, Lib.hid (by simpa using h0), KpP.refl _ _⟩
  case round =>
    obtain ⟨j, rfl, hj, Hm, HJ, hK⟩ := hrel
    have hl1 := Hl0.out wr hK
    by_cases hlt : j < xs.length
    · obtain ⟨x, hx⟩ : ∃ x, xs[j]? = some x := ⟨xs[j], by simp [hlt]⟩
      have hask : Asked Ba (xs.take j) wr := hRq _ _ HJ.out
      unfold Asked at hask
      rw [List.length_take, Nat.min_eq_left hj] at hask
      have ha1 := cell_of_heap hask (i := 0) rfl
      have hf1 := frozen_of_heap hask 0
      have hK2 : KpP P W (wr.setCell ⟨Ba, 0, none⟩ (.int .i64 ((j : Int) + 1))) := hK.trans (KpP.set wr Ba 0 _ hPa)
      have hl2 := Hl0.out _ hK2
      obtain ⟨g, off, rfl, hg, hxc⟩ := Hel.out _ hK2 j x hx
      have htk : xs.take (j + 1) = xs.take j ++ [x] := by rw [List.take_add_one, hx]; rfl
      have Htk := Lib.hid htk
      have hkf : KeepsFrom W.heap.size wr (wr.setCell ⟨Ba, 0, none⟩ (.int .i64 ((j : Int) + 1))) := (KeepsOthers.setCell wr ⟨Ba, 0, none⟩ _).from _
      have hR0 := hY (xs.take j) x _ (hMv (xs.take j) x wr (wr.setCell ⟨Ba, 0, none⟩ (.int .i64 ((j : Int) + 1))) HJ.out (by rw [List.length_take, Nat.min_eq_left hj]) hkf) (by rw [← htk]; exact List.take_prefix _ _)
      obtain ⟨fn, tmps, assign, body, hyd, hR⟩ := YieldAt.anyDepth rfl 2 hR0
      clear hx htk hR0 hask
      gi_wp2_with fail
      refine hR.mono ?_
      rintro e W2 ⟨-, (⟨rfl, hJ2, hK3⟩ | ⟨rfl, hx2⟩)⟩
      · gi_wp2_with fail
        gi_roundg (xs.length - (j + 1))
        case measure => rw [Hm.out]; omega
        case rel => exact ⟨j + 1, by go_num, by omega, Lib.hid rfl, Lib.hid (by rw [Htk.out]; exact hJ2), hK2.trans hK3⟩
      · gi_wp2_with fail
        refine bodyPost_ret (results_none rfl _ _ _) rfl ?_
        exact ⟨⟨_, rfl⟩, .inr ⟨xs.take (j + 1), List.take_prefix _ _, by rw [Htk.out]; exact hx2⟩⟩
    · obtain rfl : j = xs.length := by omega
      rw [List.take_length] at HJ
      gi_wp2_with fail
      go_end0
      exact ⟨⟨_, rfl⟩, .inl ⟨_, rfl, HJ.out⟩⟩

theorem gidle_T (n : Nat) (w : World) :
    CallsDIn Fence.wide n Try.prog 34 #[] .returning w fun e u' w' => e = .returned (.tuple #[]) ∧ u' = .returning ∧ w' = w := by
  refine callsDIn_of_wpSIn Try.func34 rfl trivial fun c₀ cs hu => ?_
  apply wpSIn_region
  simp [wpOpsSIn, go_sem, recoverD, hu, Try.ntmps34]
  cases c₀
  simp_all [bodyPostS, results, Try.results34]

/-- An append, not laid open. -/
noncomputable def appS (ts : Array TypeId) (ty : TypeId) (args : Array Value) : Sem Value := Builtin.append_ ts ty args

theorem append_fold (ts : Array TypeId) (ty : TypeId) (args : Array Value) : Builtin.append_ ts ty args = appS ts ty args := rfl

attribute [local go_sem ↓] append_fold

/-- What a round of gather holds on to: pre is gathered, m was asked for. -/
structure GI (w : World) (n1 Gp Ba k : Nat) (pre m : List Int) (W : World) : Prop where
  sz : n1 ≤ W.heap.size
  bg : W.heap[w.heap.size]? = some (.cells #[.pointer (some ⟨Gp, 0, none⟩)] 63 (0, 0))
  bk : W.heap[w.heap.size + 1]? = some (.cells #[.int .i64 k] 3 (0, 0))
  ask : Asked Ba m W
  ex : ∃ v, W.heap[Gp]? = some (.cells #[v] 28 (0, 0)) ∧ Rw en 3 n1 W v pre
  old : ∀ b, b < w.heap.size → b ≠ Ba → b ≠ Gp → W.heap[b]? = w.heap[b]?
  ext : W.os = w.os ∧ W.tape = w.tape ∧ W.output = w.output

theorem GI.grow {w : World} {n1 Gp Ba k : Nat} {pre m : List Int} {W W' : World} {row : Option Nat} (h : GI w n1 Gp Ba k pre m W) (hg : W.grownBy W' row) (hr : ∀ q, row = some q → w.heap.size ≤ q ∧ ∃ o : Obj, W.heap[q]? = some o ∧ o.isCells = false) : GI w n1 Gp Ba k pre m W' := by
  have hc := fun q e => (hr q e).2
  obtain ⟨v, h1, h2⟩ := h.ex
  refine ⟨Nat.le_trans h.sz hg.size, (grownBy_keeps_cells hg hc h.bg rfl).trans h.bg, (grownBy_keeps_cells hg hc h.bk rfl).trans h.bk, (grownBy_keeps_cells hg hc h.ask rfl).trans h.ask, ⟨v, (grownBy_keeps_cells hg hc h1 rfl).trans h1, Rw.grow h2 hg hc⟩, fun b hb h3 h4 => (hg.block b ?_ ?_).trans (h.old b hb h3 h4), ⟨hg.os.trans h.ext.1, hg.tape.trans h.ext.2.1, hg.output.trans h.ext.2.2⟩⟩
  · have := lt_of_block h.bg; omega
  · intro e; have := (hr b e.symm).1; omega

theorem GI.drew {w : World} {n1 Gp Ba k : Nat} {pre m : List Int} {W : World} (h : GI w n1 Gp Ba k pre m W) : GI w n1 Gp Ba k pre m W.drew := ⟨h.sz, h.bg, h.bk, h.ask, h.ex, h.old, h.ext⟩

theorem GI.mv {w : World} {n1 Gp Ba k : Nat} {pre m : List Int} {W : World} (h : GI w n1 Gp Ba k pre m W) (hGa : Gp ≠ Ba) (hA : Ba < w.heap.size) (hn : w.heap.size ≤ n1) (x : Int) : GI w n1 Gp Ba k pre (m ++ [x]) (W.setCell ⟨Ba, 0, none⟩ (.int .i64 ((m.length : Int) + 1))) := by
  have hs : ∀ b, b ≠ Ba → (W.setCell ⟨Ba, 0, none⟩ (.int .i64 ((m.length : Int) + 1))).heap[b]? = W.heap[b]? := fun b hb => Below.heap_setCell _ _ _ _ hb
  obtain ⟨v, h1, h2⟩ := h.ex
  refine ⟨by simpa [World.setCell] using h.sz, (hs _ (by omega)).trans h.bg, (hs _ (by omega)).trans h.bk, ?_, ⟨v, (hs _ hGa).trans h1, h2.keep fun g l e => hs g (by have := (h2.end_ge g l e).1; omega)⟩, fun b hb h3 h4 => (hs b h3).trans (h.old b hb h3 h4), h.ext⟩
  have := setCell_heap (i := 0) h.ask (.int .i64 ((m.length : Int) + 1))
  unfold Asked
  rw [this]
  simp

theorem GI.step {w : World} {n1 Gp Ba k : Nat} {pre m : List Int} {W w1 : World} {v v' : Value} {x : Int} (h : GI w n1 Gp Ba k pre m W) (hv : W.heap[Gp]? = some (.cells #[v] 28 (0, 0))) (hr : Rw en 3 n1 W v pre) (hGl : Gp < w.heap.size) (hAl : Ba < w.heap.size) (hGa : Gp ≠ Ba) (hn : w.heap.size + 2 ≤ n1)
    (hF : Fr (endOf v) (W.drew.alloc (.cells #[.int .i64 x] 3)) w1) (hE : ∀ g l, endOf v' = some (g, l) → (∃ l0, endOf v = some (g, l0) ∧ l0 ≤ l) ∨ (W.drew.alloc (.cells #[.int .i64 x] 3)).heap.size ≤ g) (hR : Rw en 3 n1 w1 v' (pre ++ [x])) :
    GI w n1 Gp Ba k (pre ++ [x]) m (w1.setCell ⟨Gp, 0, none⟩ v') ∧ KeepsFrom 0 W (w1.setCell ⟨Gp, 0, none⟩ v') ∧ KpP (fun b => b < w.heap.size ∧ b ≠ Ba ∧ b ≠ Gp) W (w1.setCell ⟨Gp, 0, none⟩ v') ∧ (w1.setCell ⟨Gp, 0, none⟩ v').heap[Gp]? = some (.cells #[v'] 28 (0, 0)) := by
  obtain ⟨s1, s2, s3, s4, s5, s6, s7⟩ := step_out Gp (W := W.drew) hv (hr.mono (by omega)) hF hE (hR.mono (by omega))
  have blk : ∀ b, b < W.heap.size → b ≠ Gp → b < n1 → (w1.setCell ⟨Gp, 0, none⟩ v').heap[b]? = W.heap[b]? := fun b hb h1 h2 => s5 b hb h1 (fun e => by have := (ob_lt hr b e.symm).1; omega)
  refine ⟨⟨Nat.le_trans h.sz s1.size, (blk _ (lt_of_block h.bg) (by omega) (by omega)).trans h.bg, (blk _ (lt_of_block h.bk) (by omega) (by omega)).trans h.bk, (blk _ (lt_of_block h.ask) (fun e => hGa e.symm) (by omega)).trans h.ask, ⟨v', s3, hR.keep fun g l e => Below.heap_setCell _ _ _ _ (by have := (hR.end_ge g l e).1; show g ≠ Gp; omega)⟩, fun b hb h1 h2 => (blk b (by have := h.sz; omega) h2 (by omega)).trans (h.old b hb h1 h2), ⟨s2.os.trans h.ext.1, s2.tape.trans h.ext.2.1, s2.output.trans h.ext.2.2⟩⟩, ⟨s1.size, fun q o hb hk => s1.same q o hb hk⟩, KpP.blocks fun b hb hl => blk b hl hb.2.2 (by have := hb.1; omega), s3⟩

set_option maxRecDepth 100000 in
set_option maxHeartbeats 2000000 in
theorem gather_T (Gp Bl Ba : Nat) (k : Nat) (w : World) (a : Option Addr) (cap : Nat) (xs : List Int) (hk1 : 1 ≤ k) (hG : w.heap[Gp]? = some (.cells #[.slice none 0 0] 28 (0, 0))) (hA : Asked Ba [] w) (hGa : Gp ≠ Ba) (hlb : Bl ≠ Ba) (hlg : Bl ≠ Gp) (h : w.cell? ⟨Bl, 0, none⟩ = some (.slice a xs.length cap)) (h5 : xs.length ≤ 65536)
    (hx : ∀ j x, xs[j]? = some x → ∃ g off, a = some ⟨g, off, none⟩ ∧ g ≠ Ba ∧ g ≠ Gp ∧ w.cell? ⟨g, off + j, none⟩ = some (.int .i64 x)) :
    Calls Try.prog 32 #[.pointer (some ⟨Gp, 0, none⟩), .func (.func 23) #[] #[.pointer (some ⟨Bl, 0, none⟩), .pointer (some ⟨Ba, 0, none⟩)], .int .i64 k] w fun e w' => (∃ u, e = .returned u) ∧ ∃ v, w'.heap[Gp]? = some (.cells #[v] 28 (0, 0)) ∧ Rw en 3 w.heap.size w' v (xs.take k) ∧ Asked Ba (xs.take k) w' ∧ (∀ b, b < w.heap.size → b ≠ Ba → b ≠ Gp → w'.heap[b]? = w.heap[b]?) ∧ w.heap.size ≤ w'.heap.size ∧ w'.os = w.os ∧ w'.tape = w.tape ∧ w'.output = w.output := by
  obtain ⟨i0, hi, hz0, hz1, hz2⟩ := info_parts' infoT
  have hmf : ∀ (fn : Fn) (first cap : Array Value) (w : World), (Instr.makeFunc fn first cap).run Try.prog w = .ok (.func fn first cap) w := fun _ _ _ _ => rfl
  refine (callsIn_wide (n := 4)).1 ?_
  refine callsIn_of_wp_marks Try.func32 rfl trivial ?_ rfl
  simp only [Try.ntmps32, List.size_toArray, List.length_cons, List.length_nil, Nat.reduceAdd, Nat.reduceSub, Array.replicate_succ, Array.replicate_zero, List.push_toArray, List.append_toArray, List.nil_append, List.cons_append]
  gi_wp2_with fail
  have hB1 : Below w.heap.size w ((w.alloc (.cells #[.pointer (some ⟨Gp, 0, none⟩)] 63)).alloc (.cells #[.int .i64 k] 3)) := ((Below.refl _ w).alloc (Nat.le_refl _) _).alloc (by simp) _
  have bG : ((w.alloc (.cells #[.pointer (some ⟨Gp, 0, none⟩)] 63)).alloc (.cells #[.int .i64 k] 3)).heap[w.heap.size]? = some (.cells #[.pointer (some ⟨Gp, 0, none⟩)] 63 (0, 0)) := (Below.heap_alloc _ _ _ (by simp)).trans (heap_alloc_new w (.cells #[.pointer (some ⟨Gp, 0, none⟩)] 63))
  have bK : ((w.alloc (.cells #[.pointer (some ⟨Gp, 0, none⟩)] 63)).alloc (.cells #[.int .i64 k] 3)).heap[w.heap.size + 1]? = some (.cells #[.int .i64 k] 3 (0, 0)) := by
    have := heap_alloc_new (w.alloc (.cells #[.pointer (some ⟨Gp, 0, none⟩)] 63)) (.cells #[.int .i64 k] 3)
    simpa only [World.size_alloc] using this
  have hsz : ((w.alloc (.cells #[.pointer (some ⟨Gp, 0, none⟩)] 63)).alloc (.cells #[.int .i64 k] 3)).heap.size = w.heap.size + 2 := by simp
  generalize (w.alloc (.cells #[.pointer (some ⟨Gp, 0, none⟩)] 63)).alloc (.cells #[.int .i64 k] 3) = W1 at hB1 bG bK hsz ⊢
  have hGl := lt_of_block hG
  have hAl := lt_of_block hA
  have own : ∀ {C : List Int → Prop} (f : List Int → List Int), OwnFrom W1.heap.size (fun pre W => C pre ∧ GI w W1.heap.size Gp Ba k pre (f pre) W) := by
    intro C f pre A D row ⟨hC, hG⟩ hg hr
    exact ⟨hC, hG.grow hg (fun q e => ⟨by have := (hr q e).1; omega, (hr q e).2⟩)⟩
  have h0 : GI w W1.heap.size Gp Ba k [] [] W1 := ⟨Nat.le_refl _, bG, bK, (hB1.block _ hAl).trans hA, ⟨_, (hB1.block _ hGl).trans hG, Rw.nil _⟩, fun b hb _ _ => hB1.block b hb, ⟨hB1.os, hB1.tape, hB1.output⟩⟩
  have hbl := World.block_lt_of_cell? w _ h
  let P : Nat → Prop := fun b => b < w.heap.size ∧ b ≠ Ba ∧ b ≠ Gp
  have hst := seq_stops 3 Bl Ba P W1 a cap xs (fun h => h.2.1 rfl) ⟨hbl, hlb, hlg⟩ ((hB1.cell (p := ⟨Bl, 0, none⟩) hbl).trans h) h5 (fun j x hj => by
    obtain ⟨g, off, e, h1, h2, hc⟩ := hx j x hj
    have hb := World.block_lt_of_cell? w _ hc
    exact ⟨g, off, e, ⟨hb, h1, h2⟩, (hB1.cell (p := ⟨g, off + j, none⟩) hb).trans hc⟩)
  refine wpIn_rangeM rfl (by omega) (gf := 23) (lb := #[.pointer (some ⟨Bl, 0, none⟩), .pointer (some ⟨Ba, 0, none⟩)]) rfl trivial (enters_of Try.func23 (by kernel_rfl) rfl)
    hst (fun h k => h.trans k) (fun W l o o' h hc => KpP.putObj W l o o' h hc) (Below.refl _ _) (fun _ => rfl)
    (fun pre W => pre.length < k ∧ GI w W1.heap.size Gp Ba k pre pre W)
    (fun pre x W => pre.length < k ∧ GI w W1.heap.size Gp Ba k pre (pre ++ [x]) W)
    (fun c pre W => (c = .ret ∧ pre.length = k) ∧ GI w W1.heap.size Gp Ba k pre pre W)
    (own (C := fun pre => pre.length < k) id) (fun x => own (C := fun pre => pre.length < k) (fun pre => pre ++ [x])) (fun c => own (C := fun pre => c = .ret ∧ pre.length = k) id)
    ⟨hk1, h0⟩
    (fun pre W h => h.2.ask) (fun pre x Wa Wb h e _ => by subst e; exact ⟨h.1, h.2.mv hGa hAl (by omega) x⟩) (fun pre Wa Wb _ h e _ => by subst e; exact h) (fun pre x Wa Wb e => by subst e; exact (KeepsOthers.setCell Wa ⟨Ba, 0, none⟩ _).from _) (fun _ _ _ e => by subst e; exact KeepsFrom.refl _ _)
    (fun pre x a' W => a' = { tmps := #[.pointer (some ⟨Gp, 0, none⟩), .func (.func 23) #[] #[.pointer (some ⟨Bl, 0, none⟩), .pointer (some ⟨Ba, 0, none⟩)], .int .i64 k, .pointer (some ⟨w.heap.size, 0, none⟩), undef, .pointer (some ⟨w.heap.size + 1, 0, none⟩), .int .i64 x, .func (.func 23) #[] #[.pointer (some ⟨Bl, 0, none⟩), .pointer (some ⟨Ba, 0, none⟩)], .int .i64 x, undef, undef, undef, undef, undef, undef, undef, undef, undef, undef, undef, undef, undef, undef], defers := [] } ∧ pre.length < k ∧ GI w W1.heap.size Gp Ba k pre (pre ++ [x]) W)
    (fun pre x a' _ A B row hs hg hr => ⟨hs.1, own (C := fun pre => pre.length < k) (fun pre => pre ++ [x]) pre A B row hs.2 hg hr⟩)
    ?assign ?body ?done ?stop
  case assign =>
    intro l pre x W K hm hK
    gi_wp2
    exact hK _ _ (KeepsFrom.refl _ _) (KpP.refl _ _) ⟨rfl, hm⟩
  case body =>
    rintro l pre x a' W hl ⟨r0, hr0⟩ ⟨rfl, hC, hI⟩ hpre
    have hlen : pre.length < xs.length := by have := hpre.length_le; simp at this; omega
    obtain ⟨v, hv, hR0⟩ := hI.ex
    obtain ⟨av, cv, rfl, -, -, -⟩ := hR0.src
    have ha : Below W.heap.size W (W.drew.alloc (.cells #[.int .i64 x] 3)) := (Below.refl _ W).drew.alloc (Nat.le_refl _) _
    have hn := heap_alloc_new W.drew (.cells #[.int .i64 x] 3)
    have hsx : Src1 en (W.drew.alloc (.cells #[.int .i64 x] 3)) (some ⟨W.heap.size, 0, none⟩) 1 [x] := .inr ⟨_, rfl, fun j y hy => by
      cases j with
      | zero => cases hy; exact cell_of_heap hn (i := 0) rfl
      | succ j => simp at hy⟩
    obtain ⟨v', w1, hrun, hR, hF, hE, hN⟩ := run_append_rw (P := Try.prog) (B := W1.heap.size) one (W.drew.alloc (.cells #[.int .i64 x] 3)) 28 28 i0 _ 8 Try.underlying28 hi hz0 hz1 hz2 rfl (.slice av pre.length cv) pre (hR0.below ha) _ 1 1 [x] rfl hsx (by simp; omega) (by simp; omega) (by have := hI.sz; have := ha.size; omega)
    have HI := Lib.hid hI
    obtain ⟨a', cap', rfl, -, -, -⟩ := hR.src
    simp only [List.length_append, List.length_cons, List.length_nil, Nat.zero_add] at hR hE hrun
    have HE := Lib.hid hE
    have HR := Lib.hid hR
    have HF := Lib.hid hF
    have HR0 := Lib.hid hR0
    have hcb2 : (W.alloc (.cells #[.int .i64 x] 3)).drew.cell? ⟨w.heap.size, 0, none⟩ = some (.pointer (some ⟨Gp, 0, none⟩)) := cell_of_heap (w := W.alloc (.cells #[.int .i64 x] 3)) ((ha.block _ (lt_of_block hI.bg)).trans hI.bg) (i := 0) rfl
    have hcg2 : (W.alloc (.cells #[.int .i64 x] 3)).drew.cell? ⟨Gp, 0, none⟩ = some (.slice av pre.length cv) := cell_of_heap (w := W.alloc (.cells #[.int .i64 x] 3)) ((ha.block _ (lt_of_block hv)).trans hv) (i := 0) rfl
    clear hE hN
    have hrun2 : (appS #[28, 28] 28 #[.slice av pre.length cv, .slice (some ⟨W.heap.size, 0, none⟩) 1 1]).run Try.prog (W.alloc (.cells #[.int .i64 x] 3)).drew = .ok (.slice a' (pre.length + 1) cap') w1 := hrun
    clear hrun
    have hcb : W.drew.cell? ⟨w.heap.size, 0, none⟩ = some (.pointer (some ⟨Gp, 0, none⟩)) := cell_of_heap (w := W) hI.bg (i := 0) rfl
    have hcg : W.drew.cell? ⟨Gp, 0, none⟩ = some (.slice av pre.length cv) := cell_of_heap (w := W) hv (i := 0) rfl
    have hv1 := (hF.block Gp (by have := ha.size; have := lt_of_block hv; omega) (fun g l e => by have := (hR0.end_ge g l e).1; omega)).trans ((ha.block _ (lt_of_block hv)).trans hv)
    have hcg1 : w1.cell? ⟨Gp, 0, none⟩ = some (.slice av pre.length cv) := cell_of_heap hv1 (i := 0) rfl
    have hfg1 := frozen_of_heap hv1 0
    have hcb1 : w1.cell? ⟨w.heap.size, 0, none⟩ = some (.pointer (some ⟨Gp, 0, none⟩)) := cell_of_heap ((hF.block _ (by have := ha.size; have := lt_of_block hI.bg; omega) (fun g l e => by have := (HR0.out.end_ge g l e).1; omega)).trans ((ha.block _ (lt_of_block hI.bg)).trans hI.bg)) (i := 0) rfl
    clear hF hR hR0
    gi_wp2_with fail
    refine wpIn_near (fun a2 w2 => a2 = { tmps := #[.pointer (some ⟨Gp, 0, none⟩), .func (.func 23) #[] #[.pointer (some ⟨Bl, 0, none⟩), .pointer (some ⟨Ba, 0, none⟩)], .int .i64 k, .pointer (some ⟨w.heap.size, 0, none⟩), undef, .pointer (some ⟨w.heap.size + 1, 0, none⟩), .int .i64 x, .func (.func 23) #[] #[.pointer (some ⟨Bl, 0, none⟩), .pointer (some ⟨Ba, 0, none⟩)], .int .i64 x, .pointer (some ⟨Gp, 0, none⟩), .pointer (some ⟨Gp, 0, none⟩), .pointer (some ⟨Gp, 0, none⟩), .slice av pre.length cv, .int .i64 x, .slice (some ⟨W.heap.size, 0, none⟩) 1 1, .slice a' (pre.length + 1) cap', .pointer (some ⟨Gp, 0, none⟩), undef, undef, undef, undef, undef, undef], defers := [] } ∧ w2 = w1.setCell ⟨Gp, 0, none⟩ (.slice a' (pre.length + 1) cap')) ?_ ?_
    · gi_region_with fail
      all_goals exact ⟨rfl, rfl⟩
    rintro a2 w2 ⟨rfl, rfl⟩
    obtain ⟨hI3, hK3, hP3, hv3⟩ := HI.out.step hv HR0.out hGl hAl hGa (by omega) HF.out HE.out HR.out
    have HI3 := Lib.hid hI3
    have HK3 := Lib.hid hK3
    have HP3 := Lib.hid hP3
    clear hcb hcg hv1 hcg1 hfg1 hrun2 hcb1 hcb2 hcg2 hsx ha hn hP3 hK3
    generalize w1.setCell ⟨Gp, 0, none⟩ (.slice a' (pre.length + 1) cap') = W3 at HI3 HK3 HP3 hv3 hI3 ⊢
    have hc1 : W3.drew.cell? ⟨w.heap.size, 0, none⟩ = some (.pointer (some ⟨Gp, 0, none⟩)) := cell_of_heap (w := W3) hI3.bg (i := 0) rfl
    have hc2 : W3.drew.cell? ⟨w.heap.size + 1, 0, none⟩ = some (.int .i64 k) := cell_of_heap (w := W3) hI3.bk (i := 0) rfl
    have hc3 : W3.drew.cell? ⟨Gp, 0, none⟩ = some (.slice a' (pre.length + 1) cap') := cell_of_heap (w := W3) hv3 (i := 0) rfl
    clear hI3 hv3
    by_cases hlast : pre.length + 1 = k
    · have f1 : ((pre.length : Int) + 1 == (k : Int)) = true := by simp; omega
      have f2 : (((pre.length + 1 : Nat) : Int) = (k : Int)) = True := eq_true (by omega)
      have Hlast := Lib.hid hlast
      clear hlast
      gi_wp2_with fail
      refine wpIn_near (fun a2 w2 => a2 = { tmps := #[.pointer (some ⟨Gp, 0, none⟩), .func (.func 23) #[] #[.pointer (some ⟨Bl, 0, none⟩), .pointer (some ⟨Ba, 0, none⟩)], .int .i64 k, .pointer (some ⟨w.heap.size, 0, none⟩), undef, .pointer (some ⟨w.heap.size + 1, 0, none⟩), .int .i64 x, .func (.func 23) #[] #[.pointer (some ⟨Bl, 0, none⟩), .pointer (some ⟨Ba, 0, none⟩)], .int .i64 x, .pointer (some ⟨Gp, 0, none⟩), .pointer (some ⟨Gp, 0, none⟩), .pointer (some ⟨Gp, 0, none⟩), .slice av pre.length cv, .int .i64 x, .slice (some ⟨W.heap.size, 0, none⟩) 1 1, .slice a' (pre.length + 1) cap', .pointer (some ⟨Gp, 0, none⟩), .pointer (some ⟨Gp, 0, none⟩), .pointer (some ⟨Gp, 0, none⟩), .slice a' (pre.length + 1) cap', .int .i64 ((pre.length : Int) + 1), .int .i64 k, .bool true], defers := [] } ∧ w2 = W3.drew) ?_ ?_
      · gi_region_with fail
        all_goals exact ⟨rfl, rfl⟩
      rintro a2 w2 ⟨rfl, rfl⟩
      gi_wp2_with fail
      exact ⟨⟨HK3.out.size, fun q o _ hk => HK3.out.same q o (Nat.zero_le _) hk⟩, ⟨rfl, by simpa using Hlast.out⟩, HI3.out.drew⟩
    · have f1 : ((pre.length : Int) + 1 == (k : Int)) = false := by simp; omega
      have f2 : (((pre.length + 1 : Nat) : Int) = (k : Int)) = False := eq_false (by omega)
      have Hlast : Hid (pre.length + 1 < k) := Lib.hid (by omega)
      clear hlast
      gi_wp2_with fail
      refine wpIn_near (fun a2 w2 => a2 = { tmps := #[.pointer (some ⟨Gp, 0, none⟩), .func (.func 23) #[] #[.pointer (some ⟨Bl, 0, none⟩), .pointer (some ⟨Ba, 0, none⟩)], .int .i64 k, .pointer (some ⟨w.heap.size, 0, none⟩), undef, .pointer (some ⟨w.heap.size + 1, 0, none⟩), .int .i64 x, .func (.func 23) #[] #[.pointer (some ⟨Bl, 0, none⟩), .pointer (some ⟨Ba, 0, none⟩)], .int .i64 x, .pointer (some ⟨Gp, 0, none⟩), .pointer (some ⟨Gp, 0, none⟩), .pointer (some ⟨Gp, 0, none⟩), .slice av pre.length cv, .int .i64 x, .slice (some ⟨W.heap.size, 0, none⟩) 1 1, .slice a' (pre.length + 1) cap', .pointer (some ⟨Gp, 0, none⟩), .pointer (some ⟨Gp, 0, none⟩), .pointer (some ⟨Gp, 0, none⟩), .slice a' (pre.length + 1) cap', .int .i64 ((pre.length : Int) + 1), .int .i64 k, .bool false], defers := [] } ∧ w2 = W3.drew) ?_ ?_
      · gi_region_with fail
        all_goals exact ⟨rfl, rfl⟩
      rintro a2 w2 ⟨rfl, rfl⟩
      gi_wp2_with fail
      exact ⟨⟨HK3.out.size, fun q o _ hk => HK3.out.same q o (Nat.zero_le _) hk⟩, HP3.out, by simpa using Hlast.out, HI3.out.drew⟩
  case done =>
    rintro D Y W hD hY ⟨hC, hI⟩ hK
    have hY' : Y = xs := hY
    rw [hY'] at hC hI
    gi_wp2_with fail
    refine ⟨by simp, .inl ⟨_, _, rfl, run_takeDeferred hK, ?_⟩⟩
    have hgr := grownBy_putObj' W D (.deferred none)
    have hrow : ∀ q, some D = some q → w.heap.size ≤ q ∧ ∃ o : Obj, W.heap[q]? = some o ∧ o.isCells = false := fun q e => by cases e; exact ⟨by omega, _, hK, rfl⟩
    refine ⟨by simp, .inr ⟨fun h => absurd h (by decide), .func 34, #[], 34, #[], rfl, by simp [go_sem], fun g hg => trivial, ?_⟩⟩
    refine (gidle_T _ _).mono ?_
    rintro e u' w' ⟨rfl, rfl, rfl⟩
    have hI2 := hI.grow hgr hrow
    obtain ⟨v, h1, h2⟩ := hI2.ex
    refine ⟨_, results_none rfl _ _ _, ⟨_, rfl⟩, v, h1, ?_, ?_, hI2.old, by have := hI2.sz; omega, hI2.ext⟩
    · rw [List.take_of_length_le (by omega)]; exact h2.mono (by omega)
    · rw [List.take_of_length_le (by omega)]; exact hI2.ask
  case stop =>
    rintro D c pre W hD hpre ⟨⟨rfl, hC⟩, hI⟩ hK
    gi_wp2_with fail
    refine ⟨by simp, .inl ⟨_, _, rfl, run_takeDeferred hK, ?_⟩⟩
    have hgr := grownBy_putObj' W D (.deferred none)
    have hrow : ∀ q, some D = some q → w.heap.size ≤ q ∧ ∃ o : Obj, W.heap[q]? = some o ∧ o.isCells = false := fun q e => by cases e; exact ⟨by omega, _, hK, rfl⟩
    refine ⟨by simp, .inr ⟨fun h => absurd h (by decide), .func 34, #[], 34, #[], rfl, by simp [go_sem], fun g hg => trivial, ?_⟩⟩
    refine (gidle_T _ _).mono ?_
    rintro e u' w' ⟨rfl, rfl, rfl⟩
    have hI2 := hI.grow hgr hrow
    obtain ⟨v, h1, h2⟩ := hI2.ex
    have e : xs.take k = pre := by
      obtain ⟨q, rfl⟩ := hpre
      rw [← hC, List.take_left']
      rfl
    rw [e]
    exact ⟨_, results_none rfl _ _ _, ⟨_, rfl⟩, v, h1, h2.mono (by omega), hI2.ask, hI2.old, by have := hI2.sz; omega, hI2.ext⟩

end Go.Proofs.Ytckdojneogeblaa.QI
