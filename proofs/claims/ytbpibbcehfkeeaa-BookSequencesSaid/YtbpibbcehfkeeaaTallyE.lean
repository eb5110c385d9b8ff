/- What tally does to a map. Conditions: the map and the list lie in memory. -/
import Derived.Test.YtbpibbcehfkeeaaPairsEE
import Derived.Test.YtbpibbcehfkeeaaOfSS
import Derived.RecoverIn
namespace Go.Proofs.Ytbpibbcehfkeeaa.E
open Go Go.RowKit Go.Shelf

attribute [local go_sem] Oper.semAt_some

theorem setat_grown {W W' : World} {row : Option Nat} {s : Nat} {L : List EntV} (h : SetAt W s L) (hg : W.grownBy W' row) (hr : ∀ r, row = some r → ∃ o : Obj, W.heap[r]? = some o ∧ o.isCells = false) : SetAt W' s L := by
  obtain ⟨t, p, h1, h2, h3⟩ := h
  exact ⟨t, p, (grownBy_keeps_cells hg hr h1 rfl).trans h1, IsT.keep (fun b c hb => (grownBy_keeps_cells hg hr hb rfl).trans hb) t p h2, h3⟩

theorem but_grown {B s : Nat} {w W W' : World} {row : Option Nat} (h : But s w W) (hg : W.grownBy W' row) (hr : ∀ r, row = some r → B ≤ r) (hB : w.heap.size ≤ B) : But s w W' :=
  ⟨hg.os.trans h.os, hg.tape.trans h.tape, hg.output.trans h.output, Nat.le_trans h.size hg.size, fun k hk hs => (hg.block k (Nat.lt_of_lt_of_le hk h.size) (fun e => by have := hr k e.symm; omega)).trans (h.block k hk hs)⟩

theorem tidle_T (n : Nat) (w : World) :
    CallsDIn Fence.wide n Try.prog 92 #[] .returning w fun e u' w' => e = .returned (.tuple #[]) ∧ u' = .returning ∧ w' = w := by
  refine callsDIn_of_wpSIn Try.func92 rfl trivial fun c₀ cs hu => ?_
  apply wpSIn_region
  simp [wpOpsSIn, go_sem, recoverD, hu, Try.ntmps92]
  cases c₀
  simp_all [bodyPostS, results, Try.results92]

/-- How often a thing has come. -/
def valOf (L : List EntV) (x : SymV) : Int := if has entCmp L ⟨x, 0⟩ then (match L[pos entCmp L ⟨x, 0⟩]? with | some y => y.v | none => 0) else 0

theorem mapget_T (w : World) (m s : Nat) (L : List EntV) (k : SymV) (h : MapAt w m s L) (hs : L.length ≤ 700000) :
    Calls Try.prog 18 #[.pointer (some ⟨m, 0, none⟩), .agg #[.int .i64 k.k, .string k.t, .int .i64 k.n]] w fun e w' => e = .returned (.tuple #[.int .i64 (valOf L k), .bool (has entCmp L ⟨k, 0⟩)]) ∧ Below w.heap.size w w' := by
  unfold valOf
  cases hh : has entCmp L ⟨k, 0⟩
  · refine (mapget_no w m s L k h hs hh).mono ?_
    rintro e w' ⟨rfl, hB⟩
    exact ⟨rfl, hB⟩
  · refine (mapget_yes w m s L k h hs hh).mono ?_
    rintro e w' ⟨⟨y, rfl, hy⟩, hB⟩
    rw [hy]
    exact ⟨rfl, hB⟩

/-- What one thing does to the counts. -/
def count1 (L : List EntV) (x : SymV) : List EntV := put entCmp (drop entCmp L ⟨x, valOf L x + 1⟩) ⟨x, valOf L x + 1⟩

theorem mem_drop_sub {α : Type} {cmp : α → α → Int} {L : List α} {x y : α} (h : y ∈ drop cmp L x) : y ∈ L := by
  unfold drop at h
  split at h
  · exact (List.eraseIdx_sublist _ _).subset h
  · exact h

theorem mem_put_sub {α : Type} {cmp : α → α → Int} {L : List α} {x y : α} (h : y ∈ put cmp L x) : y = x ∨ y ∈ L := by
  unfold put at h
  split at h
  · exact .inr h
  · exact mem_ins.1 h

theorem val_bound {L : List EntV} {n : Nat} (h : ∀ y ∈ L, 0 ≤ y.v ∧ y.v ≤ n) (x : SymV) : 0 ≤ valOf L x ∧ valOf L x ≤ n := by
  unfold valOf
  split
  · split
    · rename_i y hy; exact h y (List.mem_of_getElem? hy)
    · omega
  · omega

theorem count_bound (xs : List SymV) : ∀ (L : List EntV) (n : Nat), (∀ y ∈ L, 0 ≤ y.v ∧ y.v ≤ n) → ∀ y ∈ xs.foldl count1 L, 0 ≤ y.v ∧ y.v ≤ ((n + xs.length : Nat) : Int) := by
  induction xs with
  | nil => intro L n h; simpa using h
  | cons x xs ih =>
    intro L n h y hy
    have hv := val_bound h x
    have := ih (count1 L x) (n + 1) (fun z hz => by
      rcases mem_put_sub hz with rfl | hz
      · show 0 ≤ valOf L x + 1 ∧ valOf L x + 1 ≤ ((n + 1 : Nat) : Int); omega
      · have := h z (mem_drop_sub hz); omega) y hy
    simp at this ⊢; omega

theorem count_length (xs : List SymV) : ∀ L : List EntV, (xs.foldl count1 L).length ≤ L.length + xs.length := by
  induction xs with
  | nil => intro L; simp
  | cons x xs ih =>
    intro L
    have h1 := ih (count1 L x)
    have h2 : (count1 L x).length ≤ L.length + 1 := by
      unfold count1
      have := length_put entCmp (drop entCmp L ⟨x, valOf L x + 1⟩) ⟨x, valOf L x + 1⟩
      have := length_drop entCmp L ⟨x, valOf L x + 1⟩
      omega
    simp; omega

set_option pp.deepTerms true
set_option pp.maxSteps 1000000
set_option maxRecDepth 100000 in
set_option maxHeartbeats 2000000 in
theorem tally_T (w : World) (m s Bn : Nat) (v : Value) (xs : List SymV) (h : MapAt w m s []) (hB : w.heap[Bn]? = some (.cells #[v] 29 (0, 0))) (hv : S.SliceOf w v xs) (hs : xs.length ≤ 1000) :
    Calls Try.prog 66 #[.pointer (some ⟨m, 0, none⟩), .func (.func 67) #[] #[.pointer (some ⟨Bn, 0, none⟩)]] w fun e w' => (∃ u, e = .returned u) ∧ MapAt w' m s (xs.foldl count1 []) ∧ But s w w' := by
  have hmf : ∀ (fn : Fn) (first cap : Array Value) (w : World), (Instr.makeFunc fn first cap).run Try.prog w = .ok (.func fn first cap) w := fun _ _ _ _ => rfl
  refine (callsIn_wide (n := 4)).1 ?_
  refine callsIn_of_wp_marks Try.func66 rfl trivial ?_ rfl
  simp only [Try.ntmps66, List.size_toArray, List.length_cons, List.length_nil, Nat.reduceAdd, Nat.reduceSub, Array.replicate_succ, Array.replicate_zero, List.push_toArray, List.append_toArray, List.nil_append, List.cons_append]
  gi_wp2_with fail
  have hss := h.2.lt
  have hsc : ∀ b o z, w.cell? ⟨b, o, none⟩ = some (.int .i64 z) → b ≠ s := by
    rintro b o z hz rfl
    obtain ⟨t, p, h1, -⟩ := h.2
    simp [World.cell?, h1] at hz
    cases o <;> simp at hz
  have hBs : Bn ≠ s := by
    rintro rfl
    obtain ⟨t, p, h1, -⟩ := h.2
    rw [h1] at hB
    simp at hB
  have hBw : Below w.heap.size w (w.alloc (.cells #[.pointer (some ⟨m, 0, none⟩)] 23)) := (Below.refl _ w).alloc (Nat.le_refl _) _
  have hmb := heap_alloc_new w (.cells #[.pointer (some ⟨m, 0, none⟩)] 23)
  have hM1 := h.below hBw
  have hsz : (w.alloc (.cells #[.pointer (some ⟨m, 0, none⟩)] 23)).heap.size = w.heap.size + 1 := by simp
  generalize (w.alloc (.cells #[.pointer (some ⟨m, 0, none⟩)] 23)) = W1 at hBw hmb hM1 hsz ⊢
  refine wpIn_rangeW rfl (by omega) (gf := 67) (lb := #[.pointer (some ⟨Bn, 0, none⟩)]) rfl trivial (enters_of Try.func67 (by kernel_rfl) rfl)
    (S.of_stops 3 W1.heap.size s Bn v xs w hB hv (by omega) (by omega) hBs hsc) (fun h k => h.trans k) (fun W l o o' h hc => S.KpO.putObj W l o o' h hc) hBw (fun _ => rfl)
    (fun pre V => MapAt V m s (pre.foldl count1 []) ∧ But s W1 V)
    (fun _ _ _ => False)
    (fun _ A B row h hg hr => ⟨⟨(grownBy_keeps_cells hg (fun r e => (hr r e).2) h.1.1 rfl).trans h.1.1, setat_grown h.1.2 hg (fun r e => (hr r e).2)⟩, but_grown h.2 hg (fun r e => (hr r e).1) (Nat.le_refl _)⟩)
    (fun _ _ _ _ _ hs _ _ => hs)
    ⟨hM1, But.refl _ _⟩
    (fun x a' V => ∃ Bx, W1.heap.size ≤ Bx ∧ V.heap[Bx]? = some (.cells #[.int .i64 x.k, .string x.t, .int .i64 x.n] 26 (0, 0)) ∧ a' = { tmps := #[.pointer (some ⟨m, 0, none⟩), .func (.func 67) #[] #[.pointer (some ⟨Bn, 0, none⟩)], .pointer (some ⟨w.heap.size, 0, none⟩), undef, .pointer (some ⟨Bx, 0, none⟩), undef, undef, .func (.func 67) #[] #[.pointer (some ⟨Bn, 0, none⟩)], .agg #[.int .i64 x.k, .string x.t, .int .i64 x.n], undef, undef, undef, undef, undef, undef, undef, undef, undef, undef, undef], defers := [] })
    (fun x a' s A B row hs hg hr => by
      obtain ⟨Bx, h1, h2, h3⟩ := hs
      refine ⟨Bx, h1, (hg.block Bx (lt_of_block h2) (fun e => ?_)).trans h2, h3⟩
      obtain ⟨-, o, ho, hc⟩ := hr Bx e.symm
      rw [h2] at ho; cases ho; cases hc)
    ?assign ?body ?done ?stop
  case assign =>
    rintro l2 pre x V K ⟨hm, hb⟩ hK
    have hba : Below V.heap.size V (V.alloc (.cells #[.int .i64 x.k, .string x.t, .int .i64 x.n] 26)) := (Below.refl _ V).alloc (Nat.le_refl _) _
    gi_wp2
    exact hK _ _ ((KeepsOthers.alloc _ _).from _) (S.KpO.of_but (But.of_below hba)) ⟨hm.below hba, hb.trans (But.of_below hba)⟩ ⟨V.heap.size, hb.size, heap_alloc_new V _, rfl⟩
  case body =>
    rintro l2 pre x a' V hl2 ⟨r0, hr0⟩ ⟨hm, hb⟩ ⟨Bx, hBx, bX, rfl⟩ hpre
    have hlen : pre.length < xs.length := by
      have := hpre.length_le
      simp at this; omega
    have hbv := hb.size
    have hcl := count_length pre []
    have hbd := val_bound (count_bound pre [] 0 (by simp)) x
    have hfo : (pre ++ [x]).foldl count1 [] = count1 (pre.foldl count1 []) x := by rw [List.foldl_append]; rfl
    have Hfo := Lib.hid hfo
    simp only [List.length_nil, Nat.zero_add] at hcl hbd
    have hBxl := lt_of_block bX
    have hf : ∀ W, But s V W → W.cell? ⟨w.heap.size, 0, none⟩ = some (.pointer (some ⟨m, 0, none⟩)) ∧ (W.cell? ⟨Bx, 0, none⟩ = some (.int .i64 x.k) ∧ W.cell? ⟨Bx, 1, none⟩ = some (.string x.t) ∧ W.cell? ⟨Bx, 2, none⟩ = some (.int .i64 x.n)) := by
      intro W hW
      have e1 := (hW.block Bx hBxl (by omega)).trans bX
      exact ⟨cell_of_one (((hb.trans hW).block _ (by omega) (by omega)).trans hmb), by simp [World.cell?, e1]⟩
    obtain ⟨f0, f1, f2, f3⟩ := hf V (But.refl _ _)
    generalize pre.foldl count1 [] = L at hm hcl hbd Hfo
    have hget := callsIn_wide (n := 1).2 (mapget_T V m s L x hm (by omega))
    obtain ⟨q, hq⟩ : ∃ q, valOf L x = q := ⟨_, rfl⟩
    obtain ⟨u, hu⟩ : ∃ u, has entCmp L ⟨x, 0⟩ = u := ⟨_, rfl⟩
    rw [hq, hu] at hget
    rw [hq] at hbd
    have Hq := Lib.hid hq
    clear hq hu hfo
    gi_wp2_with fail
    refine ⟨trivial, ?_⟩
    refine (CallsIn.inRound l2 hget).mono ?_
    rintro e w5 ⟨rfl, hB5⟩
    obtain ⟨g0, g1, g2, g3⟩ := hf w5 (But.of_below hB5)
    have hput := mapput_T w5 m s L ⟨x, q + 1⟩ (hm.below hB5) (by omega)
    have hq1 : 0 ≤ q + 1 := by omega
    have hq2 : q + 1 ≤ 100000 := by omega
    have hput2 := callsIn_wide (n := 1).2 hput
    dsimp only at hput2
    gi_wp2_with fail
    refine ⟨trivial, ?_⟩
    refine (CallsIn.inRound l2 hput2).mono ?_
    rintro e w6 ⟨rfl, hM6, hb6⟩
    have hb56 := (But.of_below (s := s) hB5).trans hb6
    gi_wp2_with fail
    exact ⟨⟨hb56.size, fun k o hB hk _ => (hb56.block k (Array.getElem?_eq_some_iff.1 hk).1 (by omega)).trans hk⟩, S.KpO.of_but hb56, ⟨by rw [Hfo.out]; unfold count1; rw [Hq.out]; exact hM6, hb.trans hb56⟩⟩
  case done =>
    rintro D ys V hD rfl ⟨hm, hb⟩ hK
    gi_wp2_with fail
    refine ⟨by simp, .inl ⟨_, _, rfl, run_takeDeferred hK, ?_⟩⟩
    have hgr := grownBy_putObj' V D (.deferred none)
    have hrow : ∀ r, some D = some r → ∃ o : Obj, V.heap[r]? = some o ∧ o.isCells = false := fun r e => by cases e; exact ⟨_, hK, rfl⟩
    refine ⟨by simp, .inr ⟨fun h => absurd h (by decide), .func 92, #[], 92, #[], rfl, by simp [go_sem], fun g hg => trivial, ?_⟩⟩
    refine (tidle_T _ _).mono ?_
    rintro e u' w' ⟨rfl, rfl, rfl⟩
    refine ⟨_, results_none rfl _ _ _, ⟨_, rfl⟩, ⟨(grownBy_keeps_cells hgr hrow hm.1 rfl).trans hm.1, setat_grown hm.2 hgr hrow⟩, ?_⟩
    exact (But.of_below hBw).trans (but_grown hb hgr (fun r e => by cases e; exact hD) (Nat.le_refl _))
  case stop =>
    rintro D c pre W _ _ h _
    exact h.elim

end Go.Proofs.Ytbpibbcehfkeeaa.E
