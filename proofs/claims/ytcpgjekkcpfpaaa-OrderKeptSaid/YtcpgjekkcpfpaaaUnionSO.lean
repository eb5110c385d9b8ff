/- What Union of two sets makes. Conditions: the sets lie in memory; at most 300000 members. -/
import Derived.Test.YtcpgjekkcpfpaaaMg23
import Derived.Test.YtcpgjekkcpfpaaaMg11
namespace Go.Proofs.Ytcpgjekkcpfpaaa.O
open Go Go.RowKit Go.Shelf

attribute [local go_sem] Oper.semAt_some

theorem SetAt.grown {W W' : World} {row : Option Nat} {s : Nat} {L : List ElmV} (h : SetAt W s L) (hg : W.grownBy W' row) (hr : ∀ r, row = some r → ∃ o : Obj, W.heap[r]? = some o ∧ o.isCells = false) : SetAt W' s L := by
  obtain ⟨t, p, h1, h2, h3⟩ := h
  exact ⟨t, p, (grownBy_keeps_cells hg hr h1 rfl).trans h1, IsT.keep (fun b c hb => (grownBy_keeps_cells hg hr hb rfl).trans hb) t p h2, h3⟩

theorem but_grown {B s : Nat} {w W W' : World} {row : Option Nat} (h : But s w W) (hg : W.grownBy W' row) (hr : ∀ r, row = some r → B ≤ r) (hB : w.heap.size ≤ B) : But s w W' :=
  ⟨hg.os.trans h.os, hg.tape.trans h.tape, hg.output.trans h.output, Nat.le_trans h.size hg.size, fun k hk hs => (hg.block k (Nat.lt_of_lt_of_le hk h.size) (fun e => by have := hr k e.symm; omega)).trans (h.block k hk hs)⟩

theorem keepsFrom_but {B s : Nat} {W W' : World} (h : But s W W') (hs : s < B) : KeepsFrom B W W' := ⟨h.size, fun k _ hB hk _ => (h.block k (lt_of_block hk) (by omega)).trans hk⟩

theorem but_cell {s : Nat} {W W' : World} {b o : Nat} {v : Value} (h : But s W W') (hb : b ≠ s) (hc : W.cell? ⟨b, o, none⟩ = some v) : W'.cell? ⟨b, o, none⟩ = some v :=
  (World.cell?_of_block (h.block b (World.block_lt_of_cell? W _ hc) hb)).trans hc

set_option maxRecDepth 100000 in
set_option maxHeartbeats 2000000 in
theorem union_T (w : World) (s r : Nat) (L R : List ElmV) (hS : SetAt w s L) (hR : SetAt w r R) (hs : L.length ≤ 300000) (hr : R.length ≤ 300000) :
    Calls Try.prog 10 #[.pointer (some ⟨s, 0, none⟩), .pointer (some ⟨r, 0, none⟩)] w fun e w' => ∃ c, e = .returned (.pointer (some ⟨c, 0, none⟩)) ∧ w.heap.size ≤ c ∧ SetAt w' c (R.foldl (put elmCmp) L) ∧ Below w.heap.size w w' := by
  refine (callsIn_wide (n := 3)).1 ?_
  refine callsIn_of_wp_marks Try.func10 rfl trivial ?_ rfl
  simp only [Try.ntmps10, List.size_toArray, List.length_cons, List.length_nil, Nat.reduceAdd, Nat.reduceSub, Array.replicate_succ, Array.replicate_zero, List.push_toArray, List.append_toArray, List.nil_append, List.cons_append]
  gi_wp2_with fail
  refine ⟨trivial, ?_⟩
  refine (callsIn_wide.2 (clone_T _ s L hS)).mono ?_
  rintro e w1 ⟨rfl, hC, hB1⟩
  gi_wp2_with fail
  refine ⟨trivial, ?_⟩
  refine (callsIn_wide.2 (all_T _ (some ⟨r, 0, none⟩))).mono ?_
  rintro e w2 ⟨rfl, rfl⟩
  gi_wp2_with fail
  have hB2 : Below w1.heap.size w1 ((w1.alloc (.cells #[.pointer (some ⟨w.heap.size, 0, none⟩)] 24)).alloc (.cells #[.pointer (some ⟨r, 0, none⟩)] 24)) := ((Below.refl _ w1).alloc (Nat.le_refl _) _).alloc (by simp) _
  have hC2 := hC.below hB2
  have hB3 := hB1.trans (hB2.mono hB1.size)
  have hR2 := hR.below hB3
  have hb2 := heap_alloc_new (w1.alloc (.cells #[.pointer (some ⟨w.heap.size, 0, none⟩)] 24)) (.cells #[.pointer (some ⟨r, 0, none⟩)] 24)
  have hpc : ((w1.alloc (.cells #[.pointer (some ⟨w.heap.size, 0, none⟩)] 24)).alloc (.cells #[.pointer (some ⟨r, 0, none⟩)] 24)).cell? ⟨w1.heap.size, 0, none⟩ = some (.pointer (some ⟨w.heap.size, 0, none⟩)) := by go_simp
  have hsz : ((w1.alloc (.cells #[.pointer (some ⟨w.heap.size, 0, none⟩)] 24)).alloc (.cells #[.pointer (some ⟨r, 0, none⟩)] 24)).heap.size = w1.heap.size + 2 := by simp
  simp only [World.size_alloc] at hb2
  have hcl := hC.lt
  generalize ((w1.alloc (.cells #[.pointer (some ⟨w.heap.size, 0, none⟩)] 24)).alloc (.cells #[.pointer (some ⟨r, 0, none⟩)] 24)) = W2 at hB3 hpc hsz hB2 hb2 hC2 hR2 ⊢
  clear hB2 hC hB1
  refine wpIn_rangeFunc_ownH rfl (by omega) (gf := 20) (lb := #[.pointer (some ⟨w1.heap.size + 1, 0, none⟩)]) rfl trivial (enters_of Try.func20 (by kernel_rfl) rfl)
    (all_stops 2 W2.heap.size _ r R W2 hb2 hR2 (by omega) (Nat.le_refl _)) (fun h k => h.trans k) (fun W l o o' _ h hc _ => Kp.putObj W l o o' h hc) (Below.refl _ _) (fun _ => rfl)
    (fun pre W => SetAt W w.heap.size (pre.foldl (put elmCmp) L) ∧ But w.heap.size W2 W)
    (fun _ _ _ => False)
    (fun s A B row hs hg hr => ⟨hs.1.grown hg (fun r e => (hr r e).2), but_grown hs.2 hg (fun r e => (hr r e).1) (Nat.le_refl _)⟩)
    (fun _ _ _ _ _ hs _ _ => hs)
    ⟨hC2, But.refl _ _⟩
    (fun x a' W => ∃ Bx, w1.heap.size < Bx ∧ W.heap[Bx]? = some (.cells #[.int .i64 x.id.k, .string x.id.t, .int .i64 x.id.n, .int .i64 x.attr.k, .string x.attr.t, .int .i64 x.attr.n, .int .i64 x.val.k, .string x.val.t, .int .i64 x.val.n, .bool x.acc, .bool x.goal, .int .i64 x.tag] 29 (0, 0)) ∧ a' = { tmps := #[.pointer (some ⟨s, 0, none⟩), .pointer (some ⟨r, 0, none⟩), undef, undef, .pointer none, .pointer (some ⟨w1.heap.size, 0, none⟩), .pointer (some ⟨Bx, 0, none⟩), .pointer (some ⟨s, 0, none⟩), .pointer (some ⟨w.heap.size, 0, none⟩), .pointer (some ⟨r, 0, none⟩), .func (.func 20) #[] #[.pointer (some ⟨w1.heap.size + 1, 0, none⟩)], .agg #[.int .i64 x.id.k, .string x.id.t, .int .i64 x.id.n, .int .i64 x.attr.k, .string x.attr.t, .int .i64 x.attr.n, .int .i64 x.val.k, .string x.val.t, .int .i64 x.val.n, .bool x.acc, .bool x.goal, .int .i64 x.tag], undef, undef, undef, undef], defers := [] })
    (fun x a' s A B row hs hg hr => by
      obtain ⟨Bx, h1, h2, h3⟩ := hs
      refine ⟨Bx, h1, (hg.block Bx (lt_of_block h2) (fun e => ?_)).trans h2, h3⟩
      obtain ⟨-, o, ho, hc⟩ := hr Bx e.symm
      rw [h2] at ho; cases ho; cases hc)
    ?assign ?body ?done ?stop
  case assign =>
    rintro l pre x W K ⟨hp, hb⟩ hK
    have hba : Below W.heap.size W (W.alloc (.cells #[.int .i64 x.id.k, .string x.id.t, .int .i64 x.id.n, .int .i64 x.attr.k, .string x.attr.t, .int .i64 x.attr.n, .int .i64 x.val.k, .string x.val.t, .int .i64 x.val.n, .bool x.acc, .bool x.goal, .int .i64 x.tag] 29)) := (Below.refl _ W).alloc (Nat.le_refl _) _
    gi_wp2
    exact hK _ _ ((KeepsOthers.alloc _ _).from _) (Kp.of_below (hba.mono hb.size)) ⟨hp.below hba, hb.trans (But.of_below hba)⟩ ⟨W.heap.size, by have := hb.size; omega, heap_alloc_new W _, rfl⟩
  case body =>
    rintro l pre x a' W hl ⟨q, hq⟩ ⟨hp, hb⟩ ⟨Bx, hBx, bX, rfl⟩ hlt
    have hm : W.cell? ⟨Bx, 0, none⟩ = some (.int .i64 x.id.k) ∧ W.cell? ⟨Bx, 1, none⟩ = some (.string x.id.t) ∧ W.cell? ⟨Bx, 2, none⟩ = some (.int .i64 x.id.n) ∧ W.cell? ⟨Bx, 3, none⟩ = some (.int .i64 x.attr.k) ∧ W.cell? ⟨Bx, 4, none⟩ = some (.string x.attr.t) ∧ W.cell? ⟨Bx, 5, none⟩ = some (.int .i64 x.attr.n) ∧ W.cell? ⟨Bx, 6, none⟩ = some (.int .i64 x.val.k) ∧ W.cell? ⟨Bx, 7, none⟩ = some (.string x.val.t) ∧ W.cell? ⟨Bx, 8, none⟩ = some (.int .i64 x.val.n) ∧ W.cell? ⟨Bx, 9, none⟩ = some (.bool x.acc) ∧ W.cell? ⟨Bx, 10, none⟩ = some (.bool x.goal) ∧ W.cell? ⟨Bx, 11, none⟩ = some (.int .i64 x.tag) := by simp [World.cell?, bX]
    have hpc' := but_cell hb (by omega) hpc
    have hlen : (pre.foldl (put elmCmp) L).length ≤ 800000 := by
      have := putl_length pre L
      omega
    have hpl := callsIn_wide (n := 0).2 (put_T W _ _ x hp hlen)
    have hd : 1 ≤ 3 - 1 - 1 := by omega
    gi_wp2_with fail
    refine ⟨trivial, ?_⟩
    refine (CallsIn.inRound l hpl).mono ?_
    rintro e w3 ⟨rfl, hS3, hb3⟩
    gi_wp2_with fail
    obtain ⟨t0, p0, hc0, -⟩ := hp
    exact ⟨keepsFrom_but hb3 (by omega), Kp.of_but hb3 hc0 (by decide), by rw [List.foldl_append]; exact hS3, hb.trans hb3⟩
  case done =>
    rintro D ys W hD rfl ⟨hp, hb⟩ hK
    have hpc' := but_cell hb (by omega) hpc
    gi_wp2
    refine ⟨by simp, .inl ⟨_, _, rfl, run_takeDeferred hK, ?_⟩⟩
    refine ⟨_, results_tmp rfl _ _ _, w.heap.size, rfl, Nat.le_refl _, hp.grown (grownBy_putObj' _ D (.deferred none)) (fun r e => by cases e; exact ⟨_, hK, rfl⟩), ?_⟩
    exact (But.below hB3 hb (Nat.le_refl _) hB3.size).trans (belowK_b (w := W2) (by omega) _ D _ _ hD hK rfl rfl)
  case stop =>
    rintro D c pre W _ _ h _
    exact h.elim

end Go.Proofs.Ytcpgjekkcpfpaaa.O
