/- What find of a tree's nodes answers. Conditions: the tree lies in memory, its members rise; at most 900000 members. -/
import Derived.Test.YtcpgjekkcpfpaaaTreeSO
import Derived.Test.YtcpgjekkcpfpaaaMg7
import Derived.Deep.LoopGhost
import Derived.Defers
import Derived.Recover
namespace Go.Proofs.Ytcpgjekkcpfpaaa.O
open Go Go.RowKit

theorem idle_T (a b c : Addr) (w : World) :
    CallsD Try.prog 35 #[.pointer (some a), .pointer (some b), .pointer (some c)] .returning w fun e u' w' => e = .returned (.tuple #[]) ∧ u' = .returning ∧ w' = w := by
  refine callsD_of_wpS Try.func35 rfl fun c₀ cs hu => ?_
  apply wpS_seq
  apply wpS_region
  simp [wpOpsS, go_sem, recoverD, hu, Try.ntmps35, Exit.thenS]
  refine wpS_cond (t := false) (by simp [Act.eval, Array.replicate]) ?_
  simp only [Bool.false_eq_true, if_false]
  refine wpS_of_wp (wp_skip ?_)
  cases c₀
  simp_all [bodyPostS, results, Try.results35]

/-- What find's loop holds: the parameter's box and the three results' boxes. -/
def FindW (q : Nat) (x : ElmV) (c : Int) (W : World) : Prop :=
  W.heap[q]? = some (.cells #[.int .i64 x.id.k, .string x.id.t, .int .i64 x.id.n, .int .i64 x.attr.k, .string x.attr.t, .int .i64 x.attr.n, .int .i64 x.val.k, .string x.val.t, .int .i64 x.val.n, .bool x.acc, .bool x.goal, .int .i64 x.tag] 29 (0, 0)) ∧ W.heap[q + 1]? = some (.cells #[.int .i64 c] 3 (0, 0)) ∧
  W.heap[q + 1 + 1]? = some (.cells #[.bool false] 4 (0, 0)) ∧ W.heap[q + 1 + 1 + 1]? = some (.cells #[.bool false] 4 (0, 0))

theorem FindW.start (w : World) (x : ElmV) : FindW w.heap.size x 0 ((((w.alloc (.cells #[.int .i64 x.id.k, .string x.id.t, .int .i64 x.id.n, .int .i64 x.attr.k, .string x.attr.t, .int .i64 x.attr.n, .int .i64 x.val.k, .string x.val.t, .int .i64 x.val.n, .bool x.acc, .bool x.goal, .int .i64 x.tag] 29)).alloc (.cells #[.int .i64 0] 3)).alloc (.cells #[.bool false] 4)).alloc (.cells #[.bool false] 4)) := by
  refine ⟨?_, ?_, ?_, ?_⟩
  · rw [Below.heap_alloc _ _ _ (by simp; omega), Below.heap_alloc _ _ _ (by simp; omega), Below.heap_alloc _ _ _ (by simp)]; exact heap_alloc_new _ _
  · rw [Below.heap_alloc _ _ _ (by simp <;> omega), Below.heap_alloc _ _ _ (by simp)]; simpa using heap_alloc_new (w.alloc (.cells #[.int .i64 x.id.k, .string x.id.t, .int .i64 x.id.n, .int .i64 x.attr.k, .string x.attr.t, .int .i64 x.attr.n, .int .i64 x.val.k, .string x.val.t, .int .i64 x.val.n, .bool x.acc, .bool x.goal, .int .i64 x.tag] 29)) _
  · rw [Below.heap_alloc _ _ _ (by simp)]; simpa using heap_alloc_new ((w.alloc (.cells #[.int .i64 x.id.k, .string x.id.t, .int .i64 x.id.n, .int .i64 x.attr.k, .string x.attr.t, .int .i64 x.attr.n, .int .i64 x.val.k, .string x.val.t, .int .i64 x.val.n, .bool x.acc, .bool x.goal, .int .i64 x.tag] 29)).alloc (.cells #[.int .i64 0] 3)) _
  · simpa using heap_alloc_new (((w.alloc (.cells #[.int .i64 x.id.k, .string x.id.t, .int .i64 x.id.n, .int .i64 x.attr.k, .string x.attr.t, .int .i64 x.attr.n, .int .i64 x.val.k, .string x.val.t, .int .i64 x.val.n, .bool x.acc, .bool x.goal, .int .i64 x.tag] 29)).alloc (.cells #[.int .i64 0] 3)).alloc (.cells #[.bool false] 4)) _

theorem start_below (w : World) (x : ElmV) : Below w.heap.size w ((((w.alloc (.cells #[.int .i64 x.id.k, .string x.id.t, .int .i64 x.id.n, .int .i64 x.attr.k, .string x.attr.t, .int .i64 x.attr.n, .int .i64 x.val.k, .string x.val.t, .int .i64 x.val.n, .bool x.acc, .bool x.goal, .int .i64 x.tag] 29)).alloc (.cells #[.int .i64 0] 3)).alloc (.cells #[.bool false] 4)).alloc (.cells #[.bool false] 4)) :=
  ((((Below.refl _ w).alloc (Nat.le_refl _) _).alloc (by simp) _).alloc (by simp; omega) _).alloc (by simp; omega) _

theorem method_compare (a : Int) (b : ByteArray) (c : Int) (d : Int) (e : ByteArray) (f : Int) (g : Int) (h : ByteArray) (i : Int) (j l : Bool) (o : Int) (w : World) : (method 208 29 (.agg #[.int .i64 a, .string b, .int .i64 c, .int .i64 d, .string e, .int .i64 f, .int .i64 g, .string h, .int .i64 i, .bool j, .bool l, .int .i64 o]) "Compare").run Try.prog w = .ok (72, .agg #[.int .i64 a, .string b, .int .i64 c, .int .i64 d, .string e, .int .i64 f, .int .i64 g, .string h, .int .i64 i, .bool j, .bool l, .int .i64 o]) w := by kernel_rfl

theorem FindW.below {q : Nat} {x : ElmV} {c : Int} {W W' : World} (h : FindW q x c W) (hB : Below W.heap.size W W') : FindW q x c W' := by
  obtain ⟨h0, h1, h2, h3⟩ := h
  exact ⟨(hB.block _ (lt_of_block h0)).trans h0, (hB.block _ (lt_of_block h1)).trans h1, (hB.block _ (lt_of_block h2)).trans h2, (hB.block _ (lt_of_block h3)).trans h3⟩

theorem FindW.put {q : Nat} {x : ElmV} {c : Int} {W : World} (h : FindW q x c W) (c' : Int) : FindW q x c' (W.setCell ⟨q + 1, 0, none⟩ (.int .i64 c')).drew := by
  obtain ⟨h0, h1, h2, h3⟩ := h
  refine ⟨?_, one_setCell h1, ?_, ?_⟩
  · exact (Below.heap_setCell _ _ _ _ (by simp)).trans h0
  · exact (Below.heap_setCell _ _ _ _ (by show q + 1 + 1 ≠ q + 1; omega)).trans h2
  · exact (Below.heap_setCell _ _ _ _ (by show q + 1 + 1 + 1 ≠ q + 1; omega)).trans h3

theorem stored {q B : Nat} {c : Int} {x : ElmV} {w W : World} (h : FindW q x c W) (hB : Below B w W) (hq : B ≤ q) (v1 v2 v3 : Value) :
    (((W.setCell ⟨q + 1, 0, none⟩ v1).setCell ⟨q + 1 + 1, 0, none⟩ v2).setCell ⟨q + 1 + 1 + 1, 0, none⟩ v3).cell? ⟨q + 1, 0, none⟩ = some v1 ∧
    (((W.setCell ⟨q + 1, 0, none⟩ v1).setCell ⟨q + 1 + 1, 0, none⟩ v2).setCell ⟨q + 1 + 1 + 1, 0, none⟩ v3).cell? ⟨q + 1 + 1, 0, none⟩ = some v2 ∧
    (((W.setCell ⟨q + 1, 0, none⟩ v1).setCell ⟨q + 1 + 1, 0, none⟩ v2).setCell ⟨q + 1 + 1 + 1, 0, none⟩ v3).cell? ⟨q + 1 + 1 + 1, 0, none⟩ = some v3 ∧
    Below B w (((W.setCell ⟨q + 1, 0, none⟩ v1).setCell ⟨q + 1 + 1, 0, none⟩ v2).setCell ⟨q + 1 + 1 + 1, 0, none⟩ v3) := by
  obtain ⟨h0, h1, h2, h3⟩ := h
  refine ⟨?_, ?_, ?_, ((hB.setCell (by show B ≤ q + 1; omega) _).setCell (by show B ≤ q + 1 + 1; omega) _).setCell (by show B ≤ q + 1 + 1 + 1; omega) _⟩
  · refine cell_of_one (t := 3) ?_
    rw [Below.heap_setCell _ _ _ _ (by show q + 1 ≠ q + 1 + 1 + 1; omega), Below.heap_setCell _ _ _ _ (by show q + 1 ≠ q + 1 + 1; omega)]
    exact one_setCell h1
  · refine cell_of_one (t := 4) ?_
    rw [Below.heap_setCell _ _ _ _ (by simp)]
    refine one_setCell (v := .bool false) ?_
    rw [Below.heap_setCell _ _ _ _ (by simp)]
    exact h2
  · refine cell_of_one (t := 4) ?_
    refine one_setCell (v := .bool false) ?_
    rw [Below.heap_setCell _ _ _ _ (by show q + 1 + 1 + 1 ≠ q + 1 + 1; omega), Below.heap_setCell _ _ _ _ (by show q + 1 + 1 + 1 ≠ q + 1; omega)]
    exact h3

set_option maxRecDepth 100000 in
set_option maxHeartbeats 800000 in
theorem find_T (t : Tr ElmV) (w : World) (p : Option Addr) (x : ElmV) (ht : LT w t p) (hso : Sorted elmCmp t.list) (hs : t.size ≤ 900000) :
    Calls Try.prog 25 #[.pointer p, .agg #[.int .i64 x.id.k, .string x.id.t, .int .i64 x.id.n, .int .i64 x.attr.k, .string x.attr.t, .int .i64 x.attr.n, .int .i64 x.val.k, .string x.val.t, .int .i64 x.val.n, .bool x.acc, .bool x.goal, .int .i64 x.tag]] w fun e w' => e = .returned (.tuple #[.int .i64 (pos elmCmp t.list x), .bool (has elmCmp t.list x), .bool true]) ∧ Below w.heap.size w w' := by
  have hmf : ∀ (fn : Fn) (first cap : Array Value) (w : World), (Instr.makeFunc fn first cap).run Try.prog w = .ok (.func fn first cap) w := fun _ _ _ _ => rfl
  have hme := method_compare
  have hst := Lib.hid (FindW.start w x)
  have hB0 := start_below w x
  have ht0 := ht.ext hB0
  go_enter_defers Try.func25, Try.ntmps25
  go_wp2_with fail
  go_loopg [0] t.size (fun k n wr => ∃ (t' : Tr ElmV) (p' : Option Addr) (c : Nat) (z : Int), n = .pointer p' ∧ LT wr t' p' ∧ Hid (FindW w.heap.size x z wr) ∧ Sorted elmCmp t'.list ∧
    Hid (pos elmCmp t.list x = c + pos elmCmp t'.list x ∧ has elmCmp t.list x = has elmCmp t'.list x ∧ k = t'.size ∧ c + t'.size ≤ t.size ∧ z = c) ∧ Below w.heap.size w wr)
  case atStart => exact ⟨t, p, 0, 0, rfl, ht0, hst, hso, ⟨by simp, rfl, rfl, by simp, rfl⟩, hB0⟩
  case round =>
    obtain ⟨t', p', c, z, rfl, ht', hF, hso', hR, hB⟩ := hrel
    cases t' with
    | nil =>
      obtain rfl : p' = none := ht'
      obtain ⟨f0, f1, f2, f3⟩ := hF.out
      have g1 := cell_of_one f1
      have g2 := cell_of_one f2
      have g3 := cell_of_one f3
      have k1 := free_of_one f1
      have k2 := free_of_one f2
      have k3 := free_of_one f3
      clear f0 f1 f2 f3
      go_wp2_with fail
      refine leaves_cons (f := 35) (args := #[.pointer (some ⟨w.heap.size + 1, 0, none⟩), .pointer (some ⟨w.heap.size + 1 + 1, 0, none⟩), .pointer (some ⟨w.heap.size + 1 + 1 + 1, 0, none⟩)]) (by simp) (by simp [go_sem]) ?_
      refine (idle_T _ _ _ _).mono ?_
      rintro e u' w'' ⟨rfl, rfl, rfl⟩
      obtain ⟨s1, s2, s3, sB⟩ := stored hF.out hB (Nat.le_refl _) (.int .i64 z) (.bool false) (.bool true)
      have hP := hR.out
      generalize ((wr.setCell ⟨w.heap.size + 1, 0, none⟩ (.int .i64 z)).setCell ⟨w.heap.size + 1 + 1, 0, none⟩ (.bool false)).setCell ⟨w.heap.size + 1 + 1 + 1, 0, none⟩ (.bool true) = W at s1 s2 s3 sB ⊢
      simp [Leaves, settle, results, Try.results25, go_sem, s1, s2, s3]
      exact ⟨⟨by rw [hP.1, hP.2.2.2.2]; simp [pos, Tr.list], by rw [hP.2.1]; rfl⟩, sB⟩
    | node l y r =>
      obtain ⟨b, pl, pr, rfl, hb, hl, hr⟩ := ht'
      obtain ⟨c0, c1, c2, -⟩ := node_cells hb
      have Hb := Lib.hid hb
      clear hb
      obtain ⟨f0, f1, f2, f3⟩ := hF.out
      have hx0 : wr.cell? ⟨w.heap.size, 0, none⟩ = some (.int .i64 x.id.k) ∧ wr.cell? ⟨w.heap.size, 1, none⟩ = some (.string x.id.t) ∧ wr.cell? ⟨w.heap.size, 2, none⟩ = some (.int .i64 x.id.n) ∧ wr.cell? ⟨w.heap.size, 3, none⟩ = some (.int .i64 x.attr.k) ∧ wr.cell? ⟨w.heap.size, 4, none⟩ = some (.string x.attr.t) ∧ wr.cell? ⟨w.heap.size, 5, none⟩ = some (.int .i64 x.attr.n) ∧ wr.cell? ⟨w.heap.size, 6, none⟩ = some (.int .i64 x.val.k) ∧ wr.cell? ⟨w.heap.size, 7, none⟩ = some (.string x.val.t) ∧ wr.cell? ⟨w.heap.size, 8, none⟩ = some (.int .i64 x.val.n) ∧ wr.cell? ⟨w.heap.size, 9, none⟩ = some (.bool x.acc) ∧ wr.cell? ⟨w.heap.size, 10, none⟩ = some (.bool x.goal) ∧ wr.cell? ⟨w.heap.size, 11, none⟩ = some (.int .i64 x.tag) := by simp [World.cell?, f0]
      clear f0 f1 f2 f3
      go_wp2_with fail
      go_region_held3 (fun W => (W.cell? ⟨w.heap.size, 0, none⟩ = some (.int .i64 x.id.k) ∧ W.cell? ⟨w.heap.size, 1, none⟩ = some (.string x.id.t) ∧ W.cell? ⟨w.heap.size, 2, none⟩ = some (.int .i64 x.id.n) ∧ W.cell? ⟨w.heap.size, 3, none⟩ = some (.int .i64 x.attr.k) ∧ W.cell? ⟨w.heap.size, 4, none⟩ = some (.string x.attr.t) ∧ W.cell? ⟨w.heap.size, 5, none⟩ = some (.int .i64 x.attr.n) ∧ W.cell? ⟨w.heap.size, 6, none⟩ = some (.int .i64 x.val.k) ∧ W.cell? ⟨w.heap.size, 7, none⟩ = some (.string x.val.t) ∧ W.cell? ⟨w.heap.size, 8, none⟩ = some (.int .i64 x.val.n) ∧ W.cell? ⟨w.heap.size, 9, none⟩ = some (.bool x.acc) ∧ W.cell? ⟨w.heap.size, 10, none⟩ = some (.bool x.goal) ∧ W.cell? ⟨w.heap.size, 11, none⟩ = some (.int .i64 x.tag)) ∧ (W.cell? ⟨b, 0, none⟩ = some (.int .i64 y.id.k) ∧ W.cell? ⟨b, 1, none⟩ = some (.string y.id.t) ∧ W.cell? ⟨b, 2, none⟩ = some (.int .i64 y.id.n) ∧ W.cell? ⟨b, 3, none⟩ = some (.int .i64 y.attr.k) ∧ W.cell? ⟨b, 4, none⟩ = some (.string y.attr.t) ∧ W.cell? ⟨b, 5, none⟩ = some (.int .i64 y.attr.n) ∧ W.cell? ⟨b, 6, none⟩ = some (.int .i64 y.val.k) ∧ W.cell? ⟨b, 7, none⟩ = some (.string y.val.t) ∧ W.cell? ⟨b, 8, none⟩ = some (.int .i64 y.val.n) ∧ W.cell? ⟨b, 9, none⟩ = some (.bool y.acc) ∧ W.cell? ⟨b, 10, none⟩ = some (.bool y.goal) ∧ W.cell? ⟨b, 11, none⟩ = some (.int .i64 y.tag)))
        (first | go_keep | assumption)
        (first
          | ((with_reducible refine (elm_compare wr.drew x y).mono ?_); rintro e w1 ⟨rfl, hb1⟩; have hC := ((Below.refl _ wr).drew.trans hb1); have hbl := lt_of_block Hb.out; have hF1 := hF.out.below hC; have hh : (w1.cell? ⟨w.heap.size, 0, none⟩ = some (.int .i64 x.id.k) ∧ w1.cell? ⟨w.heap.size, 1, none⟩ = some (.string x.id.t) ∧ w1.cell? ⟨w.heap.size, 2, none⟩ = some (.int .i64 x.id.n) ∧ w1.cell? ⟨w.heap.size, 3, none⟩ = some (.int .i64 x.attr.k) ∧ w1.cell? ⟨w.heap.size, 4, none⟩ = some (.string x.attr.t) ∧ w1.cell? ⟨w.heap.size, 5, none⟩ = some (.int .i64 x.attr.n) ∧ w1.cell? ⟨w.heap.size, 6, none⟩ = some (.int .i64 x.val.k) ∧ w1.cell? ⟨w.heap.size, 7, none⟩ = some (.string x.val.t) ∧ w1.cell? ⟨w.heap.size, 8, none⟩ = some (.int .i64 x.val.n) ∧ w1.cell? ⟨w.heap.size, 9, none⟩ = some (.bool x.acc) ∧ w1.cell? ⟨w.heap.size, 10, none⟩ = some (.bool x.goal) ∧ w1.cell? ⟨w.heap.size, 11, none⟩ = some (.int .i64 x.tag)) ∧ (w1.cell? ⟨b, 0, none⟩ = some (.int .i64 y.id.k) ∧ w1.cell? ⟨b, 1, none⟩ = some (.string y.id.t) ∧ w1.cell? ⟨b, 2, none⟩ = some (.int .i64 y.id.n) ∧ w1.cell? ⟨b, 3, none⟩ = some (.int .i64 y.attr.k) ∧ w1.cell? ⟨b, 4, none⟩ = some (.string y.attr.t) ∧ w1.cell? ⟨b, 5, none⟩ = some (.int .i64 y.attr.n) ∧ w1.cell? ⟨b, 6, none⟩ = some (.int .i64 y.val.k) ∧ w1.cell? ⟨b, 7, none⟩ = some (.string y.val.t) ∧ w1.cell? ⟨b, 8, none⟩ = some (.int .i64 y.val.n) ∧ w1.cell? ⟨b, 9, none⟩ = some (.bool y.acc) ∧ w1.cell? ⟨b, 10, none⟩ = some (.bool y.goal) ∧ w1.cell? ⟨b, 11, none⟩ = some (.int .i64 y.tag)) := ⟨mem_below hC (lt_of_block hF.out.1) hx0, mem_below hC hbl c0⟩)
          | fail "no arm")
      have hsz := size_node l r y
      have hk := hR.out
      rw [hsz] at hk
      have Hk := Lib.hid hk
      clear hk hR
      have d1 := (node_cells ((hC.block b hbl).trans Hb.out)).2.1
      have d2 := (node_cells ((hC.block b hbl).trans Hb.out)).2.2.1
      have hl1 := (hl.ext hC)
      have hr1 := (hr.ext hC)
      clear c0 c1 c2
      have hcb : c + l.size + 1 ≤ 900000 := by have := Hk.out.2.2.2; omega
      have hz0 : 0 ≤ z ∧ z + l.size + 1 ≤ 900000 := by have := Hk.out.2.2.2; omega
      rcases Int.lt_trichotomy (elmCmp x y) 0 with hlt | heq | hgt
      · have h1 := pos_lt elmCmp_lin hso' hlt
        have h2 := has_lt elmCmp_lin hso' hlt
        have H12 := Lib.hid (And.intro h1 h2)
        clear h1 h2
        go_wp2_with fail
        go_roundg l.size
        case measure => have := Hk.out.2.2.1; omega
        case rel =>
          refine ⟨l, pl, c, z, rfl, hl1, Lib.hid hF1, sorted_left hso', Lib.hid ⟨?_, ?_, rfl, by have := Hk.out.2.2.2; omega, Hk.out.2.2.2.2⟩, hB.trans (hC.mono hB.size)⟩
          · rw [Hk.out.1]; exact congrArg _ H12.out.1
          · rw [Hk.out.2.1]; exact H12.out.2
      · have h1 := pos_eq elmCmp_lin hso' heq
        have H12 := Lib.hid h1
        have hw1 : IntKind.i64.wrap (z + (l.size : Int)) = z + l.size := IntWalk.i64_in _ (by omega)
        have hz : (elmCmp x y < 0) = False := by rw [heq]; simp
        have hz' : (0 < elmCmp x y) = False := by rw [heq]; simp
        clear h1 heq
        have HF1 := Lib.hid hF1
        obtain ⟨f0, f1, f2, f3⟩ := hF1
        have g1 := cell_of_one f1
        have g2 := cell_of_one f2
        have g3 := cell_of_one f3
        have k1 := free_of_one f1
        have k2 := free_of_one f2
        have k3 := free_of_one f3
        clear f0 f1 f2 f3
        go_wp2_with fail
        refine wp_region_noPanic ?_
        go_region_with (go_at_call 32; refine (count_T _ _ _ (hl1.ext (Below.refl _ _).drew)).mono ?_; rintro e w' ⟨rfl, rfl⟩)
        all_goals refine NoPanic.normal ?_
        all_goals
          go_wp2_with fail
          refine leaves_cons (f := 35) (args := #[.pointer (some ⟨w.heap.size + 1, 0, none⟩), .pointer (some ⟨w.heap.size + 1 + 1, 0, none⟩), .pointer (some ⟨w.heap.size + 1 + 1 + 1, 0, none⟩)]) (by simp) (by simp [go_sem]) ?_
          refine (idle_T _ _ _ _).mono ?_
          rintro e u' w'' ⟨rfl, rfl, rfl⟩
          obtain ⟨s1, s2, s3, sB⟩ := stored HF1.out (hB.trans (hC.mono hB.size)) (Nat.le_refl _) (.int .i64 (z + l.size)) (.bool true) (.bool true)
          have hP := Hk.out
          have hQ := H12.out
          generalize ((w1.setCell ⟨w.heap.size + 1, 0, none⟩ (.int .i64 (z + l.size))).setCell ⟨w.heap.size + 1 + 1, 0, none⟩ (.bool true)).setCell ⟨w.heap.size + 1 + 1 + 1, 0, none⟩ (.bool true) = W at s1 s2 s3 sB ⊢
          simp [Leaves, settle, results, Try.results25, go_sem, s1, s2, s3]
          have e1 : pos elmCmp t.list x = c + l.size := hP.1.trans (congrArg (c + ·) hQ.1)
          exact ⟨⟨by rw [e1, hP.2.2.2.2]; simp, hP.2.1.trans hQ.2⟩, sB.drew⟩
      · have h1 := pos_gt elmCmp_lin hso' hgt
        have h2 := has_gt elmCmp_lin hso' hgt
        have H12 := Lib.hid (And.intro h1 h2)
        clear h1 h2
        have hw1 : IntKind.i64.wrap ((l.size : Int) + 1) = (l.size : Int) + 1 := IntWalk.i64_in _ (by omega)
        have hw2 : IntKind.i64.wrap (z + ((l.size : Int) + 1)) = z + ((l.size : Int) + 1) := IntWalk.i64_in _ (by omega)
        have HF1 := Lib.hid hF1
        obtain ⟨f0, f1, f2, f3⟩ := hF1
        have g1 := cell_of_one f1
        have g2 := cell_of_one f2
        have g3 := cell_of_one f3
        have k1 := free_of_one f1
        have k2 := free_of_one f2
        have k3 := free_of_one f3
        clear f0 f1 f2 f3
        go_wp2_with fail
        refine wp_region_noPanic ?_
        go_region_with (go_at_call 32; refine (count_T _ _ _ (hl1.ext (Below.refl _ _).drew)).mono ?_; rintro e w' ⟨rfl, rfl⟩)
        all_goals refine NoPanic.normal ?_
        all_goals
          go_wp2_with fail
          go_roundg r.size
          case measure => have := Hk.out.2.2.1; omega
          case rel =>
            refine ⟨r, pr, c + (l.size + 1), z + (l.size + 1), rfl, (hr1.setCell HF1.out.2.1 (by decide) _).ext (Below.refl _ _).drew, Lib.hid (HF1.out.put _), sorted_right hso', Lib.hid ⟨?_, ?_, rfl, by have := Hk.out.2.2.2; omega, by have := Hk.out.2.2.2.2; omega⟩, (hB.trans (hC.mono hB.size)).trans (((Below.refl w.heap.size w1).setCell (by simp) _).drew)⟩
            · rw [Hk.out.1, show (l.node y r).list = l.list ++ y :: r.list from rfl, H12.out.1, show l.list.length = l.size from rfl]; omega
            · rw [Hk.out.2.1]; exact H12.out.2
end Go.Proofs.Ytcpgjekkcpfpaaa.O
