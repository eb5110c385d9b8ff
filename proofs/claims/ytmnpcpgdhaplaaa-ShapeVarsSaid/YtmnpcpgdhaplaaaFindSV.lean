/- What find of a tree's nodes answers. Conditions: the tree lies in memory, its members rise; at most 900000 members. -/
import Derived.Test.YtmnpcpgdhaplaaaTreeSV
import Derived.Test.YtmnpcpgdhaplaaaMg12
import Derived.Deep.LoopGhost
import Derived.Defers
import Derived.Recover
namespace Go.Proofs.Ytmnpcpgdhaplaaa.V
open Go Go.RowKit

theorem idle_T (a b c : Addr) (w : World) :
    CallsD Try.prog 122 #[.pointer (some a), .pointer (some b), .pointer (some c)] .returning w fun e u' w' => e = .returned (.tuple #[]) ∧ u' = .returning ∧ w' = w := by
  refine callsD_of_wpS Try.func122 rfl fun c₀ cs hu => ?_
  apply wpS_seq
  apply wpS_region
  simp [wpOpsS, go_sem, recoverD, hu, Try.ntmps122, Exit.thenS]
  refine wpS_cond (t := false) (by simp [Act.eval, Array.replicate]) ?_
  simp only [Bool.false_eq_true, if_false]
  refine wpS_of_wp (wp_skip ?_)
  cases c₀
  simp_all [bodyPostS, results, Try.results122]

/-- What find's loop holds: the parameter's box and the three results' boxes. -/
def FindW (q : Nat) (x : VarV) (c : Int) (W : World) : Prop :=
  W.heap[q]? = some (.cells #[.string x.name, .int .i64 x.nth] 121 (0, 0)) ∧ W.heap[q + 1]? = some (.cells #[.int .i64 c] 3 (0, 0)) ∧
  W.heap[q + 1 + 1]? = some (.cells #[.bool false] 4 (0, 0)) ∧ W.heap[q + 1 + 1 + 1]? = some (.cells #[.bool false] 4 (0, 0))

theorem FindW.start (w : World) (x : VarV) : FindW w.heap.size x 0 ((((w.alloc (.cells #[.string x.name, .int .i64 x.nth] 121)).alloc (.cells #[.int .i64 0] 3)).alloc (.cells #[.bool false] 4)).alloc (.cells #[.bool false] 4)) := by
  refine ⟨?_, ?_, ?_, ?_⟩
  · rw [Below.heap_alloc _ _ _ (by simp; omega), Below.heap_alloc _ _ _ (by simp; omega), Below.heap_alloc _ _ _ (by simp)]; exact heap_alloc_new _ _
  · rw [Below.heap_alloc _ _ _ (by simp <;> omega), Below.heap_alloc _ _ _ (by simp)]; simpa using heap_alloc_new (w.alloc (.cells #[.string x.name, .int .i64 x.nth] 121)) _
  · rw [Below.heap_alloc _ _ _ (by simp)]; simpa using heap_alloc_new ((w.alloc (.cells #[.string x.name, .int .i64 x.nth] 121)).alloc (.cells #[.int .i64 0] 3)) _
  · simpa using heap_alloc_new (((w.alloc (.cells #[.string x.name, .int .i64 x.nth] 121)).alloc (.cells #[.int .i64 0] 3)).alloc (.cells #[.bool false] 4)) _

theorem start_below (w : World) (x : VarV) : Below w.heap.size w ((((w.alloc (.cells #[.string x.name, .int .i64 x.nth] 121)).alloc (.cells #[.int .i64 0] 3)).alloc (.cells #[.bool false] 4)).alloc (.cells #[.bool false] 4)) :=
  ((((Below.refl _ w).alloc (Nat.le_refl _) _).alloc (by simp) _).alloc (by simp; omega) _).alloc (by simp; omega) _

theorem method_compare (a : ByteArray) (b : Int) (w : World) : (method 274 121 (.agg #[.string a, .int .i64 b]) "Compare").run Try.prog w = .ok (149, .agg #[.string a, .int .i64 b]) w := by kernel_rfl

theorem FindW.below {q : Nat} {x : VarV} {c : Int} {W W' : World} (h : FindW q x c W) (hB : Below W.heap.size W W') : FindW q x c W' := by
  obtain ⟨h0, h1, h2, h3⟩ := h
  exact ⟨(hB.block _ (lt_of_block h0)).trans h0, (hB.block _ (lt_of_block h1)).trans h1, (hB.block _ (lt_of_block h2)).trans h2, (hB.block _ (lt_of_block h3)).trans h3⟩

theorem FindW.put {q : Nat} {x : VarV} {c : Int} {W : World} (h : FindW q x c W) (c' : Int) : FindW q x c' (W.setCell ⟨q + 1, 0, none⟩ (.int .i64 c')).drew := by
  obtain ⟨h0, h1, h2, h3⟩ := h
  refine ⟨?_, one_setCell h1, ?_, ?_⟩
  · exact (Below.heap_setCell _ _ _ _ (by simp)).trans h0
  · exact (Below.heap_setCell _ _ _ _ (by show q + 1 + 1 ≠ q + 1; omega)).trans h2
  · exact (Below.heap_setCell _ _ _ _ (by show q + 1 + 1 + 1 ≠ q + 1; omega)).trans h3

theorem stored {q B : Nat} {c : Int} {x : VarV} {w W : World} (h : FindW q x c W) (hB : Below B w W) (hq : B ≤ q) (v1 v2 v3 : Value) :
    (((W.setCell ⟨q + 1, 0, none⟩ v1).setCell ⟨q + 1 + 1, 0, none⟩ v2).setCell ⟨q + 1 + 1 + 1, 0, none⟩ v3).cell? ⟨q + 1, 0, none⟩ = some v1 ∧
    (((W.setCell ⟨q + 1, 0, none⟩ v1).setCell ⟨q + 1 + 1, 0, none⟩ v2).setCell ⟨q + 1 + 1 + 1, 0, none⟩ v3).cell? ⟨q + 1 + 1, 0, none⟩ = some v2 ∧
    (((W.setCell ⟨q + 1, 0, none⟩ v1).setCell ⟨q + 1 + 1, 0, none⟩ v2).setCell ⟨q + 1 + 1 + 1, 0, none⟩ v3).cell? ⟨q + 1 + 1 + 1, 0, none⟩ = some v3 ∧
    Below B w (((W.setCell ⟨q + 1, 0, none⟩ v1).setCell ⟨q + 1 + 1, 0, none⟩ v2).setCell ⟨q + 1 + 1 + 1, 0, none⟩ v3) := by
  obtain ⟨h0, h1, h2, h3⟩ := h
  refine ⟨?_, ?_, ?_, ((hB.setCell (by show B ≤ q + 1; omega) _).setCell (by show B ≤ q + 1 + 1; omega) _).setCell (by show B ≤ q + 1 + 1 + 1; omega) _⟩
  · refine cell_of_one (t := 3) ?_
    rw [Below.heap_setCell _ _ _ _ (by show q + 1 ≠ q + 1 + 1 + 1; omega), Below.heap_setCell _ _ _ _ (by show q + 1 ≠ q + 1 + 1; omega)]
    exact one_setCell h1
  · refine cell_of_one (t := 4) ?_
    rw [Below.heap_setCell _ _ _ _ (by simp)]
    refine one_setCell (v := .bool false) ?_
    rw [Below.heap_setCell _ _ _ _ (by simp)]
    exact h2
  · refine cell_of_one (t := 4) ?_
    refine one_setCell (v := .bool false) ?_
    rw [Below.heap_setCell _ _ _ _ (by show q + 1 + 1 + 1 ≠ q + 1 + 1; omega), Below.heap_setCell _ _ _ _ (by show q + 1 + 1 + 1 ≠ q + 1; omega)]
    exact h3

set_option maxRecDepth 100000 in
set_option maxHeartbeats 800000 in
theorem find_T (t : Tr VarV) (w : World) (p : Option Addr) (x : VarV) (ht : LT w t p) (hso : Sorted varCmp t.list) (hs : t.size ≤ 900000) :
    Calls Try.prog 116 #[.pointer p, .agg #[.string x.name, .int .i64 x.nth]] w fun e w' => e = .returned (.tuple #[.int .i64 (pos varCmp t.list x), .bool (has varCmp t.list x), .bool true]) ∧ Below w.heap.size w w' := by
  have hmf : ∀ (fn : Fn) (first cap : Array Value) (w : World), (Instr.makeFunc fn first cap).run Try.prog w = .ok (.func fn first cap) w := fun _ _ _ _ => rfl
  have hme := method_compare
  have hst := Lib.hid (FindW.start w x)
  have hB0 := start_below w x
  have ht0 := ht.ext hB0
  go_enter_defers Try.func116, Try.ntmps116
  go_wp2_with fail
  go_loopg [0] t.size (fun k n wr => ∃ (t' : Tr VarV) (p' : Option Addr) (c : Nat) (z : Int), n = .pointer p' ∧ LT wr t' p' ∧ Hid (FindW w.heap.size x z wr) ∧ Sorted varCmp t'.list ∧
    Hid (pos varCmp t.list x = c + pos varCmp t'.list x ∧ has varCmp t.list x = has varCmp t'.list x ∧ k = t'.size ∧ c + t'.size ≤ t.size ∧ z = c) ∧ Below w.heap.size w wr)
  case atStart => exact ⟨t, p, 0, 0, rfl, ht0, hst, hso, ⟨by simp, rfl, rfl, by simp, rfl⟩, hB0⟩
  case round =>
    obtain ⟨t', p', c, z, rfl, ht', hF, hso', hR, hB⟩ := hrel
    cases t' with
    | nil =>
      obtain rfl : p' = none := ht'
      obtain ⟨f0, f1, f2, f3⟩ := hF.out
      have g1 := cell_of_one f1
      have g2 := cell_of_one f2
      have g3 := cell_of_one f3
      have k1 := free_of_one f1
      have k2 := free_of_one f2
      have k3 := free_of_one f3
      clear f0 f1 f2 f3
      go_wp2_with fail
      refine leaves_cons (f := 122) (args := #[.pointer (some ⟨w.heap.size + 1, 0, none⟩), .pointer (some ⟨w.heap.size + 1 + 1, 0, none⟩), .pointer (some ⟨w.heap.size + 1 + 1 + 1, 0, none⟩)]) (by simp) (by simp [go_sem]) ?_
      refine (idle_T _ _ _ _).mono ?_
      rintro e u' w'' ⟨rfl, rfl, rfl⟩
      obtain ⟨s1, s2, s3, sB⟩ := stored hF.out hB (Nat.le_refl _) (.int .i64 z) (.bool false) (.bool true)
      have hP := hR.out
      generalize ((wr.setCell ⟨w.heap.size + 1, 0, none⟩ (.int .i64 z)).setCell ⟨w.heap.size + 1 + 1, 0, none⟩ (.bool false)).setCell ⟨w.heap.size + 1 + 1 + 1, 0, none⟩ (.bool true) = W at s1 s2 s3 sB ⊢
      simp [Leaves, settle, results, Try.results116, go_sem, s1, s2, s3]
      exact ⟨⟨by rw [hP.1, hP.2.2.2.2]; simp [pos, Tr.list], by rw [hP.2.1]; rfl⟩, sB⟩
    | node l y r =>
      obtain ⟨b, pl, pr, rfl, hb, hl, hr⟩ := ht'
      obtain ⟨c0, c1, c2, -⟩ := node_cells hb
      have Hb := Lib.hid hb
      clear hb
      obtain ⟨f0, f1, f2, f3⟩ := hF.out
      have hx0 : wr.cell? ⟨w.heap.size, 0, none⟩ = some (.string x.name) ∧ wr.cell? ⟨w.heap.size, 1, none⟩ = some (.int .i64 x.nth) := by simp [World.cell?, f0]
      clear f0 f1 f2 f3
      go_wp2_with fail
      go_region_held3 (fun W => (W.cell? ⟨w.heap.size, 0, none⟩ = some (.string x.name) ∧ W.cell? ⟨w.heap.size, 1, none⟩ = some (.int .i64 x.nth)) ∧ (W.cell? ⟨b, 0, none⟩ = some (.string y.name) ∧ W.cell? ⟨b, 1, none⟩ = some (.int .i64 y.nth)))
        (first | go_keep | assumption)
        (first
          | ((with_reducible refine (var_compare wr.drew x y).mono ?_); rintro e w1 ⟨rfl, hb1⟩; have hC := ((Below.refl _ wr).drew.trans hb1); have hbl := lt_of_block Hb.out; have hF1 := hF.out.below hC; have hh : (w1.cell? ⟨w.heap.size, 0, none⟩ = some (.string x.name) ∧ w1.cell? ⟨w.heap.size, 1, none⟩ = some (.int .i64 x.nth)) ∧ (w1.cell? ⟨b, 0, none⟩ = some (.string y.name) ∧ w1.cell? ⟨b, 1, none⟩ = some (.int .i64 y.nth)) := ⟨mem_below hC (lt_of_block hF.out.1) hx0, mem_below hC hbl c0⟩)
          | fail "no arm")
      have hsz := size_node l r y
      have hk := hR.out
      rw [hsz] at hk
      have Hk := Lib.hid hk
      clear hk hR
      have d1 := (node_cells ((hC.block b hbl).trans Hb.out)).2.1
      have d2 := (node_cells ((hC.block b hbl).trans Hb.out)).2.2.1
      have hl1 := (hl.ext hC)
      have hr1 := (hr.ext hC)
      clear c0 c1 c2
      have hcb : c + l.size + 1 ≤ 900000 := by have := Hk.out.2.2.2; omega
      have hz0 : 0 ≤ z ∧ z + l.size + 1 ≤ 900000 := by have := Hk.out.2.2.2; omega
      rcases Int.lt_trichotomy (varCmp x y) 0 with hlt | heq | hgt
      · have h1 := pos_lt varCmp_lin hso' hlt
        have h2 := has_lt varCmp_lin hso' hlt
        have H12 := Lib.hid (And.intro h1 h2)
        clear h1 h2
        go_wp2_with fail
        go_roundg l.size
        case measure => have := Hk.out.2.2.1; omega
        case rel =>
          refine ⟨l, pl, c, z, rfl, hl1, Lib.hid hF1, sorted_left hso', Lib.hid ⟨?_, ?_, rfl, by have := Hk.out.2.2.2; omega, Hk.out.2.2.2.2⟩, hB.trans (hC.mono hB.size)⟩
          · rw [Hk.out.1]; exact congrArg _ H12.out.1
          · rw [Hk.out.2.1]; exact H12.out.2
      · have h1 := pos_eq varCmp_lin hso' heq
        have H12 := Lib.hid h1
        have hw1 : IntKind.i64.wrap (z + (l.size : Int)) = z + l.size := IntWalk.i64_in _ (by omega)
        have hz : (varCmp x y < 0) = False := by rw [heq]; simp
        have hz' : (0 < varCmp x y) = False := by rw [heq]; simp
        clear h1 heq
        have HF1 := Lib.hid hF1
        obtain ⟨f0, f1, f2, f3⟩ := hF1
        have g1 := cell_of_one f1
        have g2 := cell_of_one f2
        have g3 := cell_of_one f3
        have k1 := free_of_one f1
        have k2 := free_of_one f2
        have k3 := free_of_one f3
        clear f0 f1 f2 f3
        go_wp2_with fail
        refine wp_region_noPanic ?_
        go_region_with (go_at_call 99; refine (count_T _ _ _ (hl1.ext (Below.refl _ _).drew)).mono ?_; rintro e w' ⟨rfl, rfl⟩)
        all_goals refine NoPanic.normal ?_
        all_goals
          go_wp2_with fail
          refine leaves_cons (f := 122) (args := #[.pointer (some ⟨w.heap.size + 1, 0, none⟩), .pointer (some ⟨w.heap.size + 1 + 1, 0, none⟩), .pointer (some ⟨w.heap.size + 1 + 1 + 1, 0, none⟩)]) (by simp) (by simp [go_sem]) ?_
          refine (idle_T _ _ _ _).mono ?_
          rintro e u' w'' ⟨rfl, rfl, rfl⟩
          obtain ⟨s1, s2, s3, sB⟩ := stored HF1.out (hB.trans (hC.mono hB.size)) (Nat.le_refl _) (.int .i64 (z + l.size)) (.bool true) (.bool true)
          have hP := Hk.out
          have hQ := H12.out
          generalize ((w1.setCell ⟨w.heap.size + 1, 0, none⟩ (.int .i64 (z + l.size))).setCell ⟨w.heap.size + 1 + 1, 0, none⟩ (.bool true)).setCell ⟨w.heap.size + 1 + 1 + 1, 0, none⟩ (.bool true) = W at s1 s2 s3 sB ⊢
          simp [Leaves, settle, results, Try.results116, go_sem, s1, s2, s3]
          have e1 : pos varCmp t.list x = c + l.size := hP.1.trans (congrArg (c + ·) hQ.1)
          exact ⟨⟨by rw [e1, hP.2.2.2.2]; simp, hP.2.1.trans hQ.2⟩, sB.drew⟩
      · have h1 := pos_gt varCmp_lin hso' hgt
        have h2 := has_gt varCmp_lin hso' hgt
        have H12 := Lib.hid (And.intro h1 h2)
        clear h1 h2
        have hw1 : IntKind.i64.wrap ((l.size : Int) + 1) = (l.size : Int) + 1 := IntWalk.i64_in _ (by omega)
        have hw2 : IntKind.i64.wrap (z + ((l.size : Int) + 1)) = z + ((l.size : Int) + 1) := IntWalk.i64_in _ (by omega)
        have HF1 := Lib.hid hF1
        obtain ⟨f0, f1, f2, f3⟩ := hF1
        have g1 := cell_of_one f1
        have g2 := cell_of_one f2
        have g3 := cell_of_one f3
        have k1 := free_of_one f1
        have k2 := free_of_one f2
        have k3 := free_of_one f3
        clear f0 f1 f2 f3
        go_wp2_with fail
        refine wp_region_noPanic ?_
        go_region_with (go_at_call 99; refine (count_T _ _ _ (hl1.ext (Below.refl _ _).drew)).mono ?_; rintro e w' ⟨rfl, rfl⟩)
        all_goals refine NoPanic.normal ?_
        all_goals
          go_wp2_with fail
          go_roundg r.size
          case measure => have := Hk.out.2.2.1; omega
          case rel =>
            refine ⟨r, pr, c + (l.size + 1), z + (l.size + 1), rfl, (hr1.setCell HF1.out.2.1 (by decide) _).ext (Below.refl _ _).drew, Lib.hid (HF1.out.put _), sorted_right hso', Lib.hid ⟨?_, ?_, rfl, by have := Hk.out.2.2.2; omega, by have := Hk.out.2.2.2.2; omega⟩, (hB.trans (hC.mono hB.size)).trans (((Below.refl w.heap.size w1).setCell (by simp) _).drew)⟩
            · rw [Hk.out.1, show (l.node y r).list = l.list ++ y :: r.list from rfl, H12.out.1, show l.list.length = l.size from rfl]; omega
            · rw [Hk.out.2.1]; exact H12.out.2
end Go.Proofs.Ytmnpcpgdhaplaaa.V
