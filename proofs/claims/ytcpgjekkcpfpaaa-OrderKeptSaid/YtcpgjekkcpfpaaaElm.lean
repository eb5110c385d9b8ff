/- Elements, their order, and what Compare of api.Elem answers. Conditions: none. -/
import Derived.Test.YtcpgjekkcpfpaaaBase
import Derived.Test.YtcpgjekkcpfpaaaCmp
namespace Go.Proofs.Ytcpgjekkcpfpaaa
open Go Go.RowKit

/-- An element. -/
structure ElmV where
  id : SymV
  attr : SymV
  val : SymV
  acc : Bool
  goal : Bool
  tag : Int

/-- False ahead of true. -/
def bcmp (a b : Bool) : Int := if a = b then 0 else if b then -1 else 1
theorem bcmp_lin : Lin bcmp := ⟨by decide, by decide, by decide⟩

def elmCmp : ElmV → ElmV → Int := lex (fun x y => symCmp x.id y.id) (lex (fun x y => symCmp x.attr y.attr) (lex (fun x y => symCmp x.val y.val) (fun x y => bcmp x.acc y.acc)))
theorem elmCmp_lin : Lin elmCmp := lex_lin (comap_lin ElmV.id symCmp_lin) (lex_lin (comap_lin ElmV.attr symCmp_lin) (lex_lin (comap_lin ElmV.val symCmp_lin) (comap_lin ElmV.acc bcmp_lin)))

abbrev elmCells (x : ElmV) : List Value := [.int .i64 x.id.k, .string x.id.t, .int .i64 x.id.n, .int .i64 x.attr.k, .string x.attr.t, .int .i64 x.attr.n, .int .i64 x.val.k, .string x.val.t, .int .i64 x.val.n, .bool x.acc, .bool x.goal, .int .i64 x.tag]

set_option pp.deepTerms true
set_option pp.maxSteps 100000
set_option maxRecDepth 100000 in
set_option maxHeartbeats 1600000 in
theorem elm_compare (w : World) (x y : ElmV) : Calls Try.prog 72 #[.agg #[.int .i64 x.id.k, .string x.id.t, .int .i64 x.id.n, .int .i64 x.attr.k, .string x.attr.t, .int .i64 x.attr.n, .int .i64 x.val.k, .string x.val.t, .int .i64 x.val.n, .bool x.acc, .bool x.goal, .int .i64 x.tag], .agg #[.int .i64 y.id.k, .string y.id.t, .int .i64 y.id.n, .int .i64 y.attr.k, .string y.attr.t, .int .i64 y.attr.n, .int .i64 y.val.k, .string y.val.t, .int .i64 y.val.n, .bool y.acc, .bool y.goal, .int .i64 y.tag]] w
    fun e w' => e = .returned (.int .i64 (elmCmp x y)) ∧ Below w.heap.size w w' := by
  have hB0 : Below w.heap.size w ((w.alloc (.cells #[.int .i64 x.id.k, .string x.id.t, .int .i64 x.id.n, .int .i64 x.attr.k, .string x.attr.t, .int .i64 x.attr.n, .int .i64 x.val.k, .string x.val.t, .int .i64 x.val.n, .bool x.acc, .bool x.goal, .int .i64 x.tag] 29)).alloc (.cells #[.int .i64 y.id.k, .string y.id.t, .int .i64 y.id.n, .int .i64 y.attr.k, .string y.attr.t, .int .i64 y.attr.n, .int .i64 y.val.k, .string y.val.t, .int .i64 y.val.n, .bool y.acc, .bool y.goal, .int .i64 y.tag] 29)) := ((Below.refl _ w).alloc (Nat.le_refl _) _).alloc (by simp) _
  have hx0 : ((w.alloc (.cells #[.int .i64 x.id.k, .string x.id.t, .int .i64 x.id.n, .int .i64 x.attr.k, .string x.attr.t, .int .i64 x.attr.n, .int .i64 x.val.k, .string x.val.t, .int .i64 x.val.n, .bool x.acc, .bool x.goal, .int .i64 x.tag] 29)).alloc (.cells #[.int .i64 y.id.k, .string y.id.t, .int .i64 y.id.n, .int .i64 y.attr.k, .string y.attr.t, .int .i64 y.attr.n, .int .i64 y.val.k, .string y.val.t, .int .i64 y.val.n, .bool y.acc, .bool y.goal, .int .i64 y.tag] 29)).heap[w.heap.size]? = some (.cells #[.int .i64 x.id.k, .string x.id.t, .int .i64 x.id.n, .int .i64 x.attr.k, .string x.attr.t, .int .i64 x.attr.n, .int .i64 x.val.k, .string x.val.t, .int .i64 x.val.n, .bool x.acc, .bool x.goal, .int .i64 x.tag] 29 (0, 0)) := (Below.heap_alloc _ _ _ (by simp)).trans (heap_alloc_new w _)
  have hy0 := heap_alloc_new (w.alloc (.cells #[.int .i64 x.id.k, .string x.id.t, .int .i64 x.id.n, .int .i64 x.attr.k, .string x.attr.t, .int .i64 x.attr.n, .int .i64 x.val.k, .string x.val.t, .int .i64 x.val.n, .bool x.acc, .bool x.goal, .int .i64 x.tag] 29)) (.cells #[.int .i64 y.id.k, .string y.id.t, .int .i64 y.id.n, .int .i64 y.attr.k, .string y.attr.t, .int .i64 y.attr.n, .int .i64 y.val.k, .string y.val.t, .int .i64 y.val.n, .bool y.acc, .bool y.goal, .int .i64 y.tag] 29)
  simp only [World.size_alloc] at hy0
  go_enter Try.func72, Try.ntmps72
  go_wp2_with fail
  generalize ((w.alloc (.cells #[.int .i64 x.id.k, .string x.id.t, .int .i64 x.id.n, .int .i64 x.attr.k, .string x.attr.t, .int .i64 x.attr.n, .int .i64 x.val.k, .string x.val.t, .int .i64 x.val.n, .bool x.acc, .bool x.goal, .int .i64 x.tag] 29)).alloc (.cells #[.int .i64 y.id.k, .string y.id.t, .int .i64 y.id.n, .int .i64 y.attr.k, .string y.attr.t, .int .i64 y.attr.n, .int .i64 y.val.k, .string y.val.t, .int .i64 y.val.n, .bool y.acc, .bool y.goal, .int .i64 y.tag] 29)) = W0 at hB0 hx0 hy0 ⊢
  have hm : ∀ W, Below W0.heap.size W0 W → (W.cell? ⟨w.heap.size, 0, none⟩ = some (.int .i64 x.id.k) ∧ W.cell? ⟨w.heap.size, 1, none⟩ = some (.string x.id.t) ∧ W.cell? ⟨w.heap.size, 2, none⟩ = some (.int .i64 x.id.n) ∧ W.cell? ⟨w.heap.size, 3, none⟩ = some (.int .i64 x.attr.k) ∧ W.cell? ⟨w.heap.size, 4, none⟩ = some (.string x.attr.t) ∧ W.cell? ⟨w.heap.size, 5, none⟩ = some (.int .i64 x.attr.n) ∧ W.cell? ⟨w.heap.size, 6, none⟩ = some (.int .i64 x.val.k) ∧ W.cell? ⟨w.heap.size, 7, none⟩ = some (.string x.val.t) ∧ W.cell? ⟨w.heap.size, 8, none⟩ = some (.int .i64 x.val.n) ∧ W.cell? ⟨w.heap.size, 9, none⟩ = some (.bool x.acc) ∧ W.cell? ⟨w.heap.size, 10, none⟩ = some (.bool x.goal) ∧ W.cell? ⟨w.heap.size, 11, none⟩ = some (.int .i64 x.tag)) ∧ (W.cell? ⟨w.heap.size + 1, 0, none⟩ = some (.int .i64 y.id.k) ∧ W.cell? ⟨w.heap.size + 1, 1, none⟩ = some (.string y.id.t) ∧ W.cell? ⟨w.heap.size + 1, 2, none⟩ = some (.int .i64 y.id.n) ∧ W.cell? ⟨w.heap.size + 1, 3, none⟩ = some (.int .i64 y.attr.k) ∧ W.cell? ⟨w.heap.size + 1, 4, none⟩ = some (.string y.attr.t) ∧ W.cell? ⟨w.heap.size + 1, 5, none⟩ = some (.int .i64 y.attr.n) ∧ W.cell? ⟨w.heap.size + 1, 6, none⟩ = some (.int .i64 y.val.k) ∧ W.cell? ⟨w.heap.size + 1, 7, none⟩ = some (.string y.val.t) ∧ W.cell? ⟨w.heap.size + 1, 8, none⟩ = some (.int .i64 y.val.n) ∧ W.cell? ⟨w.heap.size + 1, 9, none⟩ = some (.bool y.acc) ∧ W.cell? ⟨w.heap.size + 1, 10, none⟩ = some (.bool y.goal) ∧ W.cell? ⟨w.heap.size + 1, 11, none⟩ = some (.int .i64 y.tag)) := by
    intro W h
    have e1 := (h.block _ (lt_of_block hx0)).trans hx0
    have e2 := (h.block _ (lt_of_block hy0)).trans hy0
    exact ⟨by simp [World.cell?, e1], by simp [World.cell?, e2]⟩
  have Hm := Lib.hid hm
  clear hm hx0 hy0
  refine (sym_compare _ x.id y.id).mono ?_
  rintro e w1 ⟨rfl, hB1⟩
  obtain ⟨⟨x0, x1, x2, x3, x4, x5, x6, x7, x8, x9, x10, x11⟩, ⟨y0, y1, y2, y3, y4, y5, y6, y7, y8, y9, y10, y11⟩⟩ := Hm.out w1 hB1
  by_cases h1 : symCmp x.id y.id = 0
  · go_wp2_with fail
    refine (sym_compare _ x.attr y.attr).mono ?_
    rintro e w2 ⟨rfl, hB2⟩
    have hC2 := hB1.trans (hB2.mono hB1.size)
    clear x0 x1 x2 x3 x4 x5 x6 x7 x8 x9 x10 x11 y0 y1 y2 y3 y4 y5 y6 y7 y8 y9 y10 y11
    obtain ⟨⟨x0, x1, x2, x3, x4, x5, x6, x7, x8, x9, x10, x11⟩, ⟨y0, y1, y2, y3, y4, y5, y6, y7, y8, y9, y10, y11⟩⟩ := Hm.out w2 hC2
    by_cases h2 : symCmp x.attr y.attr = 0
    · go_wp2_with fail
      refine (sym_compare _ x.val y.val).mono ?_
      rintro e w3 ⟨rfl, hB3⟩
      have hC3 := hC2.trans (hB3.mono hC2.size)
      clear x0 x1 x2 x3 x4 x5 x6 x7 x8 x9 x10 x11 y0 y1 y2 y3 y4 y5 y6 y7 y8 y9 y10 y11
      obtain ⟨⟨x0, x1, x2, x3, x4, x5, x6, x7, x8, x9, x10, x11⟩, ⟨y0, y1, y2, y3, y4, y5, y6, y7, y8, y9, y10, y11⟩⟩ := Hm.out w3 hC3
      by_cases h3 : symCmp x.val y.val = 0
      · cases hxa : x.acc <;> cases hya : y.acc
        all_goals
          rw [hxa] at x9
          rw [hya] at y9
          have e4 : elmCmp x y = bcmp x.acc y.acc := by simp [elmCmp, lex, h1, h2, h3]
          rw [hxa, hya] at e4
          have E4 := Lib.hid e4
          clear e4
          go_wp2_with fail
          go_ret
          exact ⟨by rw [E4.out]; simp [bcmp], hB0.trans (hC3.mono hB0.size)⟩
      · have e4 : elmCmp x y = symCmp x.val y.val := by simp [elmCmp, lex, h1, h2, h3]
        have E4 := Lib.hid e4
        clear e4
        go_wp2_with fail
        go_ret
        exact ⟨by rw [E4.out]; rfl, hB0.trans (hC3.mono hB0.size)⟩
    · have e4 : elmCmp x y = symCmp x.attr y.attr := by simp [elmCmp, lex, h1, h2]
      have E4 := Lib.hid e4
      clear e4
      go_wp2_with fail
      go_ret
      exact ⟨by rw [E4.out]; rfl, hB0.trans (hC2.mono hB0.size)⟩
  · have e4 : elmCmp x y = symCmp x.id y.id := by simp [elmCmp, lex, h1]
    have E4 := Lib.hid e4
    clear e4
    go_wp2_with fail
    go_ret
    exact ⟨by rw [E4.out]; rfl, hB0.trans (hB1.mono hB0.size)⟩

end Go.Proofs.Ytcpgjekkcpfpaaa
