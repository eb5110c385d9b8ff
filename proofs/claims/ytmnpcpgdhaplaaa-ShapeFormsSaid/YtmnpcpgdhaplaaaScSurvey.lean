/- What suffices of a scope answers. Conditions: the scope lies in memory; at most 10000 variables. -/
import Derived.Test.YtmnpcpgdhaplaaaMg26
namespace Go.Proofs.Ytmnpcpgdhaplaaa
open Go Go.RowKit

def sufficesB (K : List ByteArray) (a : ActV) : Bool := allowsB K a.attr.var && (a.value.op == 0 || (allowsB K a.value.a.var && allowsB K a.value.b.var))

set_option maxRecDepth 100000 in
set_option maxHeartbeats 1600000 in
theorem suffices_T (w : World) (s : Nat) (K : List ByteArray) (x : ActV) (h : Sc w s K) (hK : K.length ≤ 10000) :
    Calls Try.prog 77 #[.agg #[.pointer (some ⟨s, 0, none⟩)], .agg #[.string x.id, .string x.attr.var, .int .i64 x.attr.sym.k, .string x.attr.sym.t, .int .i64 x.attr.sym.n, .int .i64 x.value.op, .string x.value.a.var, .int .i64 x.value.a.sym.k, .string x.value.a.sym.t, .int .i64 x.value.a.sym.n, .string x.value.b.var, .int .i64 x.value.b.sym.k, .string x.value.b.sym.t, .int .i64 x.value.b.sym.n, .int .i64 x.pref, .string x.other.var, .int .i64 x.other.sym.k, .string x.other.sym.t, .int .i64 x.other.sym.n]] w fun e w' => e = .returned (.bool (sufficesB K x)) ∧ Below w.heap.size w w' := by
  have hB0 : Below w.heap.size w ((w.alloc (.cells #[.pointer (some ⟨s, 0, none⟩)] 85)).alloc (.cells #[.string x.id, .string x.attr.var, .int .i64 x.attr.sym.k, .string x.attr.sym.t, .int .i64 x.attr.sym.n, .int .i64 x.value.op, .string x.value.a.var, .int .i64 x.value.a.sym.k, .string x.value.a.sym.t, .int .i64 x.value.a.sym.n, .string x.value.b.var, .int .i64 x.value.b.sym.k, .string x.value.b.sym.t, .int .i64 x.value.b.sym.n, .int .i64 x.pref, .string x.other.var, .int .i64 x.other.sym.k, .string x.other.sym.t, .int .i64 x.other.sym.n] 59)) := ((Below.refl _ w).alloc (Nat.le_refl _) _).alloc (by simp) _
  have hb0 : ((w.alloc (.cells #[.pointer (some ⟨s, 0, none⟩)] 85)).alloc (.cells #[.string x.id, .string x.attr.var, .int .i64 x.attr.sym.k, .string x.attr.sym.t, .int .i64 x.attr.sym.n, .int .i64 x.value.op, .string x.value.a.var, .int .i64 x.value.a.sym.k, .string x.value.a.sym.t, .int .i64 x.value.a.sym.n, .string x.value.b.var, .int .i64 x.value.b.sym.k, .string x.value.b.sym.t, .int .i64 x.value.b.sym.n, .int .i64 x.pref, .string x.other.var, .int .i64 x.other.sym.k, .string x.other.sym.t, .int .i64 x.other.sym.n] 59)).heap[w.heap.size]? = some (.cells #[.pointer (some ⟨s, 0, none⟩)] 85 (0, 0)) := (Below.heap_alloc _ _ _ (by simp)).trans (heap_alloc_new w _)
  have ha0 := heap_alloc_new (w.alloc (.cells #[.pointer (some ⟨s, 0, none⟩)] 85)) (.cells #[.string x.id, .string x.attr.var, .int .i64 x.attr.sym.k, .string x.attr.sym.t, .int .i64 x.attr.sym.n, .int .i64 x.value.op, .string x.value.a.var, .int .i64 x.value.a.sym.k, .string x.value.a.sym.t, .int .i64 x.value.a.sym.n, .string x.value.b.var, .int .i64 x.value.b.sym.k, .string x.value.b.sym.t, .int .i64 x.value.b.sym.n, .int .i64 x.pref, .string x.other.var, .int .i64 x.other.sym.k, .string x.other.sym.t, .int .i64 x.other.sym.n] 59)
  rw [World.size_alloc] at ha0
  generalize hW0 : ((w.alloc (.cells #[.pointer (some ⟨s, 0, none⟩)] 85)).alloc (.cells #[.string x.id, .string x.attr.var, .int .i64 x.attr.sym.k, .string x.attr.sym.t, .int .i64 x.attr.sym.n, .int .i64 x.value.op, .string x.value.a.var, .int .i64 x.value.a.sym.k, .string x.value.a.sym.t, .int .i64 x.value.a.sym.n, .string x.value.b.var, .int .i64 x.value.b.sym.k, .string x.value.b.sym.t, .int .i64 x.value.b.sym.n, .int .i64 x.pref, .string x.other.var, .int .i64 x.other.sym.k, .string x.other.sym.t, .int .i64 x.other.sym.n] 59)) = W0 at hB0 hb0 ha0
  have hq : ∀ W, Below W0.heap.size W0 W → (W.cell? ⟨w.heap.size, 0, none⟩ = some (.pointer (some ⟨s, 0, none⟩)) ∧ W.cell? ⟨w.heap.size + 1, 1, none⟩ = some (.string x.attr.var) ∧ W.cell? ⟨w.heap.size + 1, 5, none⟩ = some (.int .i64 x.value.op) ∧ W.cell? ⟨w.heap.size + 1, 6, none⟩ = some (.string x.value.a.var) ∧ W.cell? ⟨w.heap.size + 1, 10, none⟩ = some (.string x.value.b.var)) ∧ Sc W s K ∧ Below w.heap.size w W := by
    intro W hW
    have e1 := (hW.block _ (lt_of_block hb0)).trans hb0
    have e2 := (hW.block _ (lt_of_block ha0)).trans ha0
    have hBW := hB0.trans (hW.mono hB0.size)
    refine ⟨⟨cell_of_one e1, ?_⟩, h.below hBW, hBW⟩
    simp [World.cell?, e2]
  have Hq := Lib.hid hq
  obtain ⟨⟨q0, q1, q2, q3, q4⟩, hS0, -⟩ := hq W0 (Below.refl _ _)
  have hal := fun W (hS : Sc W s K) n => allows_T W s K n hS hK
  have Hal := Lib.hid hal
  clear hq h hal hb0 ha0
  cases h1 : allowsB K x.attr.var
  · have H1 := Lib.hid h1
    have hc := Hal.out W0 hS0 x.attr.var
    rw [h1] at hc
    go_enter Try.func77, Try.ntmps77
    go_wp2_with fail
    clear hW0
    refine hc.mono ?_
    rintro e w1 ⟨rfl, hB1⟩
    go_wp2_with fail
    go_ret
    exact ⟨by rw [sufficesB, H1.out]; rfl, hB0.trans (hB1.mono hB0.size)⟩
  have H1 := Lib.hid h1
  have hc := Hal.out W0 hS0 x.attr.var
  rw [h1] at hc
  clear h1
  cases h0 : (x.value.op == 0)
  case true =>
    have H0 := Lib.hid h0
    go_enter Try.func77, Try.ntmps77
    go_wp2_with fail
    clear hW0
    refine hc.mono ?_
    rintro e w1 ⟨rfl, hB1⟩
    obtain ⟨⟨r0, r1, r2, r3, r4⟩, hS1, hC1⟩ := Hq.out w1 hB1
    go_wp2_with fail
    go_ret
    exact ⟨by rw [sufficesB, H1.out, H0.out]; rfl, hC1⟩
  have H0 := Lib.hid h0
  go_enter Try.func77, Try.ntmps77
  go_wp2_with fail
  clear hW0
  refine hc.mono ?_
  rintro e w1 ⟨rfl, hB1⟩
  obtain ⟨⟨r0, r1, r2, r3, r4⟩, hS1, hC1⟩ := Hq.out w1 hB1
  have hca := Hal.out w1 hS1 x.value.a.var
  cases h2 : allowsB K x.value.a.var
  · have H2 := Lib.hid h2
    rw [h2] at hca
    go_wp2_with fail
    refine hca.mono ?_
    rintro e w2 ⟨rfl, hB2⟩
    go_wp2_with fail
    go_ret
    exact ⟨by rw [sufficesB, H1.out, H0.out, H2.out]; rfl, hC1.trans (hB2.mono hC1.size)⟩
  · have H2 := Lib.hid h2
    rw [h2] at hca
    go_wp2_with fail
    refine hca.mono ?_
    rintro e w2 ⟨rfl, hB2⟩
    obtain ⟨⟨s0, s1, s2, s3, s4⟩, hS2, hC2⟩ := Hq.out w2 (hB1.trans (hB2.mono hB1.size))
    have hcb := Hal.out w2 hS2 x.value.b.var
    clear r0 r1 r2 r3 r4
    go_wp2_with fail
    refine hcb.mono ?_
    rintro e w3 ⟨rfl, hB3⟩
    go_wp2_with fail
    go_ret
    exact ⟨by rw [sufficesB, H1.out, H0.out, H2.out]; rfl, hC2.trans (hB3.mono hC2.size)⟩

end Go.Proofs.Ytmnpcpgdhaplaaa
