/- What passAll of a scope does. Conditions: the scope, the conditions lie in memory; at most 4000 variables and tests.
What suffices of a scope answers. Conditions: the scope lies in memory; at most 10000 variables. -/
import Derived.Test.YtmnpcpgdhaplaaaScPass
import Derived.Test.YtmnpcpgdhaplaaaShShape
namespace Go.Proofs.Ytmnpcpgdhaplaaa
open Go Go.RowKit

set_option pp.deepTerms true
set_option pp.maxSteps 1000000
set_option maxRecDepth 100000 in
set_option maxHeartbeats 3200000 in
theorem passAll_T (lo hi : Nat) : ∀ (k : Nat) (cs : List CondV), sizeL cs ≤ k → ∀ (w : World) (s : Nat) (K : List ByteArray) (sl : SlH) (z : Int), Sc w s K → K.length + wtL cs ≤ 4000 → CondsOk lo hi w sl cs → hi ≤ s → 0 ≤ z → z + sizeL cs ≤ 100000 →
    Calls Try.prog 76 #[.agg #[.pointer (some ⟨s, 0, none⟩)], .slice sl.a sl.n sl.c, .int .i64 z] w (PassPost w s (passL K z cs)) := by
  intro k
  induction k using Nat.strongRecOn with
  | _ k ih =>
  intro cs hk w s K sl z h hK hC hhi hz hzb
  have hB0 := boxSc w s
  have hb0 := heap_alloc_new w (.cells #[.pointer (some ⟨s, 0, none⟩)] 85)
  have h0 := h.below hB0
  have hlt := h.lt
  have hC0 := hC.keep (KeepIn.of_below hB0 (by omega))
  obtain ⟨a, m, cp⟩ := sl
  obtain rfl : m = cs.length := hC.1.1
  have hsl := sizeL_le cs
  rcases hC.1.2 with rfl | ⟨b, off, hlo, hhi2, ha, -⟩
  · go_enter Try.func76, Try.ntmps76
    go_wp2_with fail
    generalize (w.alloc (.cells #[.pointer (some ⟨s, 0, none⟩)] 85)) = W0 at hB0 hb0 h0 ⊢
    go_loopg [2, 14] 0 (fun k pv iv wr => pv = .int .i64 z ∧ iv = .int .i64 0 ∧ wr = W0)
    case atStart => exact ⟨rfl, rfl, rfl⟩
    case round =>
      obtain ⟨rfl, rfl, rfl⟩ := hrel
      go_wp2_with fail
      go_ret2
      exact ⟨by rw [passL_nil]; rfl, by rw [passL_nil]; exact h0, But.of_below hB0⟩
  replace ha : a = some ⟨b, off, none⟩ := ha
  subst ha
  clear hC h
  go_enter Try.func76, Try.ntmps76
  go_wp2_with fail
  generalize (w.alloc (.cells #[.pointer (some ⟨s, 0, none⟩)] 85)) = W0 at hB0 hb0 h0 hC0 ⊢
  have HC := Lib.hid hC0
  clear hC0
  have hsz0 := lt_of_block hb0
  have hpl := fun j => pass_place (sizeL (cs.take j)) (cs.take j) (Nat.le_refl _) K z
  go_loopg [2, 14] cs.length (fun k pv iv wr => ∃ (j : Nat) (zj : Int), pv = .int .i64 zj ∧ iv = .int .i64 j ∧ j ≤ cs.length ∧ Hid (k = cs.length - j ∧ (passL K z (cs.take j)).2.2 = true ∧ zj = (passL K z (cs.take j)).2.1) ∧ Hid (Sc wr s (passL K z (cs.take j)).1) ∧ But s W0 wr)
  case atStart => exact ⟨0, z, rfl, rfl, by omega, Lib.hid ⟨rfl, by simp [passL_nil], by simp [passL_nil]⟩, Lib.hid (by simpa [passL_nil] using h0), But.refl _ _⟩
  case round =>
    obtain ⟨j, zj, rfl, rfl, hj, Hm, HS, hb⟩ := hrel
    have hbs := hb.size
    have qb := (hb.block w.heap.size hsz0 (by omega)).trans hb0
    have q0 := cell_of_one qb
    by_cases hltj : j < cs.length
    · obtain ⟨c, hc⟩ : ∃ c, cs[j]? = some c := ⟨cs[j], by simp [hltj]⟩
      have hCw := HC.out.keep (KeepIn.of_but hb hhi)
      obtain ⟨b', off', -, -, hsa, hcell⟩ := hCw.1.at hc
      obtain ⟨rfl, rfl⟩ : b = b' ∧ off = off' := by simpa using hsa
      have c0 : wr.cell? ⟨b, off + j * 7, none⟩ = _ := hcell 0 _ rfl
      have c1 := hcell 1 _ rfl
      have c2 := hcell 2 _ rfl
      have c3 := hcell 3 _ rfl
      have c4 := hcell 4 _ rfl
      have c5 := hcell 5 _ rfl
      have c6 := hcell 6 _ rfl
      have hcmem : c ∈ cs := List.mem_of_getElem? hc
      have hszc := sizeL_mem hcmem
      have hBc : Below wr.heap.size wr (wr.alloc (.cells #[.int .i64 c.h.kind, .bool c.h.goal, .string c.h.id, .slice c.h.attr.a c.h.attr.n c.h.attr.c, .slice c.h.value.a c.h.value.n c.h.value.c, .bool c.h.acc, .slice c.h.conds.a c.h.conds.n c.h.conds.c] 64)) := boxC wr c
      have hcb := heap_alloc_new wr (.cells #[.int .i64 c.h.kind, .bool c.h.goal, .string c.h.id, .slice c.h.attr.a c.h.attr.n c.h.attr.c, .slice c.h.value.a c.h.value.n c.h.value.c, .bool c.h.acc, .slice c.h.conds.a c.h.conds.n c.h.conds.c] 64)
      have hS1 := HS.out.below hBc
      have hok := (condOkL_iff.1 hCw.2 c hcmem).keep (KeepIn.of_below hBc (by omega))
      have htake : cs.take (j + 1) = cs.take j ++ [c] := by rw [List.take_add_one, hc]; rfl
      have hwt : wtL (cs.take j) + c.wt ≤ wtL cs := by
        have h1 := wtL_take_le cs (j + 1)
        rw [htake, wtL_append, wtL_cons] at h1
        omega
      have hszt : sizeL (cs.take j) + (1 + sizeL c.inner) ≤ sizeL cs := by
        have h1 := sizeL_append (cs.take (j + 1)) (cs.drop (j + 1))
        rw [List.take_append_drop, htake, sizeL_append, sizeL_cons] at h1
        omega
      have hlen := passL_le K z (cs.take j)
      have hpj := hpl j
      have hzj := Hm.out.2.2
      have hpass := pass_T (wr.alloc (.cells #[.int .i64 c.h.kind, .bool c.h.goal, .string c.h.id, .slice c.h.attr.a c.h.attr.n c.h.attr.c, .slice c.h.value.a c.h.value.n c.h.value.c, .bool c.h.acc, .slice c.h.conds.a c.h.conds.n c.h.conds.c] 64)) lo hi s (passL K z (cs.take j)).1 c zj hS1 (by omega) hok hhi (by omega) (by omega)
        (fun w' s' K' z' g1 g2 g3 g4 g5 g6 => ih (sizeL c.inner) (by omega) c.inner (Nat.le_refl _) w' s' K' c.h.conds z' g1 g2 g3 g4 g5 g6)
      have hnx : passL K z (cs.take (j + 1)) = passC (passL K z (cs.take j)).1 zj c := by
        rw [htake, passL_append, Hm.out.2.1, if_pos rfl, passL_cons, passL_nil, ← hzj]
        cases h2 : (passC (passL K z (cs.take j)).1 zj c).2.2
        · simp
        · rw [if_pos rfl]
          generalize passC (passL K z (cs.take j)).1 zj c = r at h2
          obtain ⟨r1, r2, r3⟩ := r
          simp only at h2
          rw [h2]
      have hall : passL K z cs = if (passL K z (cs.take (j + 1))).2.2 then passL (passL K z (cs.take (j + 1))).1 (passL K z (cs.take (j + 1))).2.1 (cs.drop (j + 1)) else passL K z (cs.take (j + 1)) := by
        rw [← passL_append, List.take_append_drop]
      have hbx : But s W0 (wr.alloc (.cells #[.int .i64 c.h.kind, .bool c.h.goal, .string c.h.id, .slice c.h.attr.a c.h.attr.n c.h.attr.c, .slice c.h.value.a c.h.value.n c.h.value.c, .bool c.h.acc, .slice c.h.conds.a c.h.conds.n c.h.conds.c] 64)) := hb.trans (But.of_below hBc)
      have qb1 := (hBc.block _ (by omega)).trans qb
      have q1 := cell_of_one qb1
      obtain ⟨r0, r1, r2, r3, r4, r5, r6⟩ := cond_cells hcb
      have Hnx := Lib.hid hnx
      have Hall := Lib.hid hall
      have Hbx := Lib.hid hbx
      have Hp := Lib.hid hpass
      clear hpass hnx hall hbx hcell hsa hok hCw hc hpj hzj
      cases hok2 : (passC (passL K z (cs.take j)).1 zj c).2.2
      · have Hok := Lib.hid hok2
        have hp2 := Hp.out
        unfold PassPost at hp2
        rw [hok2] at hp2
        go_wp2_with fail
        refine hp2.mono ?_
        rintro e w2 ⟨rfl, hS2, hb2⟩
        go_wp2_with fail
        go_ret2
        have e1 : passL K z cs = passC (passL K z (cs.take j)).1 zj c := by rw [Hall.out, Hnx.out, Hok.out]; rfl
        exact ⟨by rw [e1, Hok.out]; rfl, by rw [e1]; exact hS2, (But.of_below hB0).trans (Hbx.out.trans hb2)⟩
      · have Hok := Lib.hid hok2
        have hp2 := Hp.out
        unfold PassPost at hp2
        rw [hok2] at hp2
        go_wp2_with fail
        refine hp2.mono ?_
        rintro e w2 ⟨rfl, hS2, hb2⟩
        go_wp2_with fail
        go_roundg (cs.length - (j + 1))
        case measure => rw [Hm.out.1]; omega
        case rel => exact ⟨j + 1, _, rfl, by go_num, by omega, Lib.hid ⟨rfl, by rw [Hnx.out, Hok.out], by rw [Hnx.out]⟩, Lib.hid (by rw [Hnx.out]; exact hS2), Hbx.out.trans hb2⟩
    · obtain rfl : j = cs.length := by omega
      rw [List.take_length] at Hm HS
      go_wp2_with fail
      go_ret2
      exact ⟨by rw [← Hm.out.2.2, Hm.out.2.1]; rfl, HS.out, (But.of_below hB0).trans hb⟩

end Go.Proofs.Ytmnpcpgdhaplaaa

namespace Go.Proofs.Ytmnpcpgdhaplaaa
open Go Go.RowKit

def sufficesB (K : List ByteArray) (a : ActV) : Bool := allowsB K a.attr.var && (a.value.op == 0 || (allowsB K a.value.a.var && allowsB K a.value.b.var))

set_option maxRecDepth 100000 in
set_option maxHeartbeats 1600000 in
theorem suffices_T (w : World) (s : Nat) (K : List ByteArray) (x : ActV) (h : Sc w s K) (hK : K.length ≤ 10000) :
    Calls Try.prog 77 #[.agg #[.pointer (some ⟨s, 0, none⟩)], .agg #[.string x.id, .string x.attr.var, .int .i64 x.attr.sym.k, .string x.attr.sym.t, .int .i64 x.attr.sym.n, .int .i64 x.value.op, .string x.value.a.var, .int .i64 x.value.a.sym.k, .string x.value.a.sym.t, .int .i64 x.value.a.sym.n, .string x.value.b.var, .int .i64 x.value.b.sym.k, .string x.value.b.sym.t, .int .i64 x.value.b.sym.n, .int .i64 x.pref, .string x.other.var, .int .i64 x.other.sym.k, .string x.other.sym.t, .int .i64 x.other.sym.n]] w fun e w' => e = .returned (.bool (sufficesB K x)) ∧ Below w.heap.size w w' := by
  have hB0 : Below w.heap.size w ((w.alloc (.cells #[.pointer (some ⟨s, 0, none⟩)] 85)).alloc (.cells #[.string x.id, .string x.attr.var, .int .i64 x.attr.sym.k, .string x.attr.sym.t, .int .i64 x.attr.sym.n, .int .i64 x.value.op, .string x.value.a.var, .int .i64 x.value.a.sym.k, .string x.value.a.sym.t, .int .i64 x.value.a.sym.n, .string x.value.b.var, .int .i64 x.value.b.sym.k, .string x.value.b.sym.t, .int .i64 x.value.b.sym.n, .int .i64 x.pref, .string x.other.var, .int .i64 x.other.sym.k, .string x.other.sym.t, .int .i64 x.other.sym.n] 59)) := ((Below.refl _ w).alloc (Nat.le_refl _) _).alloc (by simp) _
  have hb0 : ((w.alloc (.cells #[.pointer (some ⟨s, 0, none⟩)] 85)).alloc (.cells #[.string x.id, .string x.attr.var, .int .i64 x.attr.sym.k, .string x.attr.sym.t, .int .i64 x.attr.sym.n, .int .i64 x.value.op, .string x.value.a.var, .int .i64 x.value.a.sym.k, .string x.value.a.sym.t, .int .i64 x.value.a.sym.n, .string x.value.b.var, .int .i64 x.value.b.sym.k, .string x.value.b.sym.t, .int .i64 x.value.b.sym.n, .int .i64 x.pref, .string x.other.var, .int .i64 x.other.sym.k, .string x.other.sym.t, .int .i64 x.other.sym.n] 59)).heap[w.heap.size]? = some (.cells #[.pointer (some ⟨s, 0, none⟩)] 85 (0, 0)) := (Below.heap_alloc _ _ _ (by simp)).trans (heap_alloc_new w _)
  have ha0 := heap_alloc_new (w.alloc (.cells #[.pointer (some ⟨s, 0, none⟩)] 85)) (.cells #[.string x.id, .string x.attr.var, .int .i64 x.attr.sym.k, .string x.attr.sym.t, .int .i64 x.attr.sym.n, .int .i64 x.value.op, .string x.value.a.var, .int .i64 x.value.a.sym.k, .string x.value.a.sym.t, .int .i64 x.value.a.sym.n, .string x.value.b.var, .int .i64 x.value.b.sym.k, .string x.value.b.sym.t, .int .i64 x.value.b.sym.n, .int .i64 x.pref, .string x.other.var, .int .i64 x.other.sym.k, .string x.other.sym.t, .int .i64 x.other.sym.n] 59)
  rw [World.size_alloc] at ha0
  generalize hW0 : ((w.alloc (.cells #[.pointer (some ⟨s, 0, none⟩)] 85)).alloc (.cells #[.string x.id, .string x.attr.var, .int .i64 x.attr.sym.k, .string x.attr.sym.t, .int .i64 x.attr.sym.n, .int .i64 x.value.op, .string x.value.a.var, .int .i64 x.value.a.sym.k, .string x.value.a.sym.t, .int .i64 x.value.a.sym.n, .string x.value.b.var, .int .i64 x.value.b.sym.k, .string x.value.b.sym.t, .int .i64 x.value.b.sym.n, .int .i64 x.pref, .string x.other.var, .int .i64 x.other.sym.k, .string x.other.sym.t, .int .i64 x.other.sym.n] 59)) = W0 at hB0 hb0 ha0
  have hq : ∀ W, Below W0.heap.size W0 W → (W.cell? ⟨w.heap.size, 0, none⟩ = some (.pointer (some ⟨s, 0, none⟩)) ∧ W.cell? ⟨w.heap.size + 1, 1, none⟩ = some (.string x.attr.var) ∧ W.cell? ⟨w.heap.size + 1, 5, none⟩ = some (.int .i64 x.value.op) ∧ W.cell? ⟨w.heap.size + 1, 6, none⟩ = some (.string x.value.a.var) ∧ W.cell? ⟨w.heap.size + 1, 10, none⟩ = some (.string x.value.b.var)) ∧ Sc W s K ∧ Below w.heap.size w W := by
    intro W hW
    have e1 := (hW.block _ (lt_of_block hb0)).trans hb0
    have e2 := (hW.block _ (lt_of_block ha0)).trans ha0
    have hBW := hB0.trans (hW.mono hB0.size)
    refine ⟨⟨cell_of_one e1, ?_⟩, h.below hBW, hBW⟩
    simp [World.cell?, e2]
  have Hq := Lib.hid hq
  obtain ⟨⟨q0, q1, q2, q3, q4⟩, hS0, -⟩ := hq W0 (Below.refl _ _)
  have hal := fun W (hS : Sc W s K) n => allows_T W s K n hS hK
  have Hal := Lib.hid hal
  clear hq h hal hb0 ha0
  cases h1 : allowsB K x.attr.var
  · have H1 := Lib.hid h1
    have hc := Hal.out W0 hS0 x.attr.var
    rw [h1] at hc
    go_enter Try.func77, Try.ntmps77
    go_wp2_with fail
    clear hW0
    refine hc.mono ?_
    rintro e w1 ⟨rfl, hB1⟩
    go_wp2_with fail
    go_ret
    exact ⟨by rw [sufficesB, H1.out]; rfl, hB0.trans (hB1.mono hB0.size)⟩
  have H1 := Lib.hid h1
  have hc := Hal.out W0 hS0 x.attr.var
  rw [h1] at hc
  clear h1
  cases h0 : (x.value.op == 0)
  case true =>
    have H0 := Lib.hid h0
    go_enter Try.func77, Try.ntmps77
    go_wp2_with fail
    clear hW0
    refine hc.mono ?_
    rintro e w1 ⟨rfl, hB1⟩
    obtain ⟨⟨r0, r1, r2, r3, r4⟩, hS1, hC1⟩ := Hq.out w1 hB1
    go_wp2_with fail
    go_ret
    exact ⟨by rw [sufficesB, H1.out, H0.out]; rfl, hC1⟩
  have H0 := Lib.hid h0
  go_enter Try.func77, Try.ntmps77
  go_wp2_with fail
  clear hW0
  refine hc.mono ?_
  rintro e w1 ⟨rfl, hB1⟩
  obtain ⟨⟨r0, r1, r2, r3, r4⟩, hS1, hC1⟩ := Hq.out w1 hB1
  have hca := Hal.out w1 hS1 x.value.a.var
  cases h2 : allowsB K x.value.a.var
  · have H2 := Lib.hid h2
    rw [h2] at hca
    go_wp2_with fail
    refine hca.mono ?_
    rintro e w2 ⟨rfl, hB2⟩
    go_wp2_with fail
    go_ret
    exact ⟨by rw [sufficesB, H1.out, H0.out, H2.out]; rfl, hC1.trans (hB2.mono hC1.size)⟩
  · have H2 := Lib.hid h2
    rw [h2] at hca
    go_wp2_with fail
    refine hca.mono ?_
    rintro e w2 ⟨rfl, hB2⟩
    obtain ⟨⟨s0, s1, s2, s3, s4⟩, hS2, hC2⟩ := Hq.out w2 (hB1.trans (hB2.mono hB1.size))
    have hcb := Hal.out w2 hS2 x.value.b.var
    clear r0 r1 r2 r3 r4
    go_wp2_with fail
    refine hcb.mono ?_
    rintro e w3 ⟨rfl, hB3⟩
    go_wp2_with fail
    go_ret
    exact ⟨by rw [sufficesB, H1.out, H0.out, H2.out]; rfl, hC2.trans (hB3.mono hC2.size)⟩

end Go.Proofs.Ytmnpcpgdhaplaaa
