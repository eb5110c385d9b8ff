/- What meet of a scope does. Conditions: the scope, the condition lie in memory; at most 4000 variables. -/
import Derived.Test.YtmnpcpgdhaplaaaScMeet
import Derived.Test.YtmnpcpgdhaplaaaSpWalk
namespace Go.Proofs.Ytmnpcpgdhaplaaa
open Go Go.RowKit

theorem meetH_le (K : List ByteArray) (h : CondH) : (meetH K h).1.length ≤ K.length + 1 + h.attrs.length + h.values.length := by
  unfold meetH
  have h1 := learn_le K h.id
  have h3 : (if h.goal = true then learn K h.id else K).length ≤ K.length + 1 := by split <;> omega
  generalize (if h.goal = true then learn K h.id else K) = K1 at h3
  have h4 := meetTs_le K1 h.attrs
  have h5 := meetTs_le (meetTs K1 h.attrs).1 h.values
  simp only
  split
  · split <;> omega
  · simp only; omega

set_option maxRecDepth 100000 in
set_option maxHeartbeats 3200000 in
theorem meet_T (w : World) (lo hi s : Nat) (K : List ByteArray) (c : CondV) (h : Sc w s K) (hK : K.length + 1 + c.h.attrs.length + c.h.values.length ≤ 4000) (hc : CondOk lo hi w c) (hhi : hi ≤ s) :
    Calls Try.prog 110 #[.agg #[.pointer (some ⟨s, 0, none⟩)], .agg #[.int .i64 c.h.kind, .bool c.h.goal, .string c.h.id, .slice c.h.attr.a c.h.attr.n c.h.attr.c, .slice c.h.value.a c.h.value.n c.h.value.c, .bool c.h.acc, .slice c.h.conds.a c.h.conds.n c.h.conds.c]] w fun e w' => e = .returned (.bool (meetH K c.h).2) ∧ Sc w' s (meetH K c.h).1 ∧ But s w w' := by
  have hB0 : Below w.heap.size w ((w.alloc (.cells #[.pointer (some ⟨s, 0, none⟩)] 85)).alloc (.cells #[.int .i64 c.h.kind, .bool c.h.goal, .string c.h.id, .slice c.h.attr.a c.h.attr.n c.h.attr.c, .slice c.h.value.a c.h.value.n c.h.value.c, .bool c.h.acc, .slice c.h.conds.a c.h.conds.n c.h.conds.c] 64)) := ((Below.refl _ w).alloc (Nat.le_refl _) _).alloc (by simp) _
  have hb0 : ((w.alloc (.cells #[.pointer (some ⟨s, 0, none⟩)] 85)).alloc (.cells #[.int .i64 c.h.kind, .bool c.h.goal, .string c.h.id, .slice c.h.attr.a c.h.attr.n c.h.attr.c, .slice c.h.value.a c.h.value.n c.h.value.c, .bool c.h.acc, .slice c.h.conds.a c.h.conds.n c.h.conds.c] 64)).heap[w.heap.size]? = some (.cells #[.pointer (some ⟨s, 0, none⟩)] 85 (0, 0)) := (Below.heap_alloc _ _ _ (by simp)).trans (heap_alloc_new w _)
  have hc0 := heap_alloc_new (w.alloc (.cells #[.pointer (some ⟨s, 0, none⟩)] 85)) (.cells #[.int .i64 c.h.kind, .bool c.h.goal, .string c.h.id, .slice c.h.attr.a c.h.attr.n c.h.attr.c, .slice c.h.value.a c.h.value.n c.h.value.c, .bool c.h.acc, .slice c.h.conds.a c.h.conds.n c.h.conds.c] 64)
  rw [World.size_alloc] at hc0
  have h0 := h.below hB0
  have hlt := h.lt
  obtain ⟨hta, htv, -⟩ := condOk_iff.1 (hc.keep (KeepIn.of_below hB0 (by omega)))
  clear h hc
  have key : ∀ (W0 : World), Below w.heap.size w W0 → W0.heap[w.heap.size]? = some (.cells #[.pointer (some ⟨s, 0, none⟩)] 85 (0, 0)) → W0.heap[w.heap.size + 1]? = some (.cells #[.int .i64 c.h.kind, .bool c.h.goal, .string c.h.id, .slice c.h.attr.a c.h.attr.n c.h.attr.c, .slice c.h.value.a c.h.value.n c.h.value.c, .bool c.h.acc, .slice c.h.conds.a c.h.conds.n c.h.conds.c] 64 (0, 0)) → ∀ W, But s W0 W →
      W.cell? ⟨w.heap.size, 0, none⟩ = some (.pointer (some ⟨s, 0, none⟩)) ∧ (W.cell? ⟨w.heap.size + 1, 1, none⟩ = some (.bool c.h.goal) ∧ W.cell? ⟨w.heap.size + 1, 2, none⟩ = some (.string c.h.id) ∧ W.cell? ⟨w.heap.size + 1, 3, none⟩ = some (.slice c.h.attr.a c.h.attr.n c.h.attr.c) ∧ W.cell? ⟨w.heap.size + 1, 4, none⟩ = some (.slice c.h.value.a c.h.value.n c.h.value.c)) ∧ But s w W := by
    intro W0 hB hb hcb W hW
    have e1 := (hW.block w.heap.size (lt_of_block hb) (by omega)).trans hb
    have e2 := (hW.block (w.heap.size + 1) (lt_of_block hcb) (by omega)).trans hcb
    obtain ⟨-, a1, a2, a3, a4, -, -⟩ := cond_cells e2
    exact ⟨cell_of_one e1, ⟨a1, a2, a3, a4⟩, (But.of_below hB).trans hW⟩
  generalize hW0 : ((w.alloc (.cells #[.pointer (some ⟨s, 0, none⟩)] 85)).alloc (.cells #[.int .i64 c.h.kind, .bool c.h.goal, .string c.h.id, .slice c.h.attr.a c.h.attr.n c.h.attr.c, .slice c.h.value.a c.h.value.n c.h.value.c, .bool c.h.acc, .slice c.h.conds.a c.h.conds.n c.h.conds.c] 64)) = W0 at hB0 hb0 hc0 h0 hta htv
  have Hq := Lib.hid (key W0 hB0 hb0 hc0)
  have Hta := Lib.hid (fun W (hW : But s W0 W) => hta.keep (KeepIn.of_but hW hhi))
  have Htv := Lib.hid (fun W (hW : But s W0 W) => htv.keep (KeepIn.of_but hW hhi))
  clear key hta htv hb0 hc0
  -- the rest, behind what Goal makes known
  have rest : ∀ (W : World) (K1 : List ByteArray), But s W0 W → Sc W s K1 → K1.length + c.h.attrs.length + c.h.values.length ≤ 4000 →
      Calls Try.prog 111 #[.agg #[.pointer (some ⟨s, 0, none⟩)], .string c.h.id] W (fun e w' => e = .returned (.bool (knowsB K1 c.h.id)) ∧ Below W.heap.size W w') ∧
      (∀ W', But s W0 W' → Sc W' s K1 → Calls Try.prog 120 #[.agg #[.pointer (some ⟨s, 0, none⟩)], .slice c.h.attr.a c.h.attr.n c.h.attr.c] W' fun e w' => e = .returned (.bool (meetTs K1 c.h.attrs).2) ∧ Sc w' s (meetTs K1 c.h.attrs).1 ∧ But s W' w') ∧
      (∀ W', But s W0 W' → Sc W' s (meetTs K1 c.h.attrs).1 → Calls Try.prog 120 #[.agg #[.pointer (some ⟨s, 0, none⟩)], .slice c.h.value.a c.h.value.n c.h.value.c] W' fun e w' => e = .returned (.bool (meetTs (meetTs K1 c.h.attrs).1 c.h.values).2) ∧ Sc w' s (meetTs (meetTs K1 c.h.attrs).1 c.h.values).1 ∧ But s W' w') := by
    intro W K1 hW hS hl
    refine ⟨knows_T W s K1 _ hS (by omega), fun W' hW' hS' => meetTests_T W' lo hi s K1 c.h.attr c.h.attrs hS' (by omega) (Hta.out W' hW') hhi, fun W' hW' hS' => meetTests_T W' lo hi s _ c.h.value c.h.values hS' (by have := meetTs_le K1 c.h.attrs; omega) (Htv.out W' hW') hhi⟩
  have Hrest := Lib.hid rest
  clear rest
  obtain ⟨q0, ⟨q1, q2, q3, q4⟩, -⟩ := Hq.out W0 (But.refl _ _)
  cases hg : c.h.goal
  · have Hg := Lib.hid hg
    rw [hg] at q1 hW0
    obtain ⟨hk, hat, hvt⟩ := Hrest.out W0 K (But.refl _ _) h0 (by omega)
    have Hat := Lib.hid hat
    have Hvt := Lib.hid hvt
    clear hat hvt
    have em : meetH K c.h = if knowsB K c.h.id then (if (meetTs K c.h.attrs).2 then meetTs (meetTs K c.h.attrs).1 c.h.values else meetTs K c.h.attrs) else (K, false) := by rw [meetH, Hg.out]; rfl
    have Em := Lib.hid em
    clear em
    go_enter Try.func110, Try.ntmps110
    go_wp2_with fail
    clear hW0
    refine hk.mono ?_
    rintro e w1 ⟨rfl, hB1⟩
    have hb1 : But s W0 w1 := But.of_below hB1
    have hS1 := h0.below hB1
    clear q0 q1 q2 q3 q4
    obtain ⟨q0, ⟨q1, q2, q3, q4⟩, hw1⟩ := Hq.out w1 hb1
    cases hkn : knowsB K c.h.id
    · have Hkn := Lib.hid hkn
      go_wp2_with fail
      go_ret
      have e1 : meetH K c.h = (K, false) := by rw [Em.out, Hkn.out]; rfl
      exact ⟨by rw [e1]; rfl, by rw [e1]; exact hS1, hw1⟩
    · have Hkn := Lib.hid hkn
      have hm := Hat.out w1 hb1 hS1
      go_wp2_with fail
      refine hm.mono ?_
      rintro e w2 ⟨rfl, hS2, hb2⟩
      have hbb2 := hb1.trans hb2
      clear q0 q1 q2 q3 q4
      obtain ⟨q0, ⟨q1, q2, q3, q4⟩, hw2⟩ := Hq.out w2 hbb2
      cases hok : (meetTs K c.h.attrs).2
      · have Hok := Lib.hid hok
        go_wp2_with fail
        go_ret
        have e1 : meetH K c.h = meetTs K c.h.attrs := by rw [Em.out, Hkn.out, Hok.out]; rfl
        exact ⟨by rw [e1, Hok.out]; rfl, by rw [e1]; exact hS2, hw2⟩
      · have Hok := Lib.hid hok
        have hm2 := Hvt.out w2 hbb2 hS2
        go_wp2_with fail
        refine hm2.mono ?_
        rintro e w3 ⟨rfl, hS3, hb3⟩
        go_wp2_with fail
        go_ret
        have e1 : meetH K c.h = meetTs (meetTs K c.h.attrs).1 c.h.values := by rw [Em.out, Hkn.out, Hok.out]; rfl
        exact ⟨by rw [e1]; rfl, by rw [e1]; exact hS3, hw2.trans hb3⟩
  · have Hg := Lib.hid hg
    rw [hg] at q1 hW0
    have hle := learn_le K c.h.id
    have hln := learn_T W0 s K c.h.id h0 (by omega)
    have em : meetH K c.h = if knowsB (learn K c.h.id) c.h.id then (if (meetTs (learn K c.h.id) c.h.attrs).2 then meetTs (meetTs (learn K c.h.id) c.h.attrs).1 c.h.values else meetTs (learn K c.h.id) c.h.attrs) else (learn K c.h.id, false) := by rw [meetH, Hg.out]; rfl
    have Em := Lib.hid em
    clear em
    go_enter Try.func110, Try.ntmps110
    go_wp2_with fail
    clear hW0
    refine hln.mono ?_
    rintro e w0 ⟨⟨vv, rfl⟩, hS0, hb0⟩
    generalize learn K c.h.id = K1 at hle hS0 Em
    obtain ⟨hk, hat, hvt⟩ := Hrest.out w0 K1 hb0 hS0 (by omega)
    have Hat := Lib.hid hat
    have Hvt := Lib.hid hvt
    clear hat hvt q0 q1 q2 q3 q4 hln
    obtain ⟨q0, ⟨q1, q2, q3, q4⟩, -⟩ := Hq.out w0 hb0
    go_wp2_with fail
    refine hk.mono ?_
    rintro e w1 ⟨rfl, hB1⟩
    have hb1 : But s W0 w1 := hb0.trans (But.of_below hB1)
    have hS1 := hS0.below hB1
    clear q0 q1 q2 q3 q4
    obtain ⟨q0, ⟨q1, q2, q3, q4⟩, hw1⟩ := Hq.out w1 hb1
    cases hkn : knowsB K1 c.h.id
    · have Hkn := Lib.hid hkn
      go_wp2_with fail
      go_ret
      have e1 : meetH K c.h = (K1, false) := by rw [Em.out, Hkn.out]; rfl
      exact ⟨by rw [e1]; rfl, by rw [e1]; exact hS1, hw1⟩
    · have Hkn := Lib.hid hkn
      have hm := Hat.out w1 hb1 hS1
      go_wp2_with fail
      refine hm.mono ?_
      rintro e w2 ⟨rfl, hS2, hb2⟩
      have hbb2 := hb1.trans hb2
      clear q0 q1 q2 q3 q4
      obtain ⟨q0, ⟨q1, q2, q3, q4⟩, hw2⟩ := Hq.out w2 hbb2
      cases hok : (meetTs K1 c.h.attrs).2
      · have Hok := Lib.hid hok
        go_wp2_with fail
        go_ret
        have e1 : meetH K c.h = meetTs K1 c.h.attrs := by rw [Em.out, Hkn.out, Hok.out]; rfl
        exact ⟨by rw [e1, Hok.out]; rfl, by rw [e1]; exact hS2, hw2⟩
      · have Hok := Lib.hid hok
        have hm2 := Hvt.out w2 hbb2 hS2
        go_wp2_with fail
        refine hm2.mono ?_
        rintro e w3 ⟨rfl, hS3, hb3⟩
        go_wp2_with fail
        go_ret
        have e1 : meetH K c.h = meetTs (meetTs K1 c.h.attrs).1 c.h.values := by rw [Em.out, Hkn.out, Hok.out]; rfl
        exact ⟨by rw [e1]; rfl, by rw [e1]; exact hS3, hw2.trans hb3⟩

end Go.Proofs.Ytmnpcpgdhaplaaa
