/- What pass and passAll of a scope do. Conditions: the scope, the conditions lie in memory; at most 4000 variables and tests. -/
import Derived.Test.YtmnpcpgdhaplaaaMg16
namespace Go.Proofs.Ytmnpcpgdhaplaaa
open Go Go.RowKit

mutual
def CondV.wt : CondV → Nat
  | .mk h l => 1 + h.attrs.length + h.values.length + wtL l
def wtL : List CondV → Nat
  | [] => 0
  | c :: cs => c.wt + wtL cs
end
theorem CondV.wt_eq (c : CondV) : c.wt = 1 + c.h.attrs.length + c.h.values.length + wtL c.inner := by cases c; rfl
theorem wtL_cons (c : CondV) (cs : List CondV) : wtL (c :: cs) = c.wt + wtL cs := by rw [wtL]
theorem wtL_append (a b : List CondV) : wtL (a ++ b) = wtL a + wtL b := by
  induction a with
  | nil => simp [wtL]
  | cons c cs ih => rw [List.cons_append, wtL_cons, wtL_cons, ih]; omega
theorem wtL_take_le (cs : List CondV) (j : Nat) : wtL (cs.take j) ≤ wtL cs := by
  have := wtL_append (cs.take j) (cs.drop j)
  rw [List.take_append_drop] at this; omega

theorem passL_append (K : List ByteArray) (z : Int) (a b : List CondV) : passL K z (a ++ b) = if (passL K z a).2.2 then passL (passL K z a).1 (passL K z a).2.1 b else passL K z a := by
  induction a generalizing K z with
  | nil => rw [List.nil_append, passL_nil]; simp
  | cons c a ih =>
    rw [List.cons_append, passL_cons, passL_cons]
    cases h : (passC K z c).2.2
    · simp [h]
    · simp [ih]

theorem passC_le (K : List ByteArray) (z : Int) (c : CondV) : (passC K z c).1.length ≤ K.length + c.wt := by
  rw [passC_eq, CondV.wt_eq]
  have h1 := meetH_le K c.h
  split
  · simp only; omega
  · split
    · simp only; omega
    · simp only; omega
theorem passL_le (K : List ByteArray) (z : Int) (cs : List CondV) : (passL K z cs).1.length ≤ K.length + wtL cs := by
  induction cs generalizing K z with
  | nil => rw [passL_nil]; simp [wtL]
  | cons c cs ih =>
    rw [passL_cons, wtL_cons]
    have h1 := passC_le K z c
    split
    · have h2 := ih (passC K z c).1 (passC K z c).2.1
      omega
    · omega

theorem pass_place (k : Nat) : ∀ (cs : List CondV), sizeL cs ≤ k → ∀ (K : List ByteArray) (z : Int), z ≤ (passL K z cs).2.1 ∧ (passL K z cs).2.1 ≤ z + sizeL cs := by
  induction k with
  | zero =>
    intro cs h K z
    have := sizeL_le cs
    obtain rfl : cs = [] := List.length_eq_zero_iff.1 (by omega)
    rw [passL_nil]; simp [sizeL]
  | succ k ih =>
    intro cs
    induction cs with
    | nil => intro _ K z; rw [passL_nil]; simp [sizeL]
    | cons c cs ih2 =>
      intro h K z
      rw [sizeL_cons] at h
      have hc : z ≤ (passC K z c).2.1 ∧ (passC K z c).2.1 ≤ z + 1 + sizeL c.inner := by
        rw [passC_eq]
        have h3 := ih c.inner (by omega) K (z + 1)
        split
        · simp only; omega
        · split
          · simp only; split <;> omega
          · simp only; split <;> omega
      rw [passL_cons, sizeL_cons]
      split
      · have h4 := ih2 (by omega) (passC K z c).1 (passC K z c).2.1
        omega
      · omega

theorem passC_place (K : List ByteArray) (z : Int) (c : CondV) : z ≤ (passC K z c).2.1 ∧ (passC K z c).2.1 ≤ z + 1 + sizeL c.inner := by
  have h := pass_place (sizeL [c]) [c] (Nat.le_refl _) K z
  rw [passL_cons, sizeL_cons, passL_nil] at h
  have e : sizeL [] = 0 := by rw [sizeL]
  rw [e] at h
  split at h
  · simp only at h; omega
  · omega

theorem V.SetAt.other2 {w w' : World} {s r : Nat} {L M : List VarV} (h : V.SetAt w s L) (h' : V.SetAt w r M) (hb : But r w w') (hr : r ≠ s) : V.SetAt w' s L := by
  obtain ⟨_, _, h1, _⟩ := h'
  exact h.but hb hr h1 (by decide)

/-- What a call of passAll comes to. -/
def PassPost (w : World) (s : Nat) (r : List ByteArray × Int × Bool) (e : Ending) (w' : World) : Prop := e = .returned (.tuple #[.int .i64 r.2.1, .bool r.2.2]) ∧ Sc w' s r.1 ∧ But s w w'

set_option pp.deepTerms true
set_option pp.maxSteps 1000000
set_option maxRecDepth 100000 in
set_option maxHeartbeats 3200000 in
theorem pass_T (w : World) (lo hi s : Nat) (K : List ByteArray) (c : CondV) (z : Int) (h : Sc w s K) (hK : K.length + c.wt ≤ 4000) (hc : CondOk lo hi w c) (hhi : hi ≤ s) (hz : 0 ≤ z) (hzb : z + 1 + sizeL c.inner ≤ 100000)
    (ih : ∀ (w' : World) (s' : Nat) (K' : List ByteArray) (z' : Int), Sc w' s' K' → K'.length + wtL c.inner ≤ 4000 → CondsOk lo hi w' c.h.conds c.inner → hi ≤ s' → 0 ≤ z' → z' + sizeL c.inner ≤ 100000 →
      Calls Try.prog 76 #[.agg #[.pointer (some ⟨s', 0, none⟩)], .slice c.h.conds.a c.h.conds.n c.h.conds.c, .int .i64 z'] w' (PassPost w' s' (passL K' z' c.inner))) :
    Calls Try.prog 97 #[.agg #[.pointer (some ⟨s, 0, none⟩)], .agg #[.int .i64 c.h.kind, .bool c.h.goal, .string c.h.id, .slice c.h.attr.a c.h.attr.n c.h.attr.c, .slice c.h.value.a c.h.value.n c.h.value.c, .bool c.h.acc, .slice c.h.conds.a c.h.conds.n c.h.conds.c], .int .i64 z] w (PassPost w s (passC K z c)) := by
  have hB0 : Below w.heap.size w ((w.alloc (.cells #[.pointer (some ⟨s, 0, none⟩)] 85)).alloc (.cells #[.int .i64 c.h.kind, .bool c.h.goal, .string c.h.id, .slice c.h.attr.a c.h.attr.n c.h.attr.c, .slice c.h.value.a c.h.value.n c.h.value.c, .bool c.h.acc, .slice c.h.conds.a c.h.conds.n c.h.conds.c] 64)) := ((Below.refl _ w).alloc (Nat.le_refl _) _).alloc (by simp) _
  have hb0 : ((w.alloc (.cells #[.pointer (some ⟨s, 0, none⟩)] 85)).alloc (.cells #[.int .i64 c.h.kind, .bool c.h.goal, .string c.h.id, .slice c.h.attr.a c.h.attr.n c.h.attr.c, .slice c.h.value.a c.h.value.n c.h.value.c, .bool c.h.acc, .slice c.h.conds.a c.h.conds.n c.h.conds.c] 64)).heap[w.heap.size]? = some (.cells #[.pointer (some ⟨s, 0, none⟩)] 85 (0, 0)) := (Below.heap_alloc _ _ _ (by simp)).trans (heap_alloc_new w _)
  have hc0 := heap_alloc_new (w.alloc (.cells #[.pointer (some ⟨s, 0, none⟩)] 85)) (.cells #[.int .i64 c.h.kind, .bool c.h.goal, .string c.h.id, .slice c.h.attr.a c.h.attr.n c.h.attr.c, .slice c.h.value.a c.h.value.n c.h.value.c, .bool c.h.acc, .slice c.h.conds.a c.h.conds.n c.h.conds.c] 64)
  rw [World.size_alloc] at hc0
  have h0 := h.below hB0
  have hlt := h.lt
  have hck := hc.keep (KeepIn.of_below hB0 (by omega))
  have hwt := CondV.wt_eq c
  clear h hc
  generalize hW0 : ((w.alloc (.cells #[.pointer (some ⟨s, 0, none⟩)] 85)).alloc (.cells #[.int .i64 c.h.kind, .bool c.h.goal, .string c.h.id, .slice c.h.attr.a c.h.attr.n c.h.attr.c, .slice c.h.value.a c.h.value.n c.h.value.c, .bool c.h.acc, .slice c.h.conds.a c.h.conds.n c.h.conds.c] 64)) = W0 at hB0 hb0 hc0 h0 hck
  have wr1 : IntKind.i64.wrap (z + 1) = z + 1 := IntWalk.i64_in _ (by omega)
  have q0 := cell_of_one hb0
  have q9 := free_of_one hb0
  obtain ⟨r0, r1, r2, r3, r4, r5, r6⟩ := cond_cells hc0
  by_cases k3 : c.h.kind = 3
  · have p3 : (c.h.kind == 3) = true := by simp [k3]
    have P3 := Lib.hid p3
    have hinn := inner_T' W0.drew s K (h0.below (Below.refl _ _).drew)
    have hq : ∀ W, Below W0.heap.size W0.drew W → W.cell? ⟨w.heap.size, 0, none⟩ = some (.pointer (some ⟨s, 0, none⟩)) ∧ W.cell? ⟨w.heap.size + 1, 6, none⟩ = some (.slice c.h.conds.a c.h.conds.n c.h.conds.c) := by
      intro W hW
      have e1 := (hW.block w.heap.size (lt_of_block hb0)).trans hb0
      have e2 := (hW.block (w.heap.size + 1) (lt_of_block hc0)).trans hc0
      obtain ⟨-, -, -, -, -, -, a6⟩ := cond_cells e2
      exact ⟨cell_of_one e1, a6⟩
    have Hq := Lib.hid hq
    have Hck := Lib.hid hck
    have Ih := Lib.hid ih
    have H0 := Lib.hid h0
    clear hq hck ih k3 h0 r1 r2 r3 r4 r5
    go_enter Try.func97, Try.ntmps97
    go_wp2_with fail
    clear hW0
    go_region_held3 (fun W => W.cell? ⟨w.heap.size, 0, none⟩ = some (.pointer (some ⟨s, 0, none⟩)) ∧ W.cell? ⟨w.heap.size + 1, 6, none⟩ = some (.slice c.h.conds.a c.h.conds.n c.h.conds.c))
      (first | go_keep | assumption)
      (first
        | ((with_reducible refine hinn.mono ?_); rintro e w1 ⟨s', rfl, hs', hS', hB1⟩; have hh1 := Hq.out w1 hB1; have hcall := Ih.out w1 s' K (z + 1) hS' (by omega) ((condOk_iff.1 Hck.out).2.2.keep (KeepIn.of_below ((Below.refl W0.heap.size W0).drew.trans hB1) (by have := lt_of_block hb0; omega))) (by have := lt_of_block hb0; have h5 : W0.heap.size ≤ s' := hs'; omega) (by omega) (by omega))
        | ((with_reducible refine hcall.mono ?_); rintro e w2 ⟨rfl, hS2, hb2⟩; have hw02 : Below W0.heap.size W0 w2 := But.below ((Below.refl W0.heap.size W0).drew.trans hB1) hb2 hs' hB1.size; have hh2 := Hq.out w2 ⟨hw02.os, hw02.tape, hw02.output, hw02.size, hw02.block⟩)
        | fail "no arm")
    go_wp2_with fail
    go_ret2
    have e1 : passC K z c = (K, (passL K (z + 1) c.inner).2) := by rw [passC_eq, P3.out]; rfl
    have hB2 : Below w.heap.size w w2 := hB0.trans (hw02.mono hB0.size)
    exact ⟨by rw [e1]; rfl, by rw [e1]; exact H0.out.below hw02, But.of_below hB2⟩
  · have p3 : (c.h.kind == 3) = false := by simp [k3]
    have P3 := Lib.hid p3
    by_cases k2 : c.h.kind = 2
    · have p2 : (c.h.kind == 2) = true := by simp [k2]
      have P2 := Lib.hid p2
      have hinn := inner_T' W0 s K h0
      have H0 := Lib.hid h0
      have Hck := Lib.hid hck
      have Hc0 := Lib.hid hc0
      clear k2 k3 h0 hck ih hc0
      go_enter Try.func97, Try.ntmps97
      go_wp2_with fail
      clear hW0
      refine hinn.mono ?_
      rintro e w1 ⟨s', rfl, hs', hS', hB1⟩
      have hb1 := (hB1.block _ (lt_of_block hb0)).trans hb0
      have hc1 := (hB1.block _ (lt_of_block Hc0.out)).trans Hc0.out
      have hb : But w.heap.size w1 (w1.setCell ⟨w.heap.size, 0, none⟩ (.pointer (some ⟨s', 0, none⟩))) := (But.refl _ _).setCell 0 _
      have hbs : (w1.setCell ⟨w.heap.size, 0, none⟩ (.pointer (some ⟨s', 0, none⟩))).heap[w.heap.size]? = some (.cells #[.pointer (some ⟨s', 0, none⟩)] 85 (0, 0)) := by
        have := V.set_block (o := 0) hb1 (.pointer (some ⟨s', 0, none⟩))
        simpa using this
      have hcs := (hb.block (w.heap.size + 1) (lt_of_block hc1) (by omega)).trans hc1
      have hlb := lt_of_block hb0
      have hne : w.heap.size ≠ s' := by omega
      have hS2 : Sc (w1.setCell ⟨w.heap.size, 0, none⟩ (.pointer (some ⟨s', 0, none⟩))) s' K := ⟨hS'.1.but hb hne hb1 (by decide), hS'.2⟩
      have hC1 := hB0.trans (hB1.mono hB0.size)
      have hC2 := V.below_but hC1 hb (Nat.le_refl _) hC1.size
      have hS0 : Sc (w1.setCell ⟨w.heap.size, 0, none⟩ (.pointer (some ⟨s', 0, none⟩))) s K := ⟨(H0.out.below hB1).1.but hb (by omega) hb1 (by decide), H0.out.2⟩
      have hck2 := (Hck.out.keep (KeepIn.of_below hB1 (by omega))).keep (KeepIn.of_but hb (by omega))
      have u0 := cell_of_one hb1
      have u1 := free_of_one hb1
      clear q0 q9 r0 r1 r2 r3 r4 r5 r6 hinn
      have u2 := cell_of_one hbs
      obtain ⟨r0, r1, r2, r3, r4, r5, r6⟩ := cond_cells hcs
      have hmeet := meet_T (w1.setCell ⟨w.heap.size, 0, none⟩ (.pointer (some ⟨s', 0, none⟩))) lo hi s' K c hS2 (by omega) hck2 (by omega)
      have hS2l := hS2.lt
      cases hok : (meetH K c.h).2
      · have Hok := Lib.hid hok
        rw [hok] at hmeet
        go_wp2_with fail
        refine hmeet.mono ?_
        rintro e w3 ⟨rfl, hS3, hb3⟩
        go_wp2_with fail
        go_ret2
        have e1 : passC K z c = (K, z, false) := by rw [passC_eq, P3.out, P2.out, Hok.out]; rfl
        have hC3 := But.below hC2 hb3 (by omega) hC2.size
        have hS03 : Sc w3 s K := ⟨hS0.1.other2 hS2.1 hb3 (by omega), hS0.2⟩
        exact ⟨by rw [e1]; rfl, by rw [e1]; exact hS03, But.of_below hC3⟩
      · have Hok := Lib.hid hok
        rw [hok] at hmeet
        go_wp2_with fail
        refine hmeet.mono ?_
        rintro e w3 ⟨rfl, hS3, hb3⟩
        go_wp2_with fail
        go_ret2
        have e1 : passC K z c = (K, z + 1, true) := by rw [passC_eq, P3.out, P2.out, Hok.out]; rfl
        have hC3 := But.below hC2 hb3 (by omega) hC2.size
        have hS03 : Sc w3 s K := ⟨hS0.1.other2 hS2.1 hb3 (by omega), hS0.2⟩
        exact ⟨by rw [e1]; rfl, by rw [e1]; exact hS03, But.of_below hC3⟩
    · have p2 : (c.h.kind == 2) = false := by simp [k2]
      have P2 := Lib.hid p2
      have hmeet := meet_T W0 lo hi s K c h0 (by omega) hck hhi
      clear k2 k3 ih
      cases hok : (meetH K c.h).2
      · have Hok := Lib.hid hok
        rw [hok] at hmeet
        go_enter Try.func97, Try.ntmps97
        go_wp2_with fail
        clear hW0
        refine hmeet.mono ?_
        rintro e w3 ⟨rfl, hS3, hb3⟩
        go_wp2_with fail
        go_ret2
        have e1 : passC K z c = ((meetH K c.h).1, z, false) := by rw [passC_eq, P3.out, P2.out, Hok.out]; rfl
        exact ⟨by rw [e1]; rfl, by rw [e1]; exact hS3, (But.of_below hB0).trans hb3⟩
      · have Hok := Lib.hid hok
        rw [hok] at hmeet
        go_enter Try.func97, Try.ntmps97
        go_wp2_with fail
        clear hW0
        refine hmeet.mono ?_
        rintro e w3 ⟨rfl, hS3, hb3⟩
        go_wp2_with fail
        go_ret2
        have e1 : passC K z c = ((meetH K c.h).1, z + 1, true) := by rw [passC_eq, P3.out, P2.out, Hok.out]; rfl
        exact ⟨by rw [e1]; rfl, by rw [e1]; exact hS3, (But.of_below hB0).trans hb3⟩

end Go.Proofs.Ytmnpcpgdhaplaaa
