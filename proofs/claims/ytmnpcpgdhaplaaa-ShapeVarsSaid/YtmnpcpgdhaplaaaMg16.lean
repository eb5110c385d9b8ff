/- What meetTests and meet of a scope do. Conditions: the scope, the tests lie in memory; at most 5000 variables.
What meet of a scope does. Conditions: the scope, the condition lie in memory; at most 4000 variables. -/
import Derived.Test.YtmnpcpgdhaplaaaMg15
import Derived.Test.YtmnpcpgdhaplaaaMg7
import Derived.Test.YtmnpcpgdhaplaaaSpWalk
namespace Go.Proofs.Ytmnpcpgdhaplaaa
open Go Go.RowKit

theorem KeepIn.of_but {lo hi s : Nat} {W W' : World} (h : But s W W') (hs : hi ≤ s) : KeepIn lo hi W W' := fun b _ _ _ _ h2 hb => (h.block b (lt_of_block hb) (by omega)).trans hb

/-- What one test does. -/
def stepK (K : List ByteArray) (t : TestV) : List ByteArray := if t.rel == 1 && !t.var.toList.isEmpty then learn K t.var else K
theorem meetTs_cons (K : List ByteArray) (t : TestV) (ts : List TestV) : meetTs K (t :: ts) = if allowsB (stepK K t) t.var then meetTs (stepK K t) ts else (stepK K t, false) := by rw [meetTs]; rfl

theorem meetTs_append (K : List ByteArray) (a b : List TestV) : meetTs K (a ++ b) = if (meetTs K a).2 then meetTs (meetTs K a).1 b else meetTs K a := by
  induction a generalizing K with
  | nil => simp [meetTs]
  | cons t a ih =>
    rw [List.cons_append, meetTs_cons, meetTs_cons]
    cases h : allowsB (stepK K t) t.var
    · simp
    · simp [ih]

theorem meetTs_le (K : List ByteArray) (ts : List TestV) : (meetTs K ts).1.length ≤ K.length + ts.length := by
  induction ts generalizing K with
  | nil => simp [meetTs]
  | cons t ts ih =>
    rw [meetTs]
    have h1 := learn_le K t.var
    by_cases hc : (t.rel == 1 && !t.var.toList.isEmpty) = true
    · rw [if_pos hc]
      have h2 := ih (learn K t.var)
      split
      · simp only [List.length_cons]; omega
      · simp only [List.length_cons]; omega
    · rw [if_neg hc]
      have h2 := ih K
      split
      · simp only [List.length_cons]; omega
      · simp only [List.length_cons]; omega

theorem meetTs_one (K : List ByteArray) (t : TestV) : meetTs K [t] = (stepK K t, allowsB (stepK K t) t.var) := by
  rw [meetTs]
  show (if allowsB (stepK K t) t.var then meetTs (stepK K t) [] else (stepK K t, false)) = _
  cases h : allowsB (stepK K t) t.var <;> simp [meetTs]

theorem test_cells {W : World} {b : Nat} {t : TestV} (h : W.heap[b]? = some (.cells #[.int .i64 t.rel, .string t.var, .int .i64 t.sym.k, .string t.sym.t, .int .i64 t.sym.n, .slice t.lst.a t.lst.n t.lst.c] 67 (0, 0))) :
    W.cell? ⟨b, 0, none⟩ = some (.int .i64 t.rel) ∧ W.cell? ⟨b, 1, none⟩ = some (.string t.var) := by simp [World.cell?, h]

set_option maxRecDepth 100000 in
set_option maxHeartbeats 3200000 in
theorem meetTests_T (w : World) (lo hi s : Nat) (K : List ByteArray) (sl : SlH) (ts : List TestV) (h : Sc w s K) (hK : K.length + ts.length ≤ 5000) (ht : TestsOk lo hi w sl ts) (hhi : hi ≤ s) :
    Calls Try.prog 120 #[.agg #[.pointer (some ⟨s, 0, none⟩)], .slice sl.a sl.n sl.c] w fun e w' => e = .returned (.bool (meetTs K ts).2) ∧ Sc w' s (meetTs K ts).1 ∧ But s w w' := by
  have hB0 := boxSc w s
  have hb0 := heap_alloc_new w (.cells #[.pointer (some ⟨s, 0, none⟩)] 85)
  have h0 := h.below hB0
  have hlt := h.lt
  have ht0 := ht.keep (KeepIn.of_below hB0 (by omega))
  obtain ⟨a, m, cp⟩ := sl
  obtain rfl : m = ts.length := ht.1.1
  clear h
  rcases ht.1.2 with rfl | ⟨b, off, hlo, hhi2, ha, -⟩
  · go_enter Try.func120, Try.ntmps120
    go_wp2_with fail
    generalize (w.alloc (.cells #[.pointer (some ⟨s, 0, none⟩)] 85)) = W0 at hB0 hb0 h0 ⊢
    go_loopg [9] 0 (fun k iv wr => iv = .int .i64 0 ∧ wr = W0)
    case atStart => exact ⟨rfl, rfl⟩
    case round =>
      obtain ⟨rfl, rfl⟩ := hrel
      go_wp2_with fail
      go_ret
      exact ⟨rfl, h0, But.of_below hB0⟩
  replace ha : a = some ⟨b, off, none⟩ := ha
  subst ha
  clear ht
  go_enter Try.func120, Try.ntmps120
  go_wp2_with fail
  generalize (w.alloc (.cells #[.pointer (some ⟨s, 0, none⟩)] 85)) = W0 at hB0 hb0 h0 ht0 ⊢
  have Ht := Lib.hid ht0
  clear ht0
  have hsz0 := lt_of_block hb0
  go_loopg [9] ts.length (fun k iv wr => ∃ j : Nat, iv = .int .i64 j ∧ j ≤ ts.length ∧ Hid (k = ts.length - j ∧ (meetTs K (ts.take j)).2 = true) ∧ Hid (Sc wr s (meetTs K (ts.take j)).1) ∧ But s W0 wr)
  case atStart => exact ⟨0, rfl, by omega, Lib.hid ⟨rfl, by simp [meetTs]⟩, Lib.hid (by simpa [meetTs] using h0), But.refl _ _⟩
  case round =>
    obtain ⟨j, rfl, hj, Hm, HS, hb⟩ := hrel
    have hbs := hb.size
    have qb := (hb.block w.heap.size hsz0 (by omega)).trans hb0
    have q0 := cell_of_one qb
    by_cases hltj : j < ts.length
    · obtain ⟨t, hx⟩ : ∃ t, ts[j]? = some t := ⟨ts[j], by simp [hltj]⟩
      have hh := Ht.out.keep (KeepIn.of_but hb hhi)
      obtain ⟨b', off', -, -, hsa, hcell⟩ := hh.1.at hx
      obtain ⟨rfl, rfl⟩ : b = b' ∧ off = off' := by simpa using hsa
      have c0 : wr.cell? ⟨b, off + j * 6, none⟩ = _ := hcell 0 _ rfl
      have c1 := hcell 1 _ rfl
      have c2 := hcell 2 _ rfl
      have c3 := hcell 3 _ rfl
      have c4 := hcell 4 _ rfl
      have c5 := hcell 5 _ rfl
      have hBx : Below wr.heap.size wr (wr.alloc (.cells #[.int .i64 t.rel, .string t.var, .int .i64 t.sym.k, .string t.sym.t, .int .i64 t.sym.n, .slice t.lst.a t.lst.n t.lst.c] 67)) := boxT wr t.rel t.var t.sym t.lst
      have htb := heap_alloc_new wr (.cells #[.int .i64 t.rel, .string t.var, .int .i64 t.sym.k, .string t.sym.t, .int .i64 t.sym.n, .slice t.lst.a t.lst.n t.lst.c] 67)
      have hS1 := HS.out.below hBx
      have hlen : (meetTs K (ts.take j)).1.length ≤ 4999 := by
        have h1 := meetTs_le K (ts.take j)
        have h2 : (ts.take j).length = j := by rw [List.length_take]; omega
        omega
      have hlearn := learn_T _ s _ t.var hS1 (by omega)
      have hq : ∀ W, But s (wr.alloc (.cells #[.int .i64 t.rel, .string t.var, .int .i64 t.sym.k, .string t.sym.t, .int .i64 t.sym.n, .slice t.lst.a t.lst.n t.lst.c] 67)) W → W.cell? ⟨w.heap.size, 0, none⟩ = some (.pointer (some ⟨s, 0, none⟩)) ∧ W.cell? ⟨wr.heap.size, 0, none⟩ = some (.int .i64 t.rel) ∧ W.cell? ⟨wr.heap.size, 1, none⟩ = some (.string t.var) := by
        intro W hW
        have e1 := (hW.block w.heap.size (by have := lt_of_block htb; omega) (by omega)).trans ((hBx.block _ (by omega)).trans qb)
        have e2 := (hW.block wr.heap.size (lt_of_block htb) (by omega)).trans htb
        exact ⟨cell_of_one e1, test_cells e2⟩
      have hbx : But s W0 (wr.alloc (.cells #[.int .i64 t.rel, .string t.var, .int .i64 t.sym.k, .string t.sym.t, .int .i64 t.sym.n, .slice t.lst.a t.lst.n t.lst.c] 67)) := hb.trans (But.of_below hBx)
      have hnx : ts.take (j + 1) = ts.take j ++ [t] := by rw [List.take_add_one, hx]; rfl
      have hm1 : meetTs K (ts.take (j + 1)) = (stepK (meetTs K (ts.take j)).1 t, allowsB (stepK (meetTs K (ts.take j)).1 t) t.var) := by
        rw [hnx, meetTs_append, Hm.out.2, if_pos rfl, meetTs_one]
      have hall : meetTs K ts = if (meetTs K (ts.take (j + 1))).2 then meetTs (meetTs K (ts.take (j + 1))).1 (ts.drop (j + 1)) else meetTs K (ts.take (j + 1)) := by
        rw [← meetTs_append, List.take_append_drop]
      have Hq := Lib.hid hq
      have Hm1 := Lib.hid hm1
      have Hall := Lib.hid hall
      have Hbx := Lib.hid hbx
      obtain ⟨tq, t0, t1⟩ := hq _ (But.refl _ _)
      clear hcell hsa hx hh hq hm1 hall hbx hnx
      -- behind what is learned: the tail
      have tail : ∀ (W : World) (K' : List ByteArray), But s (wr.alloc (.cells #[.int .i64 t.rel, .string t.var, .int .i64 t.sym.k, .string t.sym.t, .int .i64 t.sym.n, .slice t.lst.a t.lst.n t.lst.c] 67)) W → Sc W s K' → K'.length ≤ 5000 → Calls Try.prog 98 #[.agg #[.pointer (some ⟨s, 0, none⟩)], .string t.var] W fun e w' => e = .returned (.bool (allowsB K' t.var)) ∧ Below W.heap.size W w' := fun W K' _ h2 h3 => allows_T W s K' t.var h2 (by omega)
      by_cases hr : t.rel = 1
      · have r1 : (t.rel == 1) = true := by simp [hr]
        cases he : t.var.toList.isEmpty
        · have he2 : ¬ t.var.toList = [] := by intro h; rw [h] at he; cases he
          have hst : stepK (meetTs K (ts.take j)).1 t = learn (meetTs K (ts.take j)).1 t.var := by rw [stepK, r1, he]; rfl
          have Hst := Lib.hid hst
          clear hr hst
          go_wp2_with fail
          refine hlearn.mono ?_
          rintro e w2 ⟨⟨vv, rfl⟩, hS2, hb2⟩
          obtain ⟨t2, t3, t4⟩ := Hq.out w2 hb2
          have hl2 := learn_le (meetTs K (ts.take j)).1 t.var
          have hal := tail w2 _ hb2 hS2 (by omega)
          clear t0 t1 tq
          go_wp2_with fail
          refine hal.mono ?_
          rintro e w3 ⟨rfl, hB3⟩
          have hb3 := (Hbx.out.trans hb2).trans (But.of_below hB3)
          have hS3 := hS2.below hB3
          cases hok : allowsB (learn (meetTs K (ts.take j)).1 t.var) t.var
          · have Hok := Lib.hid hok
            go_wp2_with fail
            go_ret
            have e1 : meetTs K ts = (learn (meetTs K (ts.take j)).1 t.var, false) := by rw [Hall.out, Hm1.out, Hst.out, Hok.out]; rfl
            exact ⟨by rw [e1]; rfl, by rw [e1]; exact hS3, (But.of_below hB0).trans hb3⟩
          · have Hok := Lib.hid hok
            go_wp2_with fail
            go_roundg (ts.length - (j + 1))
            case measure => rw [Hm.out.1]; omega
            case rel => exact ⟨j + 1, by go_num, by omega, Lib.hid ⟨rfl, by rw [Hm1.out, Hst.out, Hok.out]⟩, Lib.hid (by rw [Hm1.out, Hst.out]; exact hS3), hb3⟩
        · have he2 : t.var.toList = [] := by simpa using he
          have hst : stepK (meetTs K (ts.take j)).1 t = (meetTs K (ts.take j)).1 := by rw [stepK, r1, he]; rfl
          have Hst := Lib.hid hst
          have hal := tail _ _ (But.refl _ _) hS1 (by omega)
          clear hr hst
          go_wp2_with fail
          refine hal.mono ?_
          rintro e w3 ⟨rfl, hB3⟩
          have hb3 := Hbx.out.trans (But.of_below hB3)
          have hS3 := hS1.below hB3
          cases hok : allowsB (meetTs K (ts.take j)).1 t.var
          · have Hok := Lib.hid hok
            go_wp2_with fail
            go_ret
            have e1 : meetTs K ts = ((meetTs K (ts.take j)).1, false) := by rw [Hall.out, Hm1.out, Hst.out, Hok.out]; rfl
            exact ⟨by rw [e1]; rfl, by rw [e1]; exact hS3, (But.of_below hB0).trans hb3⟩
          · have Hok := Lib.hid hok
            go_wp2_with fail
            go_roundg (ts.length - (j + 1))
            case measure => rw [Hm.out.1]; omega
            case rel => exact ⟨j + 1, by go_num, by omega, Lib.hid ⟨rfl, by rw [Hm1.out, Hst.out, Hok.out]⟩, Lib.hid (by rw [Hm1.out, Hst.out]; exact hS3), hb3⟩
      · have r1 : (t.rel == 1) = false := by simp [hr]
        have hst : stepK (meetTs K (ts.take j)).1 t = (meetTs K (ts.take j)).1 := by rw [stepK, r1]; rfl
        have Hst := Lib.hid hst
        have hal := tail _ _ (But.refl _ _) hS1 (by omega)
        clear hr hst
        go_wp2_with fail
        refine hal.mono ?_
        rintro e w3 ⟨rfl, hB3⟩
        have hb3 := Hbx.out.trans (But.of_below hB3)
        have hS3 := hS1.below hB3
        cases hok : allowsB (meetTs K (ts.take j)).1 t.var
        · have Hok := Lib.hid hok
          go_wp2_with fail
          go_ret
          have e1 : meetTs K ts = ((meetTs K (ts.take j)).1, false) := by rw [Hall.out, Hm1.out, Hst.out, Hok.out]; rfl
          exact ⟨by rw [e1]; rfl, by rw [e1]; exact hS3, (But.of_below hB0).trans hb3⟩
        · have Hok := Lib.hid hok
          go_wp2_with fail
          go_roundg (ts.length - (j + 1))
          case measure => rw [Hm.out.1]; omega
          case rel => exact ⟨j + 1, by go_num, by omega, Lib.hid ⟨rfl, by rw [Hm1.out, Hst.out, Hok.out]⟩, Lib.hid (by rw [Hm1.out, Hst.out]; exact hS3), hb3⟩
    · obtain rfl : j = ts.length := by omega
      rw [List.take_length] at Hm HS
      go_wp2_with fail
      go_ret
      exact ⟨by rw [Hm.out.2]; rfl, HS.out, (But.of_below hB0).trans hb⟩

end Go.Proofs.Ytmnpcpgdhaplaaa

namespace Go.Proofs.Ytmnpcpgdhaplaaa
open Go Go.RowKit

theorem meetH_le (K : List ByteArray) (h : CondH) : (meetH K h).1.length ≤ K.length + 1 + h.attrs.length + h.values.length := by
  unfold meetH
  have h1 := learn_le K h.id
  have h3 : (if h.goal = true then learn K h.id else K).length ≤ K.length + 1 := by split <;> omega
  generalize (if h.goal = true then learn K h.id else K) = K1 at h3
  have h4 := meetTs_le K1 h.attrs
  have h5 := meetTs_le (meetTs K1 h.attrs).1 h.values
  simp only
  split
  · split <;> omega
  · simp only; omega

set_option maxRecDepth 100000 in
set_option maxHeartbeats 3200000 in
theorem meet_T (w : World) (lo hi s : Nat) (K : List ByteArray) (c : CondV) (h : Sc w s K) (hK : K.length + 1 + c.h.attrs.length + c.h.values.length ≤ 4000) (hc : CondOk lo hi w c) (hhi : hi ≤ s) :
    Calls Try.prog 110 #[.agg #[.pointer (some ⟨s, 0, none⟩)], .agg #[.int .i64 c.h.kind, .bool c.h.goal, .string c.h.id, .slice c.h.attr.a c.h.attr.n c.h.attr.c, .slice c.h.value.a c.h.value.n c.h.value.c, .bool c.h.acc, .slice c.h.conds.a c.h.conds.n c.h.conds.c]] w fun e w' => e = .returned (.bool (meetH K c.h).2) ∧ Sc w' s (meetH K c.h).1 ∧ But s w w' := by
  have hB0 : Below w.heap.size w ((w.alloc (.cells #[.pointer (some ⟨s, 0, none⟩)] 85)).alloc (.cells #[.int .i64 c.h.kind, .bool c.h.goal, .string c.h.id, .slice c.h.attr.a c.h.attr.n c.h.attr.c, .slice c.h.value.a c.h.value.n c.h.value.c, .bool c.h.acc, .slice c.h.conds.a c.h.conds.n c.h.conds.c] 64)) := ((Below.refl _ w).alloc (Nat.le_refl _) _).alloc (by simp) _
  have hb0 : ((w.alloc (.cells #[.pointer (some ⟨s, 0, none⟩)] 85)).alloc (.cells #[.int .i64 c.h.kind, .bool c.h.goal, .string c.h.id, .slice c.h.attr.a c.h.attr.n c.h.attr.c, .slice c.h.value.a c.h.value.n c.h.value.c, .bool c.h.acc, .slice c.h.conds.a c.h.conds.n c.h.conds.c] 64)).heap[w.heap.size]? = some (.cells #[.pointer (some ⟨s, 0, none⟩)] 85 (0, 0)) := (Below.heap_alloc _ _ _ (by simp)).trans (heap_alloc_new w _)
  have hc0 := heap_alloc_new (w.alloc (.cells #[.pointer (some ⟨s, 0, none⟩)] 85)) (.cells #[.int .i64 c.h.kind, .bool c.h.goal, .string c.h.id, .slice c.h.attr.a c.h.attr.n c.h.attr.c, .slice c.h.value.a c.h.value.n c.h.value.c, .bool c.h.acc, .slice c.h.conds.a c.h.conds.n c.h.conds.c] 64)
  rw [World.size_alloc] at hc0
  have h0 := h.below hB0
  have hlt := h.lt
  obtain ⟨hta, htv, -⟩ := condOk_iff.1 (hc.keep (KeepIn.of_below hB0 (by omega)))
  clear h hc
  have key : ∀ (W0 : World), Below w.heap.size w W0 → W0.heap[w.heap.size]? = some (.cells #[.pointer (some ⟨s, 0, none⟩)] 85 (0, 0)) → W0.heap[w.heap.size + 1]? = some (.cells #[.int .i64 c.h.kind, .bool c.h.goal, .string c.h.id, .slice c.h.attr.a c.h.attr.n c.h.attr.c, .slice c.h.value.a c.h.value.n c.h.value.c, .bool c.h.acc, .slice c.h.conds.a c.h.conds.n c.h.conds.c] 64 (0, 0)) → ∀ W, But s W0 W →
      W.cell? ⟨w.heap.size, 0, none⟩ = some (.pointer (some ⟨s, 0, none⟩)) ∧ (W.cell? ⟨w.heap.size + 1, 1, none⟩ = some (.bool c.h.goal) ∧ W.cell? ⟨w.heap.size + 1, 2, none⟩ = some (.string c.h.id) ∧ W.cell? ⟨w.heap.size + 1, 3, none⟩ = some (.slice c.h.attr.a c.h.attr.n c.h.attr.c) ∧ W.cell? ⟨w.heap.size + 1, 4, none⟩ = some (.slice c.h.value.a c.h.value.n c.h.value.c)) ∧ But s w W := by
    intro W0 hB hb hcb W hW
    have e1 := (hW.block w.heap.size (lt_of_block hb) (by omega)).trans hb
    have e2 := (hW.block (w.heap.size + 1) (lt_of_block hcb) (by omega)).trans hcb
    obtain ⟨-, a1, a2, a3, a4, -, -⟩ := cond_cells e2
    exact ⟨cell_of_one e1, ⟨a1, a2, a3, a4⟩, (But.of_below hB).trans hW⟩
  generalize hW0 : ((w.alloc (.cells #[.pointer (some ⟨s, 0, none⟩)] 85)).alloc (.cells #[.int .i64 c.h.kind, .bool c.h.goal, .string c.h.id, .slice c.h.attr.a c.h.attr.n c.h.attr.c, .slice c.h.value.a c.h.value.n c.h.value.c, .bool c.h.acc, .slice c.h.conds.a c.h.conds.n c.h.conds.c] 64)) = W0 at hB0 hb0 hc0 h0 hta htv
  have Hq := Lib.hid (key W0 hB0 hb0 hc0)
  have Hta := Lib.hid (fun W (hW : But s W0 W) => hta.keep (KeepIn.of_but hW hhi))
  have Htv := Lib.hid (fun W (hW : But s W0 W) => htv.keep (KeepIn.of_but hW hhi))
  clear key hta htv hb0 hc0
  -- the rest, behind what Goal makes known
  have rest : ∀ (W : World) (K1 : List ByteArray), But s W0 W → Sc W s K1 → K1.length + c.h.attrs.length + c.h.values.length ≤ 4000 →
      Calls Try.prog 111 #[.agg #[.pointer (some ⟨s, 0, none⟩)], .string c.h.id] W (fun e w' => e = .returned (.bool (knowsB K1 c.h.id)) ∧ Below W.heap.size W w') ∧
      (∀ W', But s W0 W' → Sc W' s K1 → Calls Try.prog 120 #[.agg #[.pointer (some ⟨s, 0, none⟩)], .slice c.h.attr.a c.h.attr.n c.h.attr.c] W' fun e w' => e = .returned (.bool (meetTs K1 c.h.attrs).2) ∧ Sc w' s (meetTs K1 c.h.attrs).1 ∧ But s W' w') ∧
      (∀ W', But s W0 W' → Sc W' s (meetTs K1 c.h.attrs).1 → Calls Try.prog 120 #[.agg #[.pointer (some ⟨s, 0, none⟩)], .slice c.h.value.a c.h.value.n c.h.value.c] W' fun e w' => e = .returned (.bool (meetTs (meetTs K1 c.h.attrs).1 c.h.values).2) ∧ Sc w' s (meetTs (meetTs K1 c.h.attrs).1 c.h.values).1 ∧ But s W' w') := by
    intro W K1 hW hS hl
    refine ⟨knows_T W s K1 _ hS (by omega), fun W' hW' hS' => meetTests_T W' lo hi s K1 c.h.attr c.h.attrs hS' (by omega) (Hta.out W' hW') hhi, fun W' hW' hS' => meetTests_T W' lo hi s _ c.h.value c.h.values hS' (by have := meetTs_le K1 c.h.attrs; omega) (Htv.out W' hW') hhi⟩
  have Hrest := Lib.hid rest
  clear rest
  obtain ⟨q0, ⟨q1, q2, q3, q4⟩, -⟩ := Hq.out W0 (But.refl _ _)
  cases hg : c.h.goal
  · have Hg := Lib.hid hg
    rw [hg] at q1 hW0
    obtain ⟨hk, hat, hvt⟩ := Hrest.out W0 K (But.refl _ _) h0 (by omega)
    have Hat := Lib.hid hat
    have Hvt := Lib.hid hvt
    clear hat hvt
    have em : meetH K c.h = if knowsB K c.h.id then (if (meetTs K c.h.attrs).2 then meetTs (meetTs K c.h.attrs).1 c.h.values else meetTs K c.h.attrs) else (K, false) := by rw [meetH, Hg.out]; rfl
    have Em := Lib.hid em
    clear em
    go_enter Try.func110, Try.ntmps110
    go_wp2_with fail
    clear hW0
    refine hk.mono ?_
    rintro e w1 ⟨rfl, hB1⟩
    have hb1 : But s W0 w1 := But.of_below hB1
    have hS1 := h0.below hB1
    clear q0 q1 q2 q3 q4
    obtain ⟨q0, ⟨q1, q2, q3, q4⟩, hw1⟩ := Hq.out w1 hb1
    cases hkn : knowsB K c.h.id
    · have Hkn := Lib.hid hkn
      go_wp2_with fail
      go_ret
      have e1 : meetH K c.h = (K, false) := by rw [Em.out, Hkn.out]; rfl
      exact ⟨by rw [e1]; rfl, by rw [e1]; exact hS1, hw1⟩
    · have Hkn := Lib.hid hkn
      have hm := Hat.out w1 hb1 hS1
      go_wp2_with fail
      refine hm.mono ?_
      rintro e w2 ⟨rfl, hS2, hb2⟩
      have hbb2 := hb1.trans hb2
      clear q0 q1 q2 q3 q4
      obtain ⟨q0, ⟨q1, q2, q3, q4⟩, hw2⟩ := Hq.out w2 hbb2
      cases hok : (meetTs K c.h.attrs).2
      · have Hok := Lib.hid hok
        go_wp2_with fail
        go_ret
        have e1 : meetH K c.h = meetTs K c.h.attrs := by rw [Em.out, Hkn.out, Hok.out]; rfl
        exact ⟨by rw [e1, Hok.out]; rfl, by rw [e1]; exact hS2, hw2⟩
      · have Hok := Lib.hid hok
        have hm2 := Hvt.out w2 hbb2 hS2
        go_wp2_with fail
        refine hm2.mono ?_
        rintro e w3 ⟨rfl, hS3, hb3⟩
        go_wp2_with fail
        go_ret
        have e1 : meetH K c.h = meetTs (meetTs K c.h.attrs).1 c.h.values := by rw [Em.out, Hkn.out, Hok.out]; rfl
        exact ⟨by rw [e1]; rfl, by rw [e1]; exact hS3, hw2.trans hb3⟩
  · have Hg := Lib.hid hg
    rw [hg] at q1 hW0
    have hle := learn_le K c.h.id
    have hln := learn_T W0 s K c.h.id h0 (by omega)
    have em : meetH K c.h = if knowsB (learn K c.h.id) c.h.id then (if (meetTs (learn K c.h.id) c.h.attrs).2 then meetTs (meetTs (learn K c.h.id) c.h.attrs).1 c.h.values else meetTs (learn K c.h.id) c.h.attrs) else (learn K c.h.id, false) := by rw [meetH, Hg.out]; rfl
    have Em := Lib.hid em
    clear em
    go_enter Try.func110, Try.ntmps110
    go_wp2_with fail
    clear hW0
    refine hln.mono ?_
    rintro e w0 ⟨⟨vv, rfl⟩, hS0, hb0⟩
    generalize learn K c.h.id = K1 at hle hS0 Em
    obtain ⟨hk, hat, hvt⟩ := Hrest.out w0 K1 hb0 hS0 (by omega)
    have Hat := Lib.hid hat
    have Hvt := Lib.hid hvt
    clear hat hvt q0 q1 q2 q3 q4 hln
    obtain ⟨q0, ⟨q1, q2, q3, q4⟩, -⟩ := Hq.out w0 hb0
    go_wp2_with fail
    refine hk.mono ?_
    rintro e w1 ⟨rfl, hB1⟩
    have hb1 : But s W0 w1 := hb0.trans (But.of_below hB1)
    have hS1 := hS0.below hB1
    clear q0 q1 q2 q3 q4
    obtain ⟨q0, ⟨q1, q2, q3, q4⟩, hw1⟩ := Hq.out w1 hb1
    cases hkn : knowsB K1 c.h.id
    · have Hkn := Lib.hid hkn
      go_wp2_with fail
      go_ret
      have e1 : meetH K c.h = (K1, false) := by rw [Em.out, Hkn.out]; rfl
      exact ⟨by rw [e1]; rfl, by rw [e1]; exact hS1, hw1⟩
    · have Hkn := Lib.hid hkn
      have hm := Hat.out w1 hb1 hS1
      go_wp2_with fail
      refine hm.mono ?_
      rintro e w2 ⟨rfl, hS2, hb2⟩
      have hbb2 := hb1.trans hb2
      clear q0 q1 q2 q3 q4
      obtain ⟨q0, ⟨q1, q2, q3, q4⟩, hw2⟩ := Hq.out w2 hbb2
      cases hok : (meetTs K1 c.h.attrs).2
      · have Hok := Lib.hid hok
        go_wp2_with fail
        go_ret
        have e1 : meetH K c.h = meetTs K1 c.h.attrs := by rw [Em.out, Hkn.out, Hok.out]; rfl
        exact ⟨by rw [e1, Hok.out]; rfl, by rw [e1]; exact hS2, hw2⟩
      · have Hok := Lib.hid hok
        have hm2 := Hvt.out w2 hbb2 hS2
        go_wp2_with fail
        refine hm2.mono ?_
        rintro e w3 ⟨rfl, hS3, hb3⟩
        go_wp2_with fail
        go_ret
        have e1 : meetH K c.h = meetTs (meetTs K1 c.h.attrs).1 c.h.values := by rw [Em.out, Hkn.out, Hok.out]; rfl
        exact ⟨by rw [e1]; rfl, by rw [e1]; exact hS3, hw2.trans hb3⟩

end Go.Proofs.Ytmnpcpgdhaplaaa
