/- What meetTests and meet of a scope do. Conditions: the scope, the tests lie in memory; at most 5000 variables. -/
import Derived.Test.YtmnpcpgdhaplaaaScope
import Derived.Test.YtmnpcpgdhaplaaaMg13
namespace Go.Proofs.Ytmnpcpgdhaplaaa
open Go Go.RowKit

theorem KeepIn.of_but {lo hi s : Nat} {W W' : World} (h : But s W W') (hs : hi ≤ s) : KeepIn lo hi W W' := fun b _ _ _ _ h2 hb => (h.block b (lt_of_block hb) (by omega)).trans hb

/-- What one test does. -/
def stepK (K : List ByteArray) (t : TestV) : List ByteArray := if t.rel == 1 && !t.var.toList.isEmpty then learn K t.var else K
theorem meetTs_cons (K : List ByteArray) (t : TestV) (ts : List TestV) : meetTs K (t :: ts) = if allowsB (stepK K t) t.var then meetTs (stepK K t) ts else (stepK K t, false) := by rw [meetTs]; rfl

theorem meetTs_append (K : List ByteArray) (a b : List TestV) : meetTs K (a ++ b) = if (meetTs K a).2 then meetTs (meetTs K a).1 b else meetTs K a := by
  induction a generalizing K with
  | nil => simp [meetTs]
  | cons t a ih =>
    rw [List.cons_append, meetTs_cons, meetTs_cons]
    cases h : allowsB (stepK K t) t.var
    · simp
    · simp [ih]

theorem meetTs_le (K : List ByteArray) (ts : List TestV) : (meetTs K ts).1.length ≤ K.length + ts.length := by
  induction ts generalizing K with
  | nil => simp [meetTs]
  | cons t ts ih =>
    rw [meetTs]
    have h1 := learn_le K t.var
    by_cases hc : (t.rel == 1 && !t.var.toList.isEmpty) = true
    · rw [if_pos hc]
      have h2 := ih (learn K t.var)
      split
      · simp only [List.length_cons]; omega
      · simp only [List.length_cons]; omega
    · rw [if_neg hc]
      have h2 := ih K
      split
      · simp only [List.length_cons]; omega
      · simp only [List.length_cons]; omega

theorem meetTs_one (K : List ByteArray) (t : TestV) : meetTs K [t] = (stepK K t, allowsB (stepK K t) t.var) := by
  rw [meetTs]
  show (if allowsB (stepK K t) t.var then meetTs (stepK K t) [] else (stepK K t, false)) = _
  cases h : allowsB (stepK K t) t.var <;> simp [meetTs]

theorem test_cells {W : World} {b : Nat} {t : TestV} (h : W.heap[b]? = some (.cells #[.int .i64 t.rel, .string t.var, .int .i64 t.sym.k, .string t.sym.t, .int .i64 t.sym.n, .slice t.lst.a t.lst.n t.lst.c] 67 (0, 0))) :
    W.cell? ⟨b, 0, none⟩ = some (.int .i64 t.rel) ∧ W.cell? ⟨b, 1, none⟩ = some (.string t.var) := by simp [World.cell?, h]

set_option maxRecDepth 100000 in
set_option maxHeartbeats 3200000 in
theorem meetTests_T (w : World) (lo hi s : Nat) (K : List ByteArray) (sl : SlH) (ts : List TestV) (h : Sc w s K) (hK : K.length + ts.length ≤ 5000) (ht : TestsOk lo hi w sl ts) (hhi : hi ≤ s) :
    Calls Try.prog 120 #[.agg #[.pointer (some ⟨s, 0, none⟩)], .slice sl.a sl.n sl.c] w fun e w' => e = .returned (.bool (meetTs K ts).2) ∧ Sc w' s (meetTs K ts).1 ∧ But s w w' := by
  have hB0 := boxSc w s
  have hb0 := heap_alloc_new w (.cells #[.pointer (some ⟨s, 0, none⟩)] 85)
  have h0 := h.below hB0
  have hlt := h.lt
  have ht0 := ht.keep (KeepIn.of_below hB0 (by omega))
  obtain ⟨a, m, cp⟩ := sl
  obtain rfl : m = ts.length := ht.1.1
  clear h
  rcases ht.1.2 with rfl | ⟨b, off, hlo, hhi2, ha, -⟩
  · go_enter Try.func120, Try.ntmps120
    go_wp2_with fail
    generalize (w.alloc (.cells #[.pointer (some ⟨s, 0, none⟩)] 85)) = W0 at hB0 hb0 h0 ⊢
    go_loopg [9] 0 (fun k iv wr => iv = .int .i64 0 ∧ wr = W0)
    case atStart => exact ⟨rfl, rfl⟩
    case round =>
      obtain ⟨rfl, rfl⟩ := hrel
      go_wp2_with fail
      go_ret
      exact ⟨rfl, h0, But.of_below hB0⟩
  replace ha : a = some ⟨b, off, none⟩ := ha
  subst ha
  clear ht
  go_enter Try.func120, Try.ntmps120
  go_wp2_with fail
  generalize (w.alloc (.cells #[.pointer (some ⟨s, 0, none⟩)] 85)) = W0 at hB0 hb0 h0 ht0 ⊢
  have Ht := Lib.hid ht0
  clear ht0
  have hsz0 := lt_of_block hb0
  go_loopg [9] ts.length (fun k iv wr => ∃ j : Nat, iv = .int .i64 j ∧ j ≤ ts.length ∧ Hid (k = ts.length - j ∧ (meetTs K (ts.take j)).2 = true) ∧ Hid (Sc wr s (meetTs K (ts.take j)).1) ∧ But s W0 wr)
  case atStart => exact ⟨0, rfl, by omega, Lib.hid ⟨rfl, by simp [meetTs]⟩, Lib.hid (by simpa [meetTs] using h0), But.refl _ _⟩
  case round =>
    obtain ⟨j, rfl, hj, Hm, HS, hb⟩ := hrel
    have hbs := hb.size
    have qb := (hb.block w.heap.size hsz0 (by omega)).trans hb0
    have q0 := cell_of_one qb
    by_cases hltj : j < ts.length
    · obtain ⟨t, hx⟩ : ∃ t, ts[j]? = some t := ⟨ts[j], by simp [hltj]⟩
      have hh := Ht.out.keep (KeepIn.of_but hb hhi)
      obtain ⟨b', off', -, -, hsa, hcell⟩ := hh.1.at hx
      obtain ⟨rfl, rfl⟩ : b = b' ∧ off = off' := by simpa using hsa
      have c0 : wr.cell? ⟨b, off + j * 6, none⟩ = _ := hcell 0 _ rfl
      have c1 := hcell 1 _ rfl
      have c2 := hcell 2 _ rfl
      have c3 := hcell 3 _ rfl
      have c4 := hcell 4 _ rfl
      have c5 := hcell 5 _ rfl
      have hBx : Below wr.heap.size wr (wr.alloc (.cells #[.int .i64 t.rel, .string t.var, .int .i64 t.sym.k, .string t.sym.t, .int .i64 t.sym.n, .slice t.lst.a t.lst.n t.lst.c] 67)) := boxT wr t.rel t.var t.sym t.lst
      have htb := heap_alloc_new wr (.cells #[.int .i64 t.rel, .string t.var, .int .i64 t.sym.k, .string t.sym.t, .int .i64 t.sym.n, .slice t.lst.a t.lst.n t.lst.c] 67)
      have hS1 := HS.out.below hBx
      have hlen : (meetTs K (ts.take j)).1.length ≤ 4999 := by
        have h1 := meetTs_le K (ts.take j)
        have h2 : (ts.take j).length = j := by rw [List.length_take]; omega
        omega
      have hlearn := learn_T _ s _ t.var hS1 (by omega)
      have hq : ∀ W, But s (wr.alloc (.cells #[.int .i64 t.rel, .string t.var, .int .i64 t.sym.k, .string t.sym.t, .int .i64 t.sym.n, .slice t.lst.a t.lst.n t.lst.c] 67)) W → W.cell? ⟨w.heap.size, 0, none⟩ = some (.pointer (some ⟨s, 0, none⟩)) ∧ W.cell? ⟨wr.heap.size, 0, none⟩ = some (.int .i64 t.rel) ∧ W.cell? ⟨wr.heap.size, 1, none⟩ = some (.string t.var) := by
        intro W hW
        have e1 := (hW.block w.heap.size (by have := lt_of_block htb; omega) (by omega)).trans ((hBx.block _ (by omega)).trans qb)
        have e2 := (hW.block wr.heap.size (lt_of_block htb) (by omega)).trans htb
        exact ⟨cell_of_one e1, test_cells e2⟩
      have hbx : But s W0 (wr.alloc (.cells #[.int .i64 t.rel, .string t.var, .int .i64 t.sym.k, .string t.sym.t, .int .i64 t.sym.n, .slice t.lst.a t.lst.n t.lst.c] 67)) := hb.trans (But.of_below hBx)
      have hnx : ts.take (j + 1) = ts.take j ++ [t] := by rw [List.take_add_one, hx]; rfl
      have hm1 : meetTs K (ts.take (j + 1)) = (stepK (meetTs K (ts.take j)).1 t, allowsB (stepK (meetTs K (ts.take j)).1 t) t.var) := by
        rw [hnx, meetTs_append, Hm.out.2, if_pos rfl, meetTs_one]
      have hall : meetTs K ts = if (meetTs K (ts.take (j + 1))).2 then meetTs (meetTs K (ts.take (j + 1))).1 (ts.drop (j + 1)) else meetTs K (ts.take (j + 1)) := by
        rw [← meetTs_append, List.take_append_drop]
      have Hq := Lib.hid hq
      have Hm1 := Lib.hid hm1
      have Hall := Lib.hid hall
      have Hbx := Lib.hid hbx
      obtain ⟨tq, t0, t1⟩ := hq _ (But.refl _ _)
      clear hcell hsa hx hh hq hm1 hall hbx hnx
      -- behind what is learned: the tail
      have tail : ∀ (W : World) (K' : List ByteArray), But s (wr.alloc (.cells #[.int .i64 t.rel, .string t.var, .int .i64 t.sym.k, .string t.sym.t, .int .i64 t.sym.n, .slice t.lst.a t.lst.n t.lst.c] 67)) W → Sc W s K' → K'.length ≤ 5000 → Calls Try.prog 98 #[.agg #[.pointer (some ⟨s, 0, none⟩)], .string t.var] W fun e w' => e = .returned (.bool (allowsB K' t.var)) ∧ Below W.heap.size W w' := fun W K' _ h2 h3 => allows_T W s K' t.var h2 (by omega)
      by_cases hr : t.rel = 1
      · have r1 : (t.rel == 1) = true := by simp [hr]
        cases he : t.var.toList.isEmpty
        · have he2 : ¬ t.var.toList = [] := by intro h; rw [h] at he; cases he
          have hst : stepK (meetTs K (ts.take j)).1 t = learn (meetTs K (ts.take j)).1 t.var := by rw [stepK, r1, he]; rfl
          have Hst := Lib.hid hst
          clear hr hst
          go_wp2_with fail
          refine hlearn.mono ?_
          rintro e w2 ⟨⟨vv, rfl⟩, hS2, hb2⟩
          obtain ⟨t2, t3, t4⟩ := Hq.out w2 hb2
          have hl2 := learn_le (meetTs K (ts.take j)).1 t.var
          have hal := tail w2 _ hb2 hS2 (by omega)
          clear t0 t1 tq
          go_wp2_with fail
          refine hal.mono ?_
          rintro e w3 ⟨rfl, hB3⟩
          have hb3 := (Hbx.out.trans hb2).trans (But.of_below hB3)
          have hS3 := hS2.below hB3
          cases hok : allowsB (learn (meetTs K (ts.take j)).1 t.var) t.var
          · have Hok := Lib.hid hok
            go_wp2_with fail
            go_ret
            have e1 : meetTs K ts = (learn (meetTs K (ts.take j)).1 t.var, false) := by rw [Hall.out, Hm1.out, Hst.out, Hok.out]; rfl
            exact ⟨by rw [e1]; rfl, by rw [e1]; exact hS3, (But.of_below hB0).trans hb3⟩
          · have Hok := Lib.hid hok
            go_wp2_with fail
            go_roundg (ts.length - (j + 1))
            case measure => rw [Hm.out.1]; omega
            case rel => exact ⟨j + 1, by go_num, by omega, Lib.hid ⟨rfl, by rw [Hm1.out, Hst.out, Hok.out]⟩, Lib.hid (by rw [Hm1.out, Hst.out]; exact hS3), hb3⟩
        · have he2 : t.var.toList = [] := by simpa using he
          have hst : stepK (meetTs K (ts.take j)).1 t = (meetTs K (ts.take j)).1 := by rw [stepK, r1, he]; rfl
          have Hst := Lib.hid hst
          have hal := tail _ _ (But.refl _ _) hS1 (by omega)
          clear hr hst
          go_wp2_with fail
          refine hal.mono ?_
          rintro e w3 ⟨rfl, hB3⟩
          have hb3 := Hbx.out.trans (But.of_below hB3)
          have hS3 := hS1.below hB3
          cases hok : allowsB (meetTs K (ts.take j)).1 t.var
          · have Hok := Lib.hid hok
            go_wp2_with fail
            go_ret
            have e1 : meetTs K ts = ((meetTs K (ts.take j)).1, false) := by rw [Hall.out, Hm1.out, Hst.out, Hok.out]; rfl
            exact ⟨by rw [e1]; rfl, by rw [e1]; exact hS3, (But.of_below hB0).trans hb3⟩
          · have Hok := Lib.hid hok
            go_wp2_with fail
            go_roundg (ts.length - (j + 1))
            case measure => rw [Hm.out.1]; omega
            case rel => exact ⟨j + 1, by go_num, by omega, Lib.hid ⟨rfl, by rw [Hm1.out, Hst.out, Hok.out]⟩, Lib.hid (by rw [Hm1.out, Hst.out]; exact hS3), hb3⟩
      · have r1 : (t.rel == 1) = false := by simp [hr]
        have hst : stepK (meetTs K (ts.take j)).1 t = (meetTs K (ts.take j)).1 := by rw [stepK, r1]; rfl
        have Hst := Lib.hid hst
        have hal := tail _ _ (But.refl _ _) hS1 (by omega)
        clear hr hst
        go_wp2_with fail
        refine hal.mono ?_
        rintro e w3 ⟨rfl, hB3⟩
        have hb3 := Hbx.out.trans (But.of_below hB3)
        have hS3 := hS1.below hB3
        cases hok : allowsB (meetTs K (ts.take j)).1 t.var
        · have Hok := Lib.hid hok
          go_wp2_with fail
          go_ret
          have e1 : meetTs K ts = ((meetTs K (ts.take j)).1, false) := by rw [Hall.out, Hm1.out, Hst.out, Hok.out]; rfl
          exact ⟨by rw [e1]; rfl, by rw [e1]; exact hS3, (But.of_below hB0).trans hb3⟩
        · have Hok := Lib.hid hok
          go_wp2_with fail
          go_roundg (ts.length - (j + 1))
          case measure => rw [Hm.out.1]; omega
          case rel => exact ⟨j + 1, by go_num, by omega, Lib.hid ⟨rfl, by rw [Hm1.out, Hst.out, Hok.out]⟩, Lib.hid (by rw [Hm1.out, Hst.out]; exact hS3), hb3⟩
    · obtain rfl : j = ts.length := by omega
      rw [List.take_length] at Hm HS
      go_wp2_with fail
      go_ret
      exact ⟨by rw [Hm.out.2]; rfl, HS.out, (But.of_below hB0).trans hb⟩

end Go.Proofs.Ytmnpcpgdhaplaaa
