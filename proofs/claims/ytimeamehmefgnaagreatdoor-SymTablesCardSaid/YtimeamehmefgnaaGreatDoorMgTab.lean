/- What Put, Fresh, Has, All, Clone of a table of symbols do, whatever they are given. Conditions: the table lies in memory; at most 200000 symbols.
What Has and Clone of a table of symbols do; the greatest number, as the statements count it. Conditions: the table lies in memory; at most 200000 symbols.
Two tables, a slice beside a table: what a change of one leaves of the others. Conditions: none. -/
import Derived.Test.YtimeamehmefgnaaGreatDoorTabPutS
import Derived.Test.YtimeamehmefgnaaGreatDoorListSS
import Derived.Test.YtimeamehmefgnaaGreatDoorDropSS
import Derived.Test.YtimeamehmefgnaaGreatDoorNoneSS
import Derived.Test.YtimeamehmefgnaaGreatDoorWithinAny
import Derived.Deep.QuietTactic
import Derived.BigQuiet
import Derived.Test.YtimeamehmefgnaaGreatDoorPartSS
namespace Go.Proofs.YtimeamehmefgnaaGreatDoor
open Go Go.RowKit Go.Shelf

theorem first_bad : ∀ (xs : List SymV), (¬ ∀ y ∈ xs, validB y = true) → ∃ (j : Nat) (x : SymV), xs[j]? = some x ∧ validB x = false ∧ ∀ (i : Nat) (y : SymV), i < j → xs[i]? = some y → validB y = true
  | [], h => absurd (by simp) h
  | x :: xs, h => by
    cases hx : validB x
    · exact ⟨0, x, rfl, hx, fun i y hi => absurd hi (by omega)⟩
    · obtain ⟨j, z, h1, h2, h3⟩ := first_bad xs (fun h' => h (by intro y hy; rcases List.mem_cons.1 hy with rfl | hy; exact hx; exact h' y hy))
      refine ⟨j + 1, z, by simpa using h1, h2, fun i y hi hy => ?_⟩
      cases i with
      | zero => simp at hy; subst hy; exact hx
      | succ i => exact h3 i y (by omega) (by simpa using hy)

/-- What Put answers, what is known then. -/
def putE (L xs : List SymV) (room : Int) : Int × List SymV :=
  if xs.all validB then (if ((putsV L xs).length : Int) ≤ room then (0, putsV L xs) else (20, L)) else (9, L)

theorem tabput_any (w : World) (t s m ms : Nat) (L : List SymV) (room : Int) (v : Value) (xs : List SymV) (h : TableAt w t s m ms L room) (hL : L.length ≤ 200000) (hv : S.SliceOf w v xs) (hs : xs.length ≤ 1000) :
    Calls Tryz.prog 9 #[.pointer (some ⟨t, 0, none⟩), v] w fun e w' => e = .returned (.int .i64 (putE L xs room).1) ∧ TableAt w' t s m ms (putE L xs room).2 room ∧ But2 s ms w w' := by
  unfold putE
  by_cases ha : ∀ y ∈ xs, validB y = true
  · rw [if_pos (List.all_eq_true.2 ha)]
    by_cases hf : ((putsV L xs).length : Int) ≤ room
    · rw [if_pos hf]
      exact tabput_ok w t s m ms L room v xs h hL hv hs ha hf
    · rw [if_neg hf]
      refine (tabput_full w t s m ms L room v xs h hL hv hs ha (by omega)).mono ?_
      rintro e w' ⟨rfl, hB⟩
      exact ⟨rfl, h.below hB, But2.of_below hB⟩
  · rw [if_neg (fun h => ha (List.all_eq_true.1 h))]
    obtain ⟨j, x, h1, h2, h3⟩ := first_bad xs ha
    refine (tabput_bad w t v xs j x hv hs h1 h2 h3).mono ?_
    rintro e w' ⟨rfl, hB⟩
    exact ⟨rfl, h.below hB, But2.of_below hB⟩

theorem fresh_arg (w : World) (t s m ms : Nat) (L : List SymV) (room c : Int) (h : TableAt w t s m ms L room) (hs : L.length ≤ 600000) (hc : capI c = false) :
    Calls Tryz.prog 11 #[.pointer (some ⟨t, 0, none⟩), .int .u8 c] w fun e w' => e = .returned (.tuple #[.agg #[.int .i64 0, .string ⟨#[]⟩, .int .i64 0], .int .i64 1]) ∧ Below w.heap.size w w' := by
  have hB0 : Below w.heap.size w (w.alloc (.cells #[.int .i64 0, .string ⟨#[]⟩, .int .i64 0] 33)) := (Below.refl _ w).alloc (Nat.le_refl _) _
  have hb0 := heap_alloc_new w (.cells #[.int .i64 0, .string ⟨#[]⟩, .int .i64 0] 33)
  have hnext := next_T _ t s m ms L room c (h.below hB0) (by omega)
  rw [show nextV L c = 0 by simp [nextV, hc]] at hnext
  go_enter Tryz.func11, Tryz.ntmps11
  go_wp2_with fail
  generalize (w.alloc (.cells #[.int .i64 0, .string ⟨#[]⟩, .int .i64 0] 33)) = W0 at hB0 hb0 hnext ⊢
  refine hnext.mono ?_
  rintro e w1 ⟨rfl, hB1⟩
  have hC1 := hB0.trans (hB1.mono hB0.size)
  have hb1 := (hB1.block _ (lt_of_block hb0)).trans hb0
  have hz1 := S.zero_cells hb1
  have Hb1 := Lib.hid hb1
  clear hb0 hb1 hnext
  go_wp2_with fail
  have hm := S.mem_sto w1 w.heap.size ⟨0, ⟨#[]⟩, 0⟩ Hb1.out
  have hB4 : But w.heap.size w1 _ := S.but_sto w1 w.heap.size ⟨0, ⟨#[]⟩, 0⟩
  dsimp only at hm hB4
  generalize (((w1.setCell ⟨w.heap.size, 0, none⟩ _).setCell ⟨w.heap.size, 1, none⟩ _).setCell ⟨w.heap.size, 2, none⟩ _) = W at hm hB4 ⊢
  refine bodyPost_ret (v := .tuple #[.agg #[.int .i64 0, .string ⟨#[]⟩, .int .i64 0], .int .i64 1]) (by simp [results, Tryz.results11, go_sem, hm]) rfl ⟨rfl, S.below_but hC1 hB4 (Nat.le_refl _) hC1.size⟩

set_option maxHeartbeats 800000 in
theorem fresh_full (w : World) (t s m ms : Nat) (L : List SymV) (room c : Int) (h : TableAt w t s m ms L room) (hs : L.length ≤ 600000) (hc : capI c = true) (hr : room ≤ (L.length : Int) ∨ 1048576 < maxN L c + 1) :
    Calls Tryz.prog 11 #[.pointer (some ⟨t, 0, none⟩), .int .u8 c] w fun e w' => e = .returned (.tuple #[.agg #[.int .i64 0, .string ⟨#[]⟩, .int .i64 0], .int .i64 20]) ∧ Below w.heap.size w w' := by
  have hB0 : Below w.heap.size w (w.alloc (.cells #[.int .i64 0, .string ⟨#[]⟩, .int .i64 0] 33)) := (Below.refl _ w).alloc (Nat.le_refl _) _
  have hb0 := heap_alloc_new w (.cells #[.int .i64 0, .string ⟨#[]⟩, .int .i64 0] 33)
  have h0 := h.below hB0
  have hg0 := maxN_nonneg L c
  have hg1 := maxN_le h.2.2.2 c
  have hnx : nextV L c = maxN L c + 1 := by simp [nextV, hc]
  have hnext := next_T _ t s m ms L room c h0 (by omega)
  rw [hnx] at hnext
  clear hnx
  generalize maxN L c = g at hr hg0 hg1 hnext
  have z1 : (g + 1 == 0) = false := by simp; omega
  have Hr := Lib.hid hr
  clear hr
  go_enter Tryz.func11, Tryz.ntmps11
  go_wp2_with fail
  generalize (w.alloc (.cells #[.int .i64 0, .string ⟨#[]⟩, .int .i64 0] 33)) = W0 at hB0 hb0 h0 hnext ⊢
  refine hnext.mono ?_
  rintro e w1 ⟨rfl, hB1⟩
  have h1 := h0.below hB1
  have hC1 := hB0.trans (hB1.mono hB0.size)
  have hb1 := (hB1.block _ (lt_of_block hb0)).trans hb0
  have ht2 : w1.cell? ⟨t, 2, none⟩ = some (.int .i64 room) := by simp [World.cell?, h1.1]
  have ht2' : ∀ n, (w1.drewN n).cell? ⟨t, 2, none⟩ = some (.int .i64 room) := fun n => ht2
  have Hln := Lib.hid (fun n => tablen_T (w1.drewN n) t s m ms L room (h1.below (below_drewN _ _ _)))
  have hz1 := S.zero_cells hb1
  have Hb1 := Lib.hid hb1
  clear hb0 hnext hb1
  by_cases hA : room ≤ (L.length : Int)
  · have cA : decide (room ≤ (L.length : Int)) = true := decide_eq_true hA
    go_wp2_with fail
    go_quiet (first | (go_at_call 17; exact Calls.quiet_of_same ((Hln.out _).mono fun _ _ h => ⟨h.1, h.2.symm⟩)))
    go_wp2_with fail
    have hm := S.mem_sto (w1.drewN nq) w.heap.size ⟨0, ⟨#[]⟩, 0⟩ Hb1.out
    have hB4 : But w.heap.size (w1.drewN nq) _ := S.but_sto (w1.drewN nq) w.heap.size ⟨0, ⟨#[]⟩, 0⟩
    dsimp only at hm hB4
    generalize ((((w1.drewN nq).setCell ⟨w.heap.size, 0, none⟩ _).setCell ⟨w.heap.size, 1, none⟩ _).setCell ⟨w.heap.size, 2, none⟩ _) = W at hm hB4 ⊢
    refine bodyPost_ret (v := .tuple #[.agg #[.int .i64 0, .string ⟨#[]⟩, .int .i64 0], .int .i64 20]) (by simp [results, Tryz.results11, go_sem, hm]) rfl ⟨rfl, S.below_but (hC1.trans (below_drewN _ _ _)) hB4 (Nat.le_refl _) hC1.size⟩
  · have cA : decide (room ≤ (L.length : Int)) = false := decide_eq_false hA
    have cB : 1048576 < g + 1 := by rcases Hr.out with h | h; exact absurd h hA; exact h
    have cB' : decide (1048576 < g + 1) = true := decide_eq_true cB
    have hA' : (room ≤ (L.length : Int)) = False := eq_false hA
    go_wp2_with fail
    go_quiet (first | (go_at_call 17; exact Calls.quiet_of_same ((Hln.out _).mono fun _ _ h => ⟨h.1, h.2.symm⟩)))
    go_wp2_with fail
    have hm := S.mem_sto (w1.drewN nq) w.heap.size ⟨0, ⟨#[]⟩, 0⟩ Hb1.out
    have hB4 : But w.heap.size (w1.drewN nq) _ := S.but_sto (w1.drewN nq) w.heap.size ⟨0, ⟨#[]⟩, 0⟩
    dsimp only at hm hB4
    generalize ((((w1.drewN nq).setCell ⟨w.heap.size, 0, none⟩ _).setCell ⟨w.heap.size, 1, none⟩ _).setCell ⟨w.heap.size, 2, none⟩ _) = W at hm hB4 ⊢
    refine bodyPost_ret (v := .tuple #[.agg #[.int .i64 0, .string ⟨#[]⟩, .int .i64 0], .int .i64 20]) (by simp [results, Tryz.results11, go_sem, hm]) rfl ⟨rfl, S.below_but (hC1.trans (below_drewN _ _ _)) hB4 (Nat.le_refl _) hC1.size⟩

/-- What Fresh answers: the error, the symbol, what is known then. -/
def freshE (L : List SymV) (room c : Int) : Int × SymV × List SymV :=
  if capI c then (if (L.length : Int) < room ∧ maxN L c + 1 ≤ 1048576 then (0, freshS c (maxN L c + 1), put symCmp L (freshS c (maxN L c + 1))) else (20, ⟨0, ⟨#[]⟩, 0⟩, L)) else (1, ⟨0, ⟨#[]⟩, 0⟩, L)

theorem fresh_any (w : World) (t s m ms : Nat) (L : List SymV) (room c : Int) (h : TableAt w t s m ms L room) (hs : L.length ≤ 600000) :
    Calls Tryz.prog 11 #[.pointer (some ⟨t, 0, none⟩), .int .u8 c] w fun e w' => e = .returned (.tuple #[.agg #[.int .i64 (freshE L room c).2.1.k, .string (freshE L room c).2.1.t, .int .i64 (freshE L room c).2.1.n], .int .i64 (freshE L room c).1]) ∧ TableAt w' t s m ms (freshE L room c).2.2 room ∧ But2 s ms w w' := by
  unfold freshE
  cases hc : capI c
  · rw [if_neg (by simp)]
    refine (fresh_arg w t s m ms L room c h hs hc).mono ?_
    rintro e w' ⟨rfl, hB⟩
    exact ⟨rfl, h.below hB, But2.of_below hB⟩
  · rw [if_pos rfl]
    by_cases hr : (L.length : Int) < room ∧ maxN L c + 1 ≤ 1048576
    · rw [if_pos hr]
      exact fresh_ok w t s m ms L room c h hs hc hr.1 hr.2
    · rw [if_neg hr]
      refine (fresh_full w t s m ms L room c h hs hc (by omega)).mono ?_
      rintro e w' ⟨rfl, hB⟩
      exact ⟨rfl, h.below hB, But2.of_below hB⟩

theorem taball_T (w : World) (t s m ms : Nat) (L : List SymV) (room : Int) (h : TableAt w t s m ms L room) :
    Calls Tryz.prog 20 #[.pointer (some ⟨t, 0, none⟩)] w fun e w' => e = .returned (.func (.func 46) #[] #[.pointer (some ⟨w.heap.size, 0, none⟩)]) ∧ w' = w.alloc (.cells #[.pointer (some ⟨s, 0, none⟩)] 55) := by
  have c0 : w.cell? ⟨t, 0, none⟩ = some (.pointer (some ⟨s, 0, none⟩)) := by simp [World.cell?, h.1]
  clear h
  go_enter Tryz.func20, Tryz.ntmps20
  go_wp2_with fail
  refine (S.all_T w (some ⟨s, 0, none⟩)).mono ?_
  rintro e w' ⟨rfl, rfl⟩
  go_wp2_with fail
  go_ret
  exact ⟨rfl, rfl⟩

theorem tablist_T (w : World) (t s m ms : Nat) (L : List SymV) (room : Int) (h : TableAt w t s m ms L room) (hs : L.length ≤ 600000) :
    Calls Tryz.prog 19 #[.func (.func 46) #[] #[.pointer (some ⟨w.heap.size, 0, none⟩)]] (w.alloc (.cells #[.pointer (some ⟨s, 0, none⟩)] 55)) fun e w' => ∃ v B, e = .returned v ∧ w.heap.size ≤ B ∧ S.Made B w' v L ∧ Below w.heap.size w w' := by
  have hB : Below w.heap.size w (w.alloc (.cells #[.pointer (some ⟨s, 0, none⟩)] 55)) := (Below.refl _ w).alloc (Nat.le_refl _) _
  refine (S.list_T _ _ (w.alloc (.cells #[.pointer (some ⟨s, 0, none⟩)] 55)).heap.size L _ (enters_of Tryz.func46 (by kernel_rfl) rfl)
    (S.all_stops 2 _ _ s L _ (heap_alloc_new w _) (h.2.1.below hB) (by omega) (Nat.le_refl _)) (by omega) (Nat.le_refl _)).mono ?_
  rintro e w' ⟨v, rfl, hm, hB'⟩
  exact ⟨v, _, rfl, hB.size, hm, hB.trans (hB'.mono hB.size)⟩

end Go.Proofs.YtimeamehmefgnaaGreatDoor

namespace Go.Proofs.YtimeamehmefgnaaGreatDoor
open Go Go.RowKit Go.Shelf

theorem getany_T (w : World) (s : Nat) (L : List SymV) (x : SymV) (h : S.SetAt w s L) (hs : L.length ≤ 800000) :
    Calls Tryz.prog 34 #[.pointer (some ⟨s, 0, none⟩), .agg #[.int .i64 x.k, .string x.t, .int .i64 x.n]] w fun e w' => ∃ y : SymV, e = .returned (.tuple #[.agg #[.int .i64 y.k, .string y.t, .int .i64 y.n], .bool (has symCmp L x)]) ∧ Below w.heap.size w w' := by
  cases hh : has symCmp L x
  · refine (S.get_no_T w s L x h hs hh).mono ?_
    rintro e w' ⟨rfl, hB⟩
    exact ⟨⟨0, ⟨#[]⟩, 0⟩, rfl, hB⟩
  · refine (S.get_T w s L x h hs hh).mono ?_
    rintro e w' ⟨⟨y, rfl, -⟩, hB⟩
    exact ⟨y, rfl, hB⟩

set_option maxHeartbeats 1600000 in
theorem tabhas_T (w : World) (t s m ms : Nat) (L : List SymV) (room : Int) (x : SymV) (h : TableAt w t s m ms L room) (hs : L.length ≤ 600000) :
    Calls Tryz.prog 13 #[.pointer (some ⟨t, 0, none⟩), .agg #[.int .i64 x.k, .string x.t, .int .i64 x.n]] w fun e w' => e = .returned (.bool (has symCmp L x)) ∧ Below w.heap.size w w' := by
  have hB0 := box1_S w x
  have hx0 := heap_alloc_new w (.cells #[.int .i64 x.k, .string x.t, .int .i64 x.n] 33)
  have h0 := h.below hB0
  go_enter Tryz.func13, Tryz.ntmps13
  go_wp2_with fail
  generalize (w.alloc (.cells #[.int .i64 x.k, .string x.t, .int .i64 x.n] 33)) = W0 at hB0 hx0 h0 ⊢
  have x0 : W0.cell? ⟨w.heap.size, 0, none⟩ = some (.int .i64 x.k) ∧ W0.cell? ⟨w.heap.size, 1, none⟩ = some (.string x.t) ∧ W0.cell? ⟨w.heap.size, 2, none⟩ = some (.int .i64 x.n) := by simp [World.cell?, hx0]
  have t0 : W0.cell? ⟨t, 0, none⟩ = some (.pointer (some ⟨s, 0, none⟩)) := by simp [World.cell?, h0.1]
  have Hget := Lib.hid (fun W (hB : Below W0.heap.size W0 W) => getany_T W s L x ((h0.below hB).2.1) (by omega))
  have hg0 := Hget.out W0.drew (Below.refl _ _).drew
  have hBz : Below W0.heap.size W0 (W0.alloc (.cells #[.int .i64 0, .string ⟨#[]⟩, .int .i64 0] 33)).drew := ((Below.refl _ W0).alloc (Nat.le_refl _) _).drew
  have hbz : (W0.alloc (.cells #[.int .i64 0, .string ⟨#[]⟩, .int .i64 0] 33)).drew.heap[W0.heap.size]? = some (.cells #[.int .i64 0, .string ⟨#[]⟩, .int .i64 0] 33 (0, 0)) := heap_alloc_new W0 (.cells #[.int .i64 0, .string ⟨#[]⟩, .int .i64 0] 33)
  have hg1 := Hget.out _ hBz
  have Hbz := Lib.hid hbz
  clear hbz
  have Hc := Lib.hid (fun W (hB : Below W0.heap.size W0 W) => (⟨by have := (hB.block _ (lt_of_block hx0)).trans hx0; simp [World.cell?, this], by have := (h0.below hB).1; simp [World.cell?, this]⟩ : (W.cell? ⟨w.heap.size, 0, none⟩ = some (.int .i64 x.k) ∧ W.cell? ⟨w.heap.size, 1, none⟩ = some (.string x.t) ∧ W.cell? ⟨w.heap.size, 2, none⟩ = some (.int .i64 x.n)) ∧ W.cell? ⟨t, 0, none⟩ = some (.pointer (some ⟨s, 0, none⟩))))
  have l1 := lt_of_block hx0
  have l2 := lt_of_block h0.1
  clear h0 hx0
  obtain ⟨x00, x01, x02⟩ := x0
  go_region_held3 (fun W => (W.cell? ⟨w.heap.size, 0, none⟩ = some (.int .i64 x.k) ∧ W.cell? ⟨w.heap.size, 1, none⟩ = some (.string x.t) ∧ W.cell? ⟨w.heap.size, 2, none⟩ = some (.int .i64 x.n)) ∧ W.cell? ⟨t, 0, none⟩ = some (.pointer (some ⟨s, 0, none⟩)))
    (first | go_keep | assumption)
    (first
      | ((with_reducible refine hg0.mono ?_); rintro e w1 ⟨y, rfl, hB1⟩; have hC1 : Below W0.heap.size W0 w1 := (Below.refl _ W0).drew.trans hB1; obtain ⟨⟨y00, y01, y02⟩, y1⟩ := Hc.out w1 hC1; have n1 : ¬ w1.heap.size = w.heap.size := (by have := hC1.size; omega); have n2 : ¬ w1.heap.size = t := (by have := hC1.size; omega); have y3 : (w1.cell? ⟨w.heap.size, 0, none⟩ = some (.int .i64 x.k) ∧ w1.cell? ⟨w.heap.size, 1, none⟩ = some (.string x.t) ∧ w1.cell? ⟨w.heap.size, 2, none⟩ = some (.int .i64 x.n)) ∧ w1.cell? ⟨t, 0, none⟩ = some (.pointer (some ⟨s, 0, none⟩)) := ⟨⟨y00, y01, y02⟩, y1⟩)
      | ((with_reducible refine hg1.mono ?_); rintro e w1 ⟨y, rfl, hB1⟩; have hC1 : Below W0.heap.size W0 w1 := hBz.trans (hB1.mono hBz.size); obtain ⟨⟨y00, y01, y02⟩, y1⟩ := Hc.out w1 hC1; have n1 : ¬ W0.heap.size = w.heap.size := (by omega); have n2 : ¬ W0.heap.size = t := (by omega); have y3 : (w1.cell? ⟨w.heap.size, 0, none⟩ = some (.int .i64 x.k) ∧ w1.cell? ⟨w.heap.size, 1, none⟩ = some (.string x.t) ∧ w1.cell? ⟨w.heap.size, 2, none⟩ = some (.int .i64 x.n)) ∧ w1.cell? ⟨t, 0, none⟩ = some (.pointer (some ⟨s, 0, none⟩)) := ⟨⟨y00, y01, y02⟩, y1⟩; have y4 := S.zero_cells ((hB1.block _ (lt_of_block Hbz.out)).trans Hbz.out))
      | (fail "no arm"))
  all_goals (have hD1 := hB0.trans (hC1.mono hB0.size); clear y00 y01 y02 y1 y3; go_wp2_with fail; go_ret; refine ⟨rfl, ?_⟩; first | exact hD1.alloc hD1.size _ | exact S.below_but hD1 (S.but_sto w1 W0.heap.size y) hB0.size hD1.size)

set_option maxHeartbeats 1600000 in
theorem tabclone_T (w : World) (t s m ms : Nat) (L : List SymV) (room : Int) (h : TableAt w t s m ms L room) (hs : L.length ≤ 600000) :
    Calls Tryz.prog 21 #[.pointer (some ⟨t, 0, none⟩)] w fun e w' => ∃ t' s' m' ms', e = .returned (.pointer (some ⟨t', 0, none⟩)) ∧ w.heap.size ≤ t' ∧ w.heap.size ≤ s' ∧ w.heap.size ≤ m' ∧ w.heap.size ≤ ms' ∧ TableAt w' t' s' m' ms' L room ∧ Below w.heap.size w w' := by
  obtain ⟨h1, h2, ⟨G, h3, h4, h5⟩, h6⟩ := h
  have c0 : w.cell? ⟨t, 0, none⟩ = some (.pointer (some ⟨s, 0, none⟩)) := by simp [World.cell?, h1]
  have c1 : w.cell? ⟨t, 1, none⟩ = some (.pointer (some ⟨m, 0, none⟩)) := by simp [World.cell?, h1]
  have c2 : w.cell? ⟨t, 2, none⟩ = some (.int .i64 room) := by simp [World.cell?, h1]
  have Hc := Lib.hid (fun W (hB : Below w.heap.size w W) => (⟨by have := (hB.block _ (lt_of_block h1)).trans h1; simp [World.cell?, this], by have := (hB.block _ (lt_of_block h1)).trans h1; simp [World.cell?, this], by have := (hB.block _ (lt_of_block h1)).trans h1; simp [World.cell?, this]⟩ : W.cell? ⟨t, 0, none⟩ = some (.pointer (some ⟨s, 0, none⟩)) ∧ W.cell? ⟨t, 1, none⟩ = some (.pointer (some ⟨m, 0, none⟩)) ∧ W.cell? ⟨t, 2, none⟩ = some (.int .i64 room)))
  have k1 := S.clone_T w.drew s L (h2.below (Below.refl _ _).drew)
  go_enter Tryz.func21, Tryz.ntmps21
  go_wp2_with fail
  go_region_held3 (fun W => W.cell? ⟨t, 0, none⟩ = some (.pointer (some ⟨s, 0, none⟩)) ∧ W.cell? ⟨t, 1, none⟩ = some (.pointer (some ⟨m, 0, none⟩)) ∧ W.cell? ⟨t, 2, none⟩ = some (.int .i64 room))
    (first | go_keep | assumption)
    (first
      | ((with_reducible refine k1.mono ?_); rintro e w1 ⟨rfl, hS1, hB1⟩; have hC1 : Below w.heap.size w w1 := (Below.refl _ w).drew.trans hB1; obtain ⟨y0, y1, y2⟩ := Hc.out w1 hC1; have y3 : w1.cell? ⟨t, 0, none⟩ = some (.pointer (some ⟨s, 0, none⟩)) ∧ w1.cell? ⟨t, 1, none⟩ = some (.pointer (some ⟨m, 0, none⟩)) ∧ w1.cell? ⟨t, 2, none⟩ = some (.int .i64 room) := ⟨y0, y1, y2⟩; have k2 := C.mapclone_T w1 m ms G (h3.below hC1))
      | ((with_reducible refine k2.mono ?_); rintro e w2 ⟨m', ms', rfl, hm', hms', hM2, hB2⟩; have hC2 : Below w.heap.size w w2 := hC1.trans (hB2.mono hC1.size); obtain ⟨z0, z1, z2⟩ := Hc.out w2 hC2; have z3 : w2.cell? ⟨t, 0, none⟩ = some (.pointer (some ⟨s, 0, none⟩)) ∧ w2.cell? ⟨t, 1, none⟩ = some (.pointer (some ⟨m, 0, none⟩)) ∧ w2.cell? ⟨t, 2, none⟩ = some (.int .i64 room) := ⟨z0, z1, z2⟩)
      | (fail "no arm"))
  have hBn : Below w2.heap.size w2 (w2.alloc (.cells #[.pointer (some ⟨w.heap.size, 0, none⟩), .pointer (some ⟨m', 0, none⟩), .int .i64 room] 61)) := (Below.refl _ w2).alloc (Nat.le_refl _) _
  have hbn := heap_alloc_new w2 (.cells #[.pointer (some ⟨w.heap.size, 0, none⟩), .pointer (some ⟨m', 0, none⟩), .int .i64 room] 61)
  clear y0 y1 y2 y3 z0 z1 z2 z3
  go_wp2_with fail
  go_ret
  exact ⟨w2.heap.size, w.heap.size, m', ms', rfl, hC2.size, Nat.le_refl _, Nat.le_trans hC1.size hm', Nat.le_trans hC1.size hms', ⟨hbn, (hS1.below hB2).below hBn, ⟨G, hM2.below hBn, h4, h5⟩, h6⟩, hC2.trans (hBn.mono hC2.size)⟩

theorem one_byte {t : ByteArray} (h : t.size = 1) : ∃ b : UInt8, t.toList = [b] ∧ hd t = (b.toNat : Int) := by
  obtain ⟨b, hb⟩ : ∃ b, t.data.toList = [b] := List.length_eq_one_iff.1 (by simpa using h)
  refine ⟨b, by rw [ByteArray.toList_eq, hb], ?_⟩
  rw [hd_pos (by omega)]
  have : t[0]'(by omega) = t.data.toList[0]'(by rw [hb]; simp) := by simp [ByteArray.getElem_eq_getElem_data]
  rw [this]
  simp [hb]

theorem isLetter {x : SymV} (h : validB x = true) (hk : x.k = 1) (c : UInt8) : isId (c.toNat : Int) x = (x.t.toList == [c]) := by
  obtain ⟨h1, -, -, -⟩ := valid_id h hk
  rw [isId_one hk]
  obtain ⟨b, hb, hh⟩ := one_byte h1
  rw [hb, hh, Bool.eq_iff_iff]
  simp [← UInt8.toNat_inj]
  omega

theorem isQ {x : SymV} (h : validB x = true) (hk : x.k = 1) : isId 81 x = (x.t.toList == [81]) := isLetter h hk 81

theorem maxN_take {L : List SymV} {j : Nat} {x : SymV} (hx : L[j]? = some x) (c : Int) : maxN (L.take (j + 1)) c = if isId c x then max (maxN (L.take j) c) x.n else maxN (L.take j) c := by
  rw [List.take_add_one, hx]
  simp [maxN, List.foldl_append]

set_option maxHeartbeats 1600000 in
theorem most_T (w : World) (v : Value) (xs : List SymV) (hv : S.SliceOf w v xs) (hs : xs.length ≤ 1000000) (hval : ∀ x ∈ xs, validB x = true) :
    Calls Tryz.prog 22 #[v] w fun e w' => e = .returned (.int .i64 (maxN xs 81)) ∧ w = w' := by
  obtain ⟨a, cap, rfl, hc⟩ := hv
  have Hmx := Lib.hid (fun j => maxN_le (L := xs.take j) (fun x hx => hval x (List.mem_of_mem_take hx)) 81)
  have Hc := Lib.hid hc
  have Hval := Lib.hid hval
  clear hc hval
  go_enter Tryz.func22, Tryz.ntmps22
  go_wp2_with fail
  go_loopg [3, 4] xs.length (fun k n i wr => ∃ (q : Nat) (g : Int), i = .int .i64 q ∧ n = .int .i64 g ∧ q ≤ xs.length ∧ Hid (k = xs.length - q ∧ g = maxN (xs.take q) 81) ∧ w = wr)
  case atStart => exact ⟨0, 0, rfl, rfl, by omega, Lib.hid ⟨rfl, rfl⟩, rfl⟩
  case round =>
    obtain ⟨q, g, rfl, rfl, hq, Hk, rfl⟩ := hrel
    by_cases hlt : q < xs.length
    · obtain ⟨b, off, rfl, hel⟩ : ∃ b off, a = some ⟨b, off, none⟩ ∧ S.Elems w b off xs := by
        rcases Hc.out with h | h
        · rw [h] at hlt; simp at hlt
        · exact h
      obtain ⟨y, hy⟩ : ∃ y, xs[q]? = some y := ⟨xs[q], by simp [hlt]⟩
      obtain ⟨e0, e1, e2⟩ := hel q y hy
      have hvy := Hval.out y (List.mem_of_getElem? hy)
      have Hstep := Lib.hid (maxN_take hy 81)
      clear hy
      by_cases hk : y.k = 1
      · have hQ := isQ hvy hk
        have k1 : (y.k == 1) = true := by simp [hk]
        have Hk1 := Lib.hid hk
        clear hk
        cases hb : (y.t.toList == [81])
        · go_wp2_with fail
          go_roundg (xs.length - (q + 1))
          case measure => rw [Hk.out.1]; omega
          case rel => exact ⟨q + 1, g, by go_num, rfl, by omega, Lib.hid ⟨rfl, by rw [Hstep.out, hQ, hb, if_neg (by simp)]; exact Hk.out.2⟩, rfl⟩
        · have hst : maxN (xs.take (q + 1)) 81 = max g y.n := by rw [Hstep.out, hQ, hb, if_pos rfl, Hk.out.2]
          have Hst := Lib.hid hst
          clear hst
          by_cases hgt : g < y.n
          · have Hy1 := Lib.hid (show y.n = maxN (xs.take (q + 1)) 81 by rw [Hst.out]; omega)
            go_wp2_with fail
            go_roundg (xs.length - (q + 1))
            case measure => rw [Hk.out.1]; omega
            case rel => exact ⟨q + 1, y.n, by go_num, rfl, by omega, Lib.hid ⟨rfl, Hy1.out⟩, rfl⟩
          · have Hy1 := Lib.hid (show g = maxN (xs.take (q + 1)) 81 by rw [Hst.out]; omega)
            go_wp2_with fail
            go_roundg (xs.length - (q + 1))
            case measure => rw [Hk.out.1]; omega
            case rel => exact ⟨q + 1, g, by go_num, rfl, by omega, Lib.hid ⟨rfl, Hy1.out⟩, rfl⟩
      · have k1 : (y.k == 1) = false := by simp [hk]
        have hQ := isId_no hk 81
        have Hk1 := Lib.hid hk
        clear hk
        go_wp2_with fail
        go_roundg (xs.length - (q + 1))
        case measure => rw [Hk.out.1]; omega
        case rel => exact ⟨q + 1, g, by go_num, rfl, by omega, Lib.hid ⟨rfl, by rw [Hstep.out, hQ, if_neg (by simp)]; exact Hk.out.2⟩, rfl⟩
    · obtain rfl : q = xs.length := by omega
      go_wp2_with fail
      go_ret
      exact ⟨by rw [Hk.out.2, List.take_length]; rfl, rfl⟩

end Go.Proofs.YtimeamehmefgnaaGreatDoor

namespace Go.Proofs.YtimeamehmefgnaaGreatDoor
open Go Go.RowKit Go.Shelf

theorem TableAt.but2 {w w' : World} {t s m ms t' s' m' ms' : Nat} {L L' : List SymV} {room room' : Int} (h : TableAt w t' s' m' ms' L' room') (h1 : TableAt w t s m ms L room) (hb : But2 s ms w w') (n1 : s' ≠ s) (n2 : ms' ≠ ms) : TableAt w' t' s' m' ms' L' room' := by
  have K : ∀ (b : Nat) (c : Array Value) (T : TypeId) (f : Nat × Nat), w.heap[b]? = some (.cells c T f) → b ≠ s → b ≠ ms → w'.heap[b]? = some (.cells c T f) := fun b c T f hc e1 e2 => (hb.block b (lt_of_block hc) e1 e2).trans hc
  have K2 : ∀ (b : Nat) (c : Array Value) (T : TypeId) (f : Nat × Nat), w.heap[b]? = some (.cells c T f) → T ≠ 75 → T ≠ 100 → w'.heap[b]? = some (.cells c T f) := fun b c T f hc e1 e2 => K b c T f hc (h1.ne hc e1 e2).1 (h1.ne hc e1 e2).2
  obtain ⟨h2, ⟨t5, p5, a1, a2, a3⟩, ⟨G, ⟨h3, t4, p4, h4, h5, h6⟩, h7⟩, h8⟩ := h
  obtain ⟨-, ⟨t6, p6, b1, -, -⟩, ⟨G', ⟨-, t7, p7, b4, -, -⟩, -⟩, -⟩ := h1
  have e1 : s' ≠ ms := by rintro rfl; rw [a1] at b4; simp at b4
  have e2 : ms' ≠ s := by rintro rfl; rw [h4] at b1; simp at b1
  exact ⟨K2 _ _ _ _ h2 (by decide) (by decide), ⟨t5, p5, K _ _ _ _ a1 n1 e1, IsT.keep (fun b c hc => K2 _ _ _ _ hc (by decide) (by decide)) t5 p5 a2, a3⟩, ⟨G, ⟨K2 _ _ _ _ h3 (by decide) (by decide), t4, p4, K _ _ _ _ h4 e2 n2, IsT.keep (fun b c hc => K2 _ _ _ _ hc (by decide) (by decide)) t4 p4 h5, h6⟩, h7⟩, h8⟩

/-- A slice of the values xs, in a block between B and H. -/
def SliceIn (B H : Nat) (w : World) (v : Value) (xs : List SymV) : Prop :=
  ∃ a cap, v = .slice a xs.length cap ∧ (xs = [] ∨ ∃ b off, B ≤ b ∧ b < H ∧ a = some ⟨b, off, none⟩ ∧ S.Elems w b off xs)

theorem SliceIn.slice {B H : Nat} {w : World} {v : Value} {xs : List SymV} (h : SliceIn B H w v xs) : S.SliceOf w v xs := by
  obtain ⟨a, cap, rfl, h | ⟨b, off, -, -, h⟩⟩ := h
  · exact ⟨a, cap, rfl, .inl h⟩
  · exact ⟨a, cap, rfl, .inr ⟨b, off, h⟩⟩

theorem SliceIn.below {B H : Nat} {w w' : World} {v : Value} {xs : List SymV} (h : SliceIn B H w v xs) (hB : Below w.heap.size w w') : SliceIn B H w' v xs := by
  obtain ⟨a, cap, rfl, h | ⟨b, off, hb, hh, rfl, h⟩⟩ := h
  · exact ⟨a, cap, rfl, .inl h⟩
  · cases xs with
    | nil => exact ⟨_, cap, rfl, .inl rfl⟩
    | cons x xs => exact ⟨_, cap, rfl, .inr ⟨b, off, hb, hh, rfl, h.below hB (World.block_lt_of_cell? w _ (h 0 x rfl).1)⟩⟩

theorem SliceIn.of_ge {B : Nat} {w : World} {v : Value} {xs : List SymV} (h : S.SliceGe B w v xs) : SliceIn B w.heap.size w v xs := by
  obtain ⟨a, cap, rfl, h | ⟨b, off, hb, rfl, h⟩⟩ := h
  · exact ⟨a, cap, rfl, .inl h⟩
  · cases xs with
    | nil => exact ⟨_, cap, rfl, .inl rfl⟩
    | cons x xs => exact ⟨_, cap, rfl, .inr ⟨b, off, hb, World.block_lt_of_cell? w _ (h 0 x rfl).1, rfl, h⟩⟩

theorem elems_block {w w' : World} {b off : Nat} {xs : List SymV} (h : S.Elems w b off xs) (e : b < w.heap.size → w'.heap[b]? = w.heap[b]?) : S.Elems w' b off xs := by
  intro i x hx
  have h0 := h i x hx
  have k : ∀ o, w'.cell? ⟨b, o, none⟩ = w.cell? ⟨b, o, none⟩ := fun o => World.cell?_of_block (e (World.block_lt_of_cell? w _ h0.1))
  simp only [k]
  exact h0

theorem SliceIn.but2 {B H s m : Nat} {w w' : World} {v : Value} {xs : List SymV} (h : SliceIn B H w v xs) (hb : But2 s m w w') (hs : s < B ∨ H ≤ s) (hm : m < B ∨ H ≤ m) : SliceIn B H w' v xs := by
  obtain ⟨a, cap, rfl, h | ⟨b, off, hB, hH, rfl, h⟩⟩ := h
  · exact ⟨a, cap, rfl, .inl h⟩
  · exact ⟨_, cap, rfl, .inr ⟨b, off, hB, hH, rfl, elems_block h fun hl => hb.block b hl (by omega) (by omega)⟩⟩

theorem putE_length (L xs : List SymV) (room : Int) : (putE L xs room).2.length ≤ L.length + xs.length := by
  unfold putE
  split
  · split
    · exact S.putl_length xs L
    · simp
  · simp

theorem Table.lt2 {w : World} {t s m ms : Nat} {L : List SymV} {room : Int} (h : TableAt w t s m ms L room) : s < w.heap.size ∧ ms < w.heap.size := by
  obtain ⟨-, h2, ⟨G, hM, -⟩, -⟩ := h
  exact ⟨h2.lt, hM.2.lt⟩

end Go.Proofs.YtimeamehmefgnaaGreatDoor
