/- What remove of a tree's nodes and Drop of a set do. Conditions: the tree, the set lie in memory; at most 800000 members. -/
import Derived.Test.YtbpibbcehfkeeaaSetSE
namespace Go.Proofs.Ytbpibbcehfkeeaa.E
open Go Go.RowKit

/-- A tree with the members L, old or new; nothing that was there has changed. -/
def Left (w : World) (L : List EntV) (e : Ending) (w' : World) : Prop :=
  ∃ t p, e = .returned (.pointer p) ∧ LT w' t p ∧ t.list = L ∧ Below w.heap.size w w'

theorem erase_less {α : Type} (l r : List α) (i : Nat) (y : α) (h : i < l.length) : l.eraseIdx i ++ y :: r = (l ++ y :: r).eraseIdx i := (List.eraseIdx_append_of_lt_length h _).symm
theorem erase_more {α : Type} (l r : List α) (j : Nat) (y : α) : l ++ y :: r.eraseIdx j = (l ++ y :: r).eraseIdx (l.length + 1 + j) := by
  rw [List.eraseIdx_append_of_length_le (by omega), show l.length + 1 + j - l.length = j + 1 by omega]; rfl
theorem erase_here {α : Type} (l r : List α) (y : α) : l ++ r = (l ++ y :: r).eraseIdx l.length := by
  rw [List.eraseIdx_append_of_length_le (by omega)]; simp

set_option maxHeartbeats 1600000 in
theorem remove_T (t : Tr EntV) : ∀ (w : World) (p : Option Addr) (i : Nat) (z : Int), LT w t p → z = i → i < t.size → t.size ≤ 800000 →
    Calls Try.prog 77 #[.pointer p, .int .i64 z] w (Left w (t.list.eraseIdx i)) := by
  induction t with
  | nil => intro w p i z h hz hi hs; simp [Tr.size, Tr.list] at hi
  | node l y r ihl ihr =>
    intro w p i z h hz hi hs
    obtain ⟨b, pl, pr, rfl, hb, hl, hr⟩ := h
    rw [size_node] at hi hs
    obtain ⟨c0, c1, c2, -⟩ := node_cells hb
    have hbl : b < w.heap.size := lt_of_block hb
    have Hb := Lib.hid hb
    have Hz := Lib.hid hz
    clear hb
    rcases Nat.lt_trichotomy i l.size with hlt | heq | hgt
    · have hzk : z < l.size := by omega
      clear hz
      go_enter Try.func77, Try.ntmps77
      go_wp2_with fail
      refine (count_T _ _ _ hl).mono ?_
      rintro e w' ⟨rfl, rfl⟩
      go_wp2_with fail
      have hC1 : Below w.heap.size w w.drew := (Below.refl _ w).drew
      go_region_held3 (fun W => (W.cell? ⟨b, 0, none⟩ = some (.int .i64 y.key.k) ∧ W.cell? ⟨b, 1, none⟩ = some (.string y.key.t) ∧ W.cell? ⟨b, 2, none⟩ = some (.int .i64 y.key.n) ∧ W.cell? ⟨b, 3, none⟩ = some (.int .i64 y.v)) ∧ W.cell? ⟨b, 4, none⟩ = some (.pointer pl) ∧ W.cell? ⟨b, 5, none⟩ = some (.pointer pr))
        (first | go_keep | assumption)
        (first
          | ((with_reducible refine (ihl w.drew pl i z (hl.ext hC1) Hz.out hlt (by omega)).mono ?_); rintro e w1 ⟨t1, p1, rfl, ht1, hL1, hB1⟩; have hC2 := hC1.trans (hB1.mono hC1.size); have hc2 : (w1.cell? ⟨b, 0, none⟩ = some (.int .i64 y.key.k) ∧ w1.cell? ⟨b, 1, none⟩ = some (.string y.key.t) ∧ w1.cell? ⟨b, 2, none⟩ = some (.int .i64 y.key.n) ∧ w1.cell? ⟨b, 3, none⟩ = some (.int .i64 y.v)) ∧ w1.cell? ⟨b, 4, none⟩ = some (.pointer pl) ∧ w1.cell? ⟨b, 5, none⟩ = some (.pointer pr) := (let n1 := node_cells ((hC2.block b hbl).trans Hb.out); ⟨n1.1, n1.2.1, n1.2.2.1⟩); have hs1 : t1.size + r.size ≤ 900000 := (by have h1 := List.length_eraseIdx_le l.list i; simp only [Tr.size, hL1] at hs ⊢; omega); have HL1 := Lib.hid hL1; clear hL1)
          | ((with_reducible refine (balance_T w1 t1 r p1 pr y ht1 (hr.ext hC2) hs1).mono ?_); rintro e w2 ⟨t2, b2, rfl, ht2, hL2, hB2⟩; have hC3 := hC2.trans (hB2.mono hC2.size); have hc3 : (w2.cell? ⟨b, 0, none⟩ = some (.int .i64 y.key.k) ∧ w2.cell? ⟨b, 1, none⟩ = some (.string y.key.t) ∧ w2.cell? ⟨b, 2, none⟩ = some (.int .i64 y.key.n) ∧ w2.cell? ⟨b, 3, none⟩ = some (.int .i64 y.v)) ∧ w2.cell? ⟨b, 4, none⟩ = some (.pointer pl) ∧ w2.cell? ⟨b, 5, none⟩ = some (.pointer pr) := (let n1 := node_cells ((hC3.block b hbl).trans Hb.out); ⟨n1.1, n1.2.1, n1.2.2.1⟩); have HL2 := Lib.hid hL2; clear hL2)
          | fail "no arm")
      go_wp2_with fail
      go_ret
      exact ⟨t2, _, rfl, ht2, by rw [HL2.out, HL1.out]; exact erase_less _ _ _ _ hlt, hC3⟩
    · have h1 : (z < l.size) = False := by simp; omega
      have h2 : ((l.size : Int) < z) = False := by simp; omega
      have Hi := Lib.hid heq
      clear hz heq hi
      cases r with
      | nil =>
        obtain rfl : pr = none := hr
        go_enter Try.func77, Try.ntmps77
        go_wp2_with fail
        refine (count_T _ _ _ hl).mono ?_
        rintro e w' ⟨rfl, rfl⟩
        go_wp2_with fail
        go_ret
        exact ⟨l, pl, rfl, hl, by rw [Hi.out]; exact (List.append_nil _).symm.trans (erase_here _ _ _), Below.refl _ _⟩
      | node rl ry rr =>
        obtain ⟨br, qrl, qrr, rfl, hbr, hrl, hrr⟩ := hr
        have hr : LT w (.node rl ry rr) (some ⟨br, 0, none⟩) := ⟨br, qrl, qrr, rfl, hbr, hrl, hrr⟩
        go_enter Try.func77, Try.ntmps77
        go_wp2_with fail
        refine (count_T _ _ _ hl).mono ?_
        rintro e w' ⟨rfl, rfl⟩
        go_wp2_with fail
        have hC1 : Below w.heap.size w w.drew := (Below.refl _ w).drew
        have hsr := size_node rl rr ry
        have hn0 : 0 < (Tr.node rl ry rr).size := by omega
        obtain ⟨m, hm⟩ : ∃ m, (Tr.node rl ry rr).list[0]? = some m := ⟨_, List.getElem?_eq_getElem hn0⟩
        have Hm := Lib.hid hm
        have hat : Calls Try.prog 78 #[.pointer (some ⟨br, 0, none⟩), .int .i64 0] w.drew fun e w' => e = .returned (.agg #[.int .i64 m.key.k, .string m.key.t, .int .i64 m.key.n, .int .i64 m.v]) ∧ Below w.drew.heap.size w.drew w' := at_T (.node rl ry rr) w.drew (some ⟨br, 0, none⟩) 0 m (hr.ext hC1) hm (by omega)
        clear hm
        go_region_held3 (fun W => W.cell? ⟨b, 4, none⟩ = some (.pointer pl) ∧ W.cell? ⟨b, 5, none⟩ = some (.pointer (some ⟨br, 0, none⟩)))
          (first | go_keep | assumption)
          (first
            | ((with_reducible refine hat.mono ?_); rintro e w1 ⟨rfl, hB1⟩; have hC2 := hC1.trans (hB1.mono hC1.size); have hc2 : w1.cell? ⟨b, 4, none⟩ = some (.pointer pl) ∧ w1.cell? ⟨b, 5, none⟩ = some (.pointer (some ⟨br, 0, none⟩)) := (let n1 := node_cells ((hC2.block b hbl).trans Hb.out); ⟨n1.2.1, n1.2.2.1⟩))
            | ((with_reducible refine (ihr w1 (some ⟨br, 0, none⟩) 0 0 (hr.ext hC2) rfl hn0 (by omega)).mono ?_); rintro e w2 ⟨t1, p1, rfl, ht1, hL1, hB2⟩; have hC3 := hC2.trans (hB2.mono hC2.size); have hc3 : w2.cell? ⟨b, 4, none⟩ = some (.pointer pl) ∧ w2.cell? ⟨b, 5, none⟩ = some (.pointer (some ⟨br, 0, none⟩)) := (let n1 := node_cells ((hC3.block b hbl).trans Hb.out); ⟨n1.2.1, n1.2.2.1⟩); have hs1 : l.size + t1.size ≤ 900000 := (by have h1 := List.length_eraseIdx_le (Tr.node rl ry rr).list 0; simp only [Tr.size, hL1] at hs ⊢; omega); have HL1 := Lib.hid hL1; clear hL1)
            | ((with_reducible refine (balance_T w2 l t1 pl p1 m (hl.ext hC3) ht1 hs1).mono ?_); rintro e w3 ⟨t2, b2, rfl, ht2, hL2, hB3⟩; have hC4 := hC3.trans (hB3.mono hC3.size); have hc4 : w3.cell? ⟨b, 4, none⟩ = some (.pointer pl) ∧ w3.cell? ⟨b, 5, none⟩ = some (.pointer (some ⟨br, 0, none⟩)) := (let n1 := node_cells ((hC4.block b hbl).trans Hb.out); ⟨n1.2.1, n1.2.2.1⟩); have HL2 := Lib.hid hL2; clear hL2)
            | fail "no arm")
        go_wp2_with fail
        go_ret
        refine ⟨t2, _, rfl, ht2, ?_, hC4⟩
        rw [HL2.out, HL1.out, Hi.out]
        refine Eq.trans ?_ (erase_here l.list (Tr.node rl ry rr).list y)
        congr 1
        have := Hm.out
        generalize (Tr.node rl ry rr).list = q at this ⊢
        cases q with
        | nil => simp at this
        | cons q0 q => simp at this; simp [this]
    · obtain ⟨j, rfl⟩ : ∃ j, i = l.size + 1 + j := ⟨i - l.size - 1, by omega⟩
      have hzk : (l.size : Int) < z := by omega
      have hzk2 : z ≤ 800001 := by omega
      have hw1 : IntKind.i64.wrap (z - l.size) = z - l.size := IntWalk.i64_in _ (by omega)
      have hw2 : IntKind.i64.wrap (z - l.size - 1) = z - l.size - 1 := IntWalk.i64_in _ (by omega)
      have Hz2 : Hid (z - l.size - 1 = (j : Int)) := Lib.hid (by omega)
      have hj : j < r.size := by omega
      clear hz
      go_enter Try.func77, Try.ntmps77
      go_wp2_with fail
      refine (count_T _ _ _ hl).mono ?_
      rintro e w' ⟨rfl, rfl⟩
      go_wp2_with fail
      have hC1 : Below w.heap.size w w.drew := (Below.refl _ w).drew
      go_region_held3 (fun W => (W.cell? ⟨b, 0, none⟩ = some (.int .i64 y.key.k) ∧ W.cell? ⟨b, 1, none⟩ = some (.string y.key.t) ∧ W.cell? ⟨b, 2, none⟩ = some (.int .i64 y.key.n) ∧ W.cell? ⟨b, 3, none⟩ = some (.int .i64 y.v)) ∧ W.cell? ⟨b, 4, none⟩ = some (.pointer pl) ∧ W.cell? ⟨b, 5, none⟩ = some (.pointer pr))
        (first | go_keep | assumption)
        (first
          | ((with_reducible refine (ihr w.drew pr j _ (hr.ext hC1) Hz2.out hj (by omega)).mono ?_); rintro e w1 ⟨t1, p1, rfl, ht1, hL1, hB1⟩; have hC2 := hC1.trans (hB1.mono hC1.size); have hc2 : (w1.cell? ⟨b, 0, none⟩ = some (.int .i64 y.key.k) ∧ w1.cell? ⟨b, 1, none⟩ = some (.string y.key.t) ∧ w1.cell? ⟨b, 2, none⟩ = some (.int .i64 y.key.n) ∧ w1.cell? ⟨b, 3, none⟩ = some (.int .i64 y.v)) ∧ w1.cell? ⟨b, 4, none⟩ = some (.pointer pl) ∧ w1.cell? ⟨b, 5, none⟩ = some (.pointer pr) := (let n1 := node_cells ((hC2.block b hbl).trans Hb.out); ⟨n1.1, n1.2.1, n1.2.2.1⟩); have hs1 : l.size + t1.size ≤ 900000 := (by have h1 := List.length_eraseIdx_le r.list j; simp only [Tr.size, hL1] at hs ⊢; omega); have HL1 := Lib.hid hL1; clear hL1)
          | ((with_reducible refine (balance_T w1 l t1 pl p1 y (hl.ext hC2) ht1 hs1).mono ?_); rintro e w2 ⟨t2, b2, rfl, ht2, hL2, hB2⟩; have hC3 := hC2.trans (hB2.mono hC2.size); have hc3 : (w2.cell? ⟨b, 0, none⟩ = some (.int .i64 y.key.k) ∧ w2.cell? ⟨b, 1, none⟩ = some (.string y.key.t) ∧ w2.cell? ⟨b, 2, none⟩ = some (.int .i64 y.key.n) ∧ w2.cell? ⟨b, 3, none⟩ = some (.int .i64 y.v)) ∧ w2.cell? ⟨b, 4, none⟩ = some (.pointer pl) ∧ w2.cell? ⟨b, 5, none⟩ = some (.pointer pr) := (let n1 := node_cells ((hC3.block b hbl).trans Hb.out); ⟨n1.1, n1.2.1, n1.2.2.1⟩); have HL2 := Lib.hid hL2; clear hL2)
          | fail "no arm")
      go_wp2_with fail
      go_ret
      exact ⟨t2, _, rfl, ht2, by rw [HL2.out, HL1.out]; exact erase_more _ _ _ _, hC3⟩

end Go.Proofs.Ytbpibbcehfkeeaa.E
