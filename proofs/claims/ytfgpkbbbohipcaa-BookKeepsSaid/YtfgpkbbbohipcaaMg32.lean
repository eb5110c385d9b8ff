/- What Len, Place, Put, Get and At of a set answer. Conditions: the set lies in memory; at most 800000 members.
What remove of a tree's nodes and Drop of a set do. Conditions: the tree, the set lie in memory; at most 800000 members. -/
import Derived.Test.YtfgpkbbbohipcaaMg30
import Derived.Test.YtfgpkbbbohipcaaFindSE
namespace Go.Proofs.Ytfgpkbbbohipcaa.E
open Go Go.RowKit

/-- The set in block s has the members L. -/
def SetAt (w : World) (s : Nat) (L : List EntV) : Prop :=
  ∃ t p, w.heap[s]? = some (.cells #[.pointer p] 139 (0, 0)) ∧ LT w t p ∧ t.list = L ∧ Sorted entCmp L

theorem SetAt.lt {w : World} {s : Nat} {L : List EntV} (h : SetAt w s L) : s < w.heap.size := by
  obtain ⟨t, p, h1, -⟩ := h
  exact lt_of_block h1

theorem SetAt.below {w w' : World} {s : Nat} {L : List EntV} (h : SetAt w s L) (hB : Below w.heap.size w w') : SetAt w' s L := by
  obtain ⟨t, p, h1, h2, h3⟩ := h
  exact ⟨t, p, (hB.block s (lt_of_block h1)).trans h1, h2.ext hB, h3⟩

/-- Another set, or anything of another type, is changed. -/
theorem SetAt.but {w w' : World} {s r : Nat} {L : List EntV} (h : SetAt w s L) (hb : But r w w') (hr : r ≠ s) {c : Array Value} {T : TypeId} {f : Nat × Nat} (ha : w.heap[r]? = some (.cells c T f)) (hT : T ≠ 172) : SetAt w' s L := by
  obtain ⟨t, p, h1, h2, h3⟩ := h
  exact ⟨t, p, (hb.block s (lt_of_block h1) (Ne.symm hr)).trans h1, h2.but hb ha hT, h3⟩

set_option maxHeartbeats 400000 in
theorem len_T (w : World) (s : Nat) (L : List EntV) (h : SetAt w s L) :
    Calls Try.prog 52 #[.pointer (some ⟨s, 0, none⟩)] w fun e w' => e = .returned (.int .i64 L.length) ∧ w = w' := by
  obtain ⟨t, p, h1, h2, h3, -⟩ := h
  have c1 := cell_of_one h1
  have H3 := Lib.hid h3
  clear h1 h3
  go_enter Try.func52, Try.ntmps52
  go_wp2_with fail
  refine (count_T _ _ _ h2).mono ?_
  rintro e w' ⟨rfl, rfl⟩
  go_wp2_with fail
  go_ret
  exact ⟨by rw [← H3.out]; rfl, rfl⟩

theorem put_T (w : World) (s : Nat) (L : List EntV) (x : EntV) (h : SetAt w s L) (hs : L.length ≤ 800000) :
    Calls Try.prog 48 #[.pointer (some ⟨s, 0, none⟩), .agg #[.int .i64 x.key.k, .string x.key.t, .int .i64 x.key.n, .int .i64 x.v]] w fun e w' => e = .returned (.bool (!has entCmp L x)) ∧ SetAt w' s (put entCmp L x) ∧ But s w w' := by
  have hB0 : Below w.heap.size w (w.alloc (.cells #[.int .i64 x.key.k, .string x.key.t, .int .i64 x.key.n, .int .i64 x.v] 93)) := (Below.refl _ w).alloc (Nat.le_refl _) _
  have hx0 := mem_new w x
  have hsz : w.heap.size < (w.alloc (.cells #[.int .i64 x.key.k, .string x.key.t, .int .i64 x.key.n, .int .i64 x.v] 93)).heap.size := by simp
  have hS0 := h.below hB0
  obtain ⟨t, p, h1, h2, rfl, h4⟩ := hS0
  have c1 := cell_of_one h1
  have H1 := Lib.hid h1
  clear h1
  by_cases hh : has entCmp t.list x = true
  · have hput : put entCmp t.list x = t.list := by simp [put, hh]
    have Hput := Lib.hid hput
    clear hput
    go_enter Try.func48, Try.ntmps48
    go_wp2_with fail
    generalize (w.alloc (.cells #[.int .i64 x.key.k, .string x.key.t, .int .i64 x.key.n, .int .i64 x.v] 93)) = W0 at hB0 hx0 hsz h2 c1 H1 ⊢
    refine (find_T t _ p x h2 h4 (by unfold Tr.size; omega)).mono ?_
    rintro e w1 ⟨rfl, hB1⟩
    go_wp2_with fail
    go_ret
    have hB := hB0.trans (hB1.mono hB0.size)
    refine ⟨by simp [hh], ?_, But.of_below hB⟩
    rw [Hput.out]
    exact h.below hB
  · have hh : has entCmp t.list x = false := by simpa using hh
    have hput : put entCmp t.list x = ins entCmp t.list x := by simp [put, hh]
    have Hput := Lib.hid hput
    clear hput
    go_enter Try.func48, Try.ntmps48
    go_wp2_with fail
    generalize (w.alloc (.cells #[.int .i64 x.key.k, .string x.key.t, .int .i64 x.key.n, .int .i64 x.v] 93)) = W0 at hB0 hx0 hsz h2 c1 H1 ⊢
    refine (find_T t _ p x h2 h4 (by unfold Tr.size; omega)).mono ?_
    rintro e w1 ⟨rfl, hB1⟩
    have hx1 := mem_below hB1 hsz hx0
    go_wp2_with fail
    refine (insert_T t w1 p _ _ x (h2.ext hB1) rfl (pos_le _ _) (by unfold Tr.size; omega)).mono ?_
    rintro e w2 ⟨t2, b2, rfl, ht2, hL2, hB2⟩
    have hC2 := hB1.trans (hB2.mono hB1.size)
    have k1 := (hC2.block s (lt_of_block H1.out)).trans H1.out
    have d1 := cell_of_one k1
    have f1 := free_of_one k1
    have K1 := Lib.hid k1
    have HL2 := Lib.hid hL2
    clear k1 hL2
    go_wp2_with fail
    go_ret
    have hB := hB0.trans (hC2.mono hB0.size)
    refine ⟨by simp [hh], ⟨t2, some ⟨b2, 0, none⟩, one_setCell K1.out, ht2.setCell K1.out (by decide) _, ?_, ?_⟩, (But.of_below hB).setCell _ _⟩
    · rw [Hput.out, HL2.out]; rfl
    · rw [Hput.out]; exact sorted_ins entCmp_lin _ _ h4 hh

end Go.Proofs.Ytfgpkbbbohipcaa.E

namespace Go.Proofs.Ytfgpkbbbohipcaa.E
open Go Go.RowKit

/-- A tree with the members L, old or new; nothing that was there has changed. -/
def Left (w : World) (L : List EntV) (e : Ending) (w' : World) : Prop :=
  ∃ t p, e = .returned (.pointer p) ∧ LT w' t p ∧ t.list = L ∧ Below w.heap.size w w'

theorem erase_less {α : Type} (l r : List α) (i : Nat) (y : α) (h : i < l.length) : l.eraseIdx i ++ y :: r = (l ++ y :: r).eraseIdx i := (List.eraseIdx_append_of_lt_length h _).symm
theorem erase_more {α : Type} (l r : List α) (j : Nat) (y : α) : l ++ y :: r.eraseIdx j = (l ++ y :: r).eraseIdx (l.length + 1 + j) := by
  rw [List.eraseIdx_append_of_length_le (by omega), show l.length + 1 + j - l.length = j + 1 by omega]; rfl
theorem erase_here {α : Type} (l r : List α) (y : α) : l ++ r = (l ++ y :: r).eraseIdx l.length := by
  rw [List.eraseIdx_append_of_length_le (by omega)]; simp

set_option maxHeartbeats 1600000 in
theorem remove_T (t : Tr EntV) : ∀ (w : World) (p : Option Addr) (i : Nat) (z : Int), LT w t p → z = i → i < t.size → t.size ≤ 800000 →
    Calls Try.prog 77 #[.pointer p, .int .i64 z] w (Left w (t.list.eraseIdx i)) := by
  induction t with
  | nil => intro w p i z h hz hi hs; simp [Tr.size, Tr.list] at hi
  | node l y r ihl ihr =>
    intro w p i z h hz hi hs
    obtain ⟨b, pl, pr, rfl, hb, hl, hr⟩ := h
    rw [size_node] at hi hs
    obtain ⟨c0, c1, c2, -⟩ := node_cells hb
    have hbl : b < w.heap.size := lt_of_block hb
    have Hb := Lib.hid hb
    have Hz := Lib.hid hz
    clear hb
    rcases Nat.lt_trichotomy i l.size with hlt | heq | hgt
    · have hzk : z < l.size := by omega
      clear hz
      go_enter Try.func77, Try.ntmps77
      go_wp2_with fail
      refine (count_T _ _ _ hl).mono ?_
      rintro e w' ⟨rfl, rfl⟩
      go_wp2_with fail
      have hC1 : Below w.heap.size w w.drew := (Below.refl _ w).drew
      go_region_held3 (fun W => (W.cell? ⟨b, 0, none⟩ = some (.int .i64 y.key.k) ∧ W.cell? ⟨b, 1, none⟩ = some (.string y.key.t) ∧ W.cell? ⟨b, 2, none⟩ = some (.int .i64 y.key.n) ∧ W.cell? ⟨b, 3, none⟩ = some (.int .i64 y.v)) ∧ W.cell? ⟨b, 4, none⟩ = some (.pointer pl) ∧ W.cell? ⟨b, 5, none⟩ = some (.pointer pr))
        (first | go_keep | assumption)
        (first
          | ((with_reducible refine (ihl w.drew pl i z (hl.ext hC1) Hz.out hlt (by omega)).mono ?_); rintro e w1 ⟨t1, p1, rfl, ht1, hL1, hB1⟩; have hC2 := hC1.trans (hB1.mono hC1.size); have hc2 : (w1.cell? ⟨b, 0, none⟩ = some (.int .i64 y.key.k) ∧ w1.cell? ⟨b, 1, none⟩ = some (.string y.key.t) ∧ w1.cell? ⟨b, 2, none⟩ = some (.int .i64 y.key.n) ∧ w1.cell? ⟨b, 3, none⟩ = some (.int .i64 y.v)) ∧ w1.cell? ⟨b, 4, none⟩ = some (.pointer pl) ∧ w1.cell? ⟨b, 5, none⟩ = some (.pointer pr) := (let n1 := node_cells ((hC2.block b hbl).trans Hb.out); ⟨n1.1, n1.2.1, n1.2.2.1⟩); have hs1 : t1.size + r.size ≤ 900000 := (by have h1 := List.length_eraseIdx_le l.list i; simp only [Tr.size, hL1] at hs ⊢; omega); have HL1 := Lib.hid hL1; clear hL1)
          | ((with_reducible refine (balance_T w1 t1 r p1 pr y ht1 (hr.ext hC2) hs1).mono ?_); rintro e w2 ⟨t2, b2, rfl, ht2, hL2, hB2⟩; have hC3 := hC2.trans (hB2.mono hC2.size); have hc3 : (w2.cell? ⟨b, 0, none⟩ = some (.int .i64 y.key.k) ∧ w2.cell? ⟨b, 1, none⟩ = some (.string y.key.t) ∧ w2.cell? ⟨b, 2, none⟩ = some (.int .i64 y.key.n) ∧ w2.cell? ⟨b, 3, none⟩ = some (.int .i64 y.v)) ∧ w2.cell? ⟨b, 4, none⟩ = some (.pointer pl) ∧ w2.cell? ⟨b, 5, none⟩ = some (.pointer pr) := (let n1 := node_cells ((hC3.block b hbl).trans Hb.out); ⟨n1.1, n1.2.1, n1.2.2.1⟩); have HL2 := Lib.hid hL2; clear hL2)
          | fail "no arm")
      go_wp2_with fail
      go_ret
      exact ⟨t2, _, rfl, ht2, by rw [HL2.out, HL1.out]; exact erase_less _ _ _ _ hlt, hC3⟩
    · have h1 : (z < l.size) = False := by simp; omega
      have h2 : ((l.size : Int) < z) = False := by simp; omega
      have Hi := Lib.hid heq
      clear hz heq hi
      cases r with
      | nil =>
        obtain rfl : pr = none := hr
        go_enter Try.func77, Try.ntmps77
        go_wp2_with fail
        refine (count_T _ _ _ hl).mono ?_
        rintro e w' ⟨rfl, rfl⟩
        go_wp2_with fail
        go_ret
        exact ⟨l, pl, rfl, hl, by rw [Hi.out]; exact (List.append_nil _).symm.trans (erase_here _ _ _), Below.refl _ _⟩
      | node rl ry rr =>
        obtain ⟨br, qrl, qrr, rfl, hbr, hrl, hrr⟩ := hr
        have hr : LT w (.node rl ry rr) (some ⟨br, 0, none⟩) := ⟨br, qrl, qrr, rfl, hbr, hrl, hrr⟩
        go_enter Try.func77, Try.ntmps77
        go_wp2_with fail
        refine (count_T _ _ _ hl).mono ?_
        rintro e w' ⟨rfl, rfl⟩
        go_wp2_with fail
        have hC1 : Below w.heap.size w w.drew := (Below.refl _ w).drew
        have hsr := size_node rl rr ry
        have hn0 : 0 < (Tr.node rl ry rr).size := by omega
        obtain ⟨m, hm⟩ : ∃ m, (Tr.node rl ry rr).list[0]? = some m := ⟨_, List.getElem?_eq_getElem hn0⟩
        have Hm := Lib.hid hm
        have hat : Calls Try.prog 78 #[.pointer (some ⟨br, 0, none⟩), .int .i64 0] w.drew fun e w' => e = .returned (.agg #[.int .i64 m.key.k, .string m.key.t, .int .i64 m.key.n, .int .i64 m.v]) ∧ Below w.drew.heap.size w.drew w' := at_T (.node rl ry rr) w.drew (some ⟨br, 0, none⟩) 0 m (hr.ext hC1) hm (by omega)
        clear hm
        go_region_held3 (fun W => W.cell? ⟨b, 4, none⟩ = some (.pointer pl) ∧ W.cell? ⟨b, 5, none⟩ = some (.pointer (some ⟨br, 0, none⟩)))
          (first | go_keep | assumption)
          (first
            | ((with_reducible refine hat.mono ?_); rintro e w1 ⟨rfl, hB1⟩; have hC2 := hC1.trans (hB1.mono hC1.size); have hc2 : w1.cell? ⟨b, 4, none⟩ = some (.pointer pl) ∧ w1.cell? ⟨b, 5, none⟩ = some (.pointer (some ⟨br, 0, none⟩)) := (let n1 := node_cells ((hC2.block b hbl).trans Hb.out); ⟨n1.2.1, n1.2.2.1⟩))
            | ((with_reducible refine (ihr w1 (some ⟨br, 0, none⟩) 0 0 (hr.ext hC2) rfl hn0 (by omega)).mono ?_); rintro e w2 ⟨t1, p1, rfl, ht1, hL1, hB2⟩; have hC3 := hC2.trans (hB2.mono hC2.size); have hc3 : w2.cell? ⟨b, 4, none⟩ = some (.pointer pl) ∧ w2.cell? ⟨b, 5, none⟩ = some (.pointer (some ⟨br, 0, none⟩)) := (let n1 := node_cells ((hC3.block b hbl).trans Hb.out); ⟨n1.2.1, n1.2.2.1⟩); have hs1 : l.size + t1.size ≤ 900000 := (by have h1 := List.length_eraseIdx_le (Tr.node rl ry rr).list 0; simp only [Tr.size, hL1] at hs ⊢; omega); have HL1 := Lib.hid hL1; clear hL1)
            | ((with_reducible refine (balance_T w2 l t1 pl p1 m (hl.ext hC3) ht1 hs1).mono ?_); rintro e w3 ⟨t2, b2, rfl, ht2, hL2, hB3⟩; have hC4 := hC3.trans (hB3.mono hC3.size); have hc4 : w3.cell? ⟨b, 4, none⟩ = some (.pointer pl) ∧ w3.cell? ⟨b, 5, none⟩ = some (.pointer (some ⟨br, 0, none⟩)) := (let n1 := node_cells ((hC4.block b hbl).trans Hb.out); ⟨n1.2.1, n1.2.2.1⟩); have HL2 := Lib.hid hL2; clear hL2)
            | fail "no arm")
        go_wp2_with fail
        go_ret
        refine ⟨t2, _, rfl, ht2, ?_, hC4⟩
        rw [HL2.out, HL1.out, Hi.out]
        refine Eq.trans ?_ (erase_here l.list (Tr.node rl ry rr).list y)
        congr 1
        have := Hm.out
        generalize (Tr.node rl ry rr).list = q at this ⊢
        cases q with
        | nil => simp at this
        | cons q0 q => simp at this; simp [this]
    · obtain ⟨j, rfl⟩ : ∃ j, i = l.size + 1 + j := ⟨i - l.size - 1, by omega⟩
      have hzk : (l.size : Int) < z := by omega
      have hzk2 : z ≤ 800001 := by omega
      have hw1 : IntKind.i64.wrap (z - l.size) = z - l.size := IntWalk.i64_in _ (by omega)
      have hw2 : IntKind.i64.wrap (z - l.size - 1) = z - l.size - 1 := IntWalk.i64_in _ (by omega)
      have Hz2 : Hid (z - l.size - 1 = (j : Int)) := Lib.hid (by omega)
      have hj : j < r.size := by omega
      clear hz
      go_enter Try.func77, Try.ntmps77
      go_wp2_with fail
      refine (count_T _ _ _ hl).mono ?_
      rintro e w' ⟨rfl, rfl⟩
      go_wp2_with fail
      have hC1 : Below w.heap.size w w.drew := (Below.refl _ w).drew
      go_region_held3 (fun W => (W.cell? ⟨b, 0, none⟩ = some (.int .i64 y.key.k) ∧ W.cell? ⟨b, 1, none⟩ = some (.string y.key.t) ∧ W.cell? ⟨b, 2, none⟩ = some (.int .i64 y.key.n) ∧ W.cell? ⟨b, 3, none⟩ = some (.int .i64 y.v)) ∧ W.cell? ⟨b, 4, none⟩ = some (.pointer pl) ∧ W.cell? ⟨b, 5, none⟩ = some (.pointer pr))
        (first | go_keep | assumption)
        (first
          | ((with_reducible refine (ihr w.drew pr j _ (hr.ext hC1) Hz2.out hj (by omega)).mono ?_); rintro e w1 ⟨t1, p1, rfl, ht1, hL1, hB1⟩; have hC2 := hC1.trans (hB1.mono hC1.size); have hc2 : (w1.cell? ⟨b, 0, none⟩ = some (.int .i64 y.key.k) ∧ w1.cell? ⟨b, 1, none⟩ = some (.string y.key.t) ∧ w1.cell? ⟨b, 2, none⟩ = some (.int .i64 y.key.n) ∧ w1.cell? ⟨b, 3, none⟩ = some (.int .i64 y.v)) ∧ w1.cell? ⟨b, 4, none⟩ = some (.pointer pl) ∧ w1.cell? ⟨b, 5, none⟩ = some (.pointer pr) := (let n1 := node_cells ((hC2.block b hbl).trans Hb.out); ⟨n1.1, n1.2.1, n1.2.2.1⟩); have hs1 : l.size + t1.size ≤ 900000 := (by have h1 := List.length_eraseIdx_le r.list j; simp only [Tr.size, hL1] at hs ⊢; omega); have HL1 := Lib.hid hL1; clear hL1)
          | ((with_reducible refine (balance_T w1 l t1 pl p1 y (hl.ext hC2) ht1 hs1).mono ?_); rintro e w2 ⟨t2, b2, rfl, ht2, hL2, hB2⟩; have hC3 := hC2.trans (hB2.mono hC2.size); have hc3 : (w2.cell? ⟨b, 0, none⟩ = some (.int .i64 y.key.k) ∧ w2.cell? ⟨b, 1, none⟩ = some (.string y.key.t) ∧ w2.cell? ⟨b, 2, none⟩ = some (.int .i64 y.key.n) ∧ w2.cell? ⟨b, 3, none⟩ = some (.int .i64 y.v)) ∧ w2.cell? ⟨b, 4, none⟩ = some (.pointer pl) ∧ w2.cell? ⟨b, 5, none⟩ = some (.pointer pr) := (let n1 := node_cells ((hC3.block b hbl).trans Hb.out); ⟨n1.1, n1.2.1, n1.2.2.1⟩); have HL2 := Lib.hid hL2; clear hL2)
          | fail "no arm")
      go_wp2_with fail
      go_ret
      exact ⟨t2, _, rfl, ht2, by rw [HL2.out, HL1.out]; exact erase_more _ _ _ _, hC3⟩

end Go.Proofs.Ytfgpkbbbohipcaa.E
