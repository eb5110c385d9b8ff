/- What balance, insert and remove of a tree's nodes do, told by the list of its members. Conditions: the trees lie in memory; together at most some 800000 members.
What insert and remove of a tree's nodes do, told by the list of its members. Conditions: the trees lie in memory; at most 800000 members; the index is in range.
What 'at' of a tree's nodes answers. Conditions: the tree lies in memory; the index is in range; at most 900000 members.
The order of variables, as sets of them ask it. Conditions: none. -/
import Derived.Test.YtmnpcpgdhaplaaaTreeSV
import Derived.Deep.LoopGhost
import Derived.Test.YtmnpcpgdhaplaaaMg10
namespace Go.Proofs.Ytmnpcpgdhaplaaa.V
open Go Go.RowKit

/-- A new tree has the members L; nothing that was there has changed. -/
def Res (w : World) (L : List VarV) (e : Ending) (w' : World) : Prop :=
  ∃ t b, e = .returned (.pointer (some ⟨b, 0, none⟩)) ∧ LT w' t (some ⟨b, 0, none⟩) ∧ t.list = L ∧ Below w.heap.size w w'

theorem turnDown_T (w : World) (l i o : Tr VarV) (pl pr : Option Addr) (x y : VarV) (hl : LT w l pl) (hr : LT w (.node i y o) pr) (hs : l.size + i.size + o.size ≤ 900000) :
    Calls Try.prog 127 #[.pointer pl, .agg #[.string x.name, .int .i64 x.nth], .pointer pr] w (Res w (l.list ++ x :: (i.list ++ y :: o.list))) := by
  obtain ⟨b, pi, po, rfl, hb, hi, ho⟩ := hr
  by_cases hlt : i.size + 1 < 2 * (o.size + 1)
  · refine (turnDown_A w l i o pl pi po b x y hl hb hi ho hs hlt).mono ?_
    rintro e w' ⟨b', rfl, ht, hB⟩
    exact ⟨_, b', rfl, ht, by simp [Tr.list], hB⟩
  · cases i with
    | nil => exact absurd (show (Tr.nil : Tr VarV).size + 1 < 2 * (o.size + 1) by simp [Tr.size, Tr.list]; omega) hlt
    | node ib z ia =>
      rw [size_node] at hlt hs hb
      obtain ⟨bi, pib, pia, rfl, hbi, hib, hia⟩ := hi
      refine (turnDown_B w l ib ia o pl pib pia po b bi x y z hl hb hbi hib hia ho (by omega) hlt).mono ?_
      rintro e w' ⟨b', rfl, ht, hB⟩
      exact ⟨_, b', rfl, ht, by simp [Tr.list], hB⟩

theorem turnUp_T (w : World) (l i o : Tr VarV) (pl pr : Option Addr) (x y : VarV) (hr : LT w l pl) (hl : LT w (.node o y i) pr) (hs : l.size + i.size + o.size ≤ 900000) :
    Calls Try.prog 128 #[.pointer pr, .agg #[.string x.name, .int .i64 x.nth], .pointer pl] w (Res w ((o.list ++ y :: i.list) ++ x :: l.list)) := by
  obtain ⟨b, po, pi, rfl, hb, ho, hi⟩ := hl
  by_cases hlt : i.size + 1 < 2 * (o.size + 1)
  · refine (turnUp_A w l i o pl pi po b x y hr hb hi ho hs hlt).mono ?_
    rintro e w' ⟨b', rfl, ht, hB⟩
    exact ⟨_, b', rfl, ht, by simp [Tr.list], hB⟩
  · cases i with
    | nil => exact absurd (show (Tr.nil : Tr VarV).size + 1 < 2 * (o.size + 1) by simp [Tr.size, Tr.list]; omega) hlt
    | node ib z ia =>
      rw [size_node] at hlt hs hb
      obtain ⟨bi, pib, pia, rfl, hbi, hib, hia⟩ := hi
      refine (turnUp_B w l ib ia o pl pib pia po b bi x y z hr hb hbi hib hia ho (by omega) hlt).mono ?_
      rintro e w' ⟨b', rfl, ht, hB⟩
      exact ⟨_, b', rfl, ht, by simp [Tr.list], hB⟩

set_option maxHeartbeats 800000 in
theorem balance_T (w : World) (l r : Tr VarV) (pl pr : Option Addr) (x : VarV) (hl : LT w l pl) (hr : LT w r pr) (hs : l.size + r.size ≤ 900000) :
    Calls Try.prog 124 #[.pointer pl, .agg #[.string x.name, .int .i64 x.nth], .pointer pr] w (Res w (l.list ++ x :: r.list)) := by
  have hB0 : Below w.heap.size w (w.alloc (.cells #[.string x.name, .int .i64 x.nth] 121)) := (Below.refl _ w).alloc (Nat.le_refl _) _
  have hx0 := mem_new w x
  have hl0 := hl.ext hB0
  have hr0 := hr.ext hB0
  by_cases h1 : 3 * (l.size + 1) < r.size + 1
  · cases r with
    | nil => simp [Tr.size, Tr.list] at h1
    | node i y o =>
      rw [size_node] at hs
      have hsn := size_node i o y
      go_enter Try.func124, Try.ntmps124
      go_wp2_with fail
      generalize (w.alloc (.cells #[.string x.name, .int .i64 x.nth] 121)) = W0 at hB0 hx0 hl0 hr0 ⊢
      refine (weight_T _ _ _ hr0 (by omega)).mono ?_
      rintro e w' ⟨rfl, rfl⟩
      go_wp2_with fail
      refine (weight_T _ _ _ hl0 (by omega)).mono ?_
      rintro e w' ⟨rfl, rfl⟩
      go_wp2_with fail
      refine (turnDown_T _ l i o pl pr x y hl0 hr0 (by omega)).mono ?_
      rintro e w' ⟨t, b, rfl, ht, hL, hB⟩
      go_wp2_with fail
      go_ret
      exact ⟨t, b, rfl, ht, hL, hB0.trans (hB.mono hB0.size)⟩
  · by_cases h2 : 3 * (r.size + 1) < l.size + 1
    · cases l with
      | nil => simp [Tr.size, Tr.list] at h2
      | node o y i =>
        rw [size_node] at hs
        have hsn := size_node o i y
        go_enter Try.func124, Try.ntmps124
        go_wp2_with fail
        generalize (w.alloc (.cells #[.string x.name, .int .i64 x.nth] 121)) = W0 at hB0 hx0 hl0 hr0 ⊢
        refine (weight_T _ _ _ hr0 (by omega)).mono ?_
        rintro e w' ⟨rfl, rfl⟩
        go_wp2_with fail
        refine (weight_T _ _ _ hl0 (by omega)).mono ?_
        rintro e w' ⟨rfl, rfl⟩
        go_wp2_with fail
        refine (weight_T _ _ _ hl0 (by omega)).mono ?_
        rintro e w' ⟨rfl, rfl⟩
        go_wp2_with fail
        refine (weight_T _ _ _ hr0 (by omega)).mono ?_
        rintro e w' ⟨rfl, rfl⟩
        go_wp2_with fail
        refine (turnUp_T _ r i o pr pl x y hr0 hl0 (by omega)).mono ?_
        rintro e w' ⟨t, b, rfl, ht, hL, hB⟩
        go_wp2_with fail
        go_ret
        exact ⟨t, b, rfl, ht, hL, hB0.trans (hB.mono hB0.size)⟩
    · go_enter Try.func124, Try.ntmps124
      go_wp2_with fail
      generalize (w.alloc (.cells #[.string x.name, .int .i64 x.nth] 121)) = W0 at hB0 hx0 hl0 hr0 ⊢
      refine (weight_T _ _ _ hr0 (by omega)).mono ?_
      rintro e w' ⟨rfl, rfl⟩
      go_wp2_with fail
      refine (weight_T _ _ _ hl0 (by omega)).mono ?_
      rintro e w' ⟨rfl, rfl⟩
      go_wp2_with fail
      refine (weight_T _ _ _ hl0 (by omega)).mono ?_
      rintro e w' ⟨rfl, rfl⟩
      go_wp2_with fail
      refine (weight_T _ _ _ hr0 (by omega)).mono ?_
      rintro e w' ⟨rfl, rfl⟩
      go_wp2_with fail
      refine (link_T _ l r pl pr x hl0 hr0 (by omega)).mono ?_
      rintro e w' ⟨b, rfl, ht, hB⟩
      go_wp2_with fail
      go_ret
      exact ⟨_, b, rfl, ht, rfl, hB0.trans (hB.mono hB0.size)⟩

end Go.Proofs.Ytmnpcpgdhaplaaa.V

namespace Go.Proofs.Ytmnpcpgdhaplaaa.V
open Go Go.RowKit

theorem insert_nil (w : World) (i : Nat) (z : Int) (x : VarV) : Calls Try.prog 117 #[.pointer none, .int .i64 z, .agg #[.string x.name, .int .i64 x.nth]] w (Res w [x]) := by
  have hB0 : Below w.heap.size w (w.alloc (.cells #[.string x.name, .int .i64 x.nth] 121)) := (Below.refl _ w).alloc (Nat.le_refl _) _
  have hx0 := mem_new w x
  go_enter Try.func117, Try.ntmps117
  go_wp2_with fail
  generalize (w.alloc (.cells #[.string x.name, .int .i64 x.nth] 121)) = W0 at hB0 hx0 ⊢
  refine (link_T W0 .nil .nil none none x rfl rfl (by decide)).mono ?_
  rintro e w' ⟨b, rfl, ht, hB⟩
  go_wp2_with fail
  go_ret
  exact ⟨_, b, rfl, ht, rfl, hB0.trans (hB.mono hB0.size)⟩

theorem take_left {α : Type} (l r : List α) (i : Nat) (x y : α) (h : i ≤ l.length) : (l.take i ++ x :: l.drop i) ++ y :: r = (l ++ y :: r).take i ++ x :: (l ++ y :: r).drop i := by
  rw [List.take_append_of_le_length h, List.drop_append_of_le_length h]; simp

theorem take_right {α : Type} (l r : List α) (j : Nat) (x y : α) : l ++ y :: (r.take j ++ x :: r.drop j) = (l ++ y :: r).take (l.length + 1 + j) ++ x :: (l ++ y :: r).drop (l.length + 1 + j) := by
  rw [show l.length + 1 + j = l.length + (j + 1) by omega, List.take_length_add_append, List.drop_length_add_append]; simp

set_option maxHeartbeats 1600000 in
theorem insert_T (t : Tr VarV) : ∀ (w : World) (p : Option Addr) (i : Nat) (z : Int) (x : VarV), LT w t p → z = i → i ≤ t.size → t.size ≤ 800000 →
    Calls Try.prog 117 #[.pointer p, .int .i64 z, .agg #[.string x.name, .int .i64 x.nth]] w (Res w (t.list.take i ++ x :: t.list.drop i)) := by
  induction t with
  | nil =>
    intro w p i z x h hz hi hs
    obtain rfl : p = none := h
    simpa [Tr.list] using insert_nil w i z x
  | node l y r ihl ihr =>
    intro w p i z x h hz hi hs
    obtain ⟨b, pl, pr, rfl, hb, hl, hr⟩ := h
    rw [size_node] at hi hs
    have hB0 : Below w.heap.size w (w.alloc (.cells #[.string x.name, .int .i64 x.nth] 121)) := (Below.refl _ w).alloc (Nat.le_refl _) _
    have hx0 := mem_new w x
    have hsz : w.heap.size < (w.alloc (.cells #[.string x.name, .int .i64 x.nth] 121)).heap.size := by simp
    have hl0 := hl.ext hB0
    have hr0 := hr.ext hB0
    have hb0 := (hB0.block b (lt_of_block hb)).trans hb
    obtain ⟨c0, c1, c2, -⟩ := node_cells hb0
    have hbl : b < (w.alloc (.cells #[.string x.name, .int .i64 x.nth] 121)).heap.size := lt_of_block hb0
    have Hb := Lib.hid hb0
    have Hz := Lib.hid hz
    clear hb hb0
    by_cases hk : i ≤ l.size
    · have hzk : z ≤ l.size := by omega
      clear hz
      go_enter Try.func117, Try.ntmps117
      go_wp2_with fail
      generalize (w.alloc (.cells #[.string x.name, .int .i64 x.nth] 121)) = W0 at hB0 hx0 hsz hl0 hr0 Hb hbl c0 c1 c2 ⊢
      refine (count_T _ _ _ hl0).mono ?_
      rintro e w' ⟨rfl, rfl⟩
      go_wp2_with fail
      have hC1 : Below W0.heap.size W0 W0.drew := (Below.refl _ W0).drew
      go_region_held3 (fun W => (W.cell? ⟨w.heap.size, 0, none⟩ = some (.string x.name) ∧ W.cell? ⟨w.heap.size, 1, none⟩ = some (.int .i64 x.nth)) ∧ (W.cell? ⟨b, 0, none⟩ = some (.string y.name) ∧ W.cell? ⟨b, 1, none⟩ = some (.int .i64 y.nth)) ∧ W.cell? ⟨b, 2, none⟩ = some (.pointer pl) ∧ W.cell? ⟨b, 3, none⟩ = some (.pointer pr))
        (first | go_keep | assumption)
        (first
          | ((with_reducible refine (ihl W0.drew pl i z x (hl0.ext hC1) Hz.out hk (by omega)).mono ?_); rintro e w1 ⟨t1, b1, rfl, ht1, hL1, hB1⟩; have hC2 := hC1.trans (hB1.mono hC1.size); have hc2 : (w1.cell? ⟨w.heap.size, 0, none⟩ = some (.string x.name) ∧ w1.cell? ⟨w.heap.size, 1, none⟩ = some (.int .i64 x.nth)) ∧ (w1.cell? ⟨b, 0, none⟩ = some (.string y.name) ∧ w1.cell? ⟨b, 1, none⟩ = some (.int .i64 y.nth)) ∧ w1.cell? ⟨b, 2, none⟩ = some (.pointer pl) ∧ w1.cell? ⟨b, 3, none⟩ = some (.pointer pr) := (let n1 := node_cells ((hC2.block b hbl).trans Hb.out); ⟨mem_below hC2 hsz hx0, n1.1, n1.2.1, n1.2.2.1⟩); have hs1 : t1.size + r.size ≤ 900000 := (by simp [Tr.size, hL1] at hs hk ⊢; omega); have HL1 := Lib.hid hL1; clear hL1)
          | ((with_reducible refine (balance_T w1 t1 r (some ⟨b1, 0, none⟩) pr y ht1 (hr0.ext hC2) hs1).mono ?_); rintro e w2 ⟨t2, b2, rfl, ht2, hL2, hB2⟩; have hC3 := hC2.trans (hB2.mono hC2.size); have hc3 : (w2.cell? ⟨w.heap.size, 0, none⟩ = some (.string x.name) ∧ w2.cell? ⟨w.heap.size, 1, none⟩ = some (.int .i64 x.nth)) ∧ (w2.cell? ⟨b, 0, none⟩ = some (.string y.name) ∧ w2.cell? ⟨b, 1, none⟩ = some (.int .i64 y.nth)) ∧ w2.cell? ⟨b, 2, none⟩ = some (.pointer pl) ∧ w2.cell? ⟨b, 3, none⟩ = some (.pointer pr) := (let n1 := node_cells ((hC3.block b hbl).trans Hb.out); ⟨mem_below hC3 hsz hx0, n1.1, n1.2.1, n1.2.2.1⟩); have HL2 := Lib.hid hL2; clear hL2)
          | fail "no arm")
      go_wp2_with fail
      go_ret
      exact ⟨t2, b2, rfl, ht2, by rw [HL2.out, HL1.out]; exact take_left _ _ _ _ _ hk, hB0.trans (hC3.mono hB0.size)⟩
    · obtain ⟨j, rfl⟩ : ∃ j, i = l.size + 1 + j := ⟨i - l.size - 1, by omega⟩
      have hzk : (l.size : Int) < z := by omega
      have hzk2 : z ≤ 800001 := by omega
      have hw1 : IntKind.i64.wrap (z - l.size) = z - l.size := IntWalk.i64_in _ (by omega)
      have hw2 : IntKind.i64.wrap (z - l.size - 1) = z - l.size - 1 := IntWalk.i64_in _ (by omega)
      have Hz2 : Hid (z - l.size - 1 = (j : Int)) := Lib.hid (by omega)
      have hj : j ≤ r.size := by omega
      clear hz hk
      go_enter Try.func117, Try.ntmps117
      go_wp2_with fail
      generalize (w.alloc (.cells #[.string x.name, .int .i64 x.nth] 121)) = W0 at hB0 hx0 hsz hl0 hr0 Hb hbl c0 c1 c2 ⊢
      refine (count_T _ _ _ hl0).mono ?_
      rintro e w' ⟨rfl, rfl⟩
      go_wp2_with fail
      have hC1 : Below W0.heap.size W0 W0.drew := (Below.refl _ W0).drew
      go_region_held3 (fun W => (W.cell? ⟨w.heap.size, 0, none⟩ = some (.string x.name) ∧ W.cell? ⟨w.heap.size, 1, none⟩ = some (.int .i64 x.nth)) ∧ (W.cell? ⟨b, 0, none⟩ = some (.string y.name) ∧ W.cell? ⟨b, 1, none⟩ = some (.int .i64 y.nth)) ∧ W.cell? ⟨b, 2, none⟩ = some (.pointer pl) ∧ W.cell? ⟨b, 3, none⟩ = some (.pointer pr))
        (first | go_keep | assumption)
        (first
          | ((with_reducible refine (ihr W0.drew pr j _ x (hr0.ext hC1) Hz2.out hj (by omega)).mono ?_); rintro e w1 ⟨t1, b1, rfl, ht1, hL1, hB1⟩; have hC2 := hC1.trans (hB1.mono hC1.size); have hc2 : (w1.cell? ⟨w.heap.size, 0, none⟩ = some (.string x.name) ∧ w1.cell? ⟨w.heap.size, 1, none⟩ = some (.int .i64 x.nth)) ∧ (w1.cell? ⟨b, 0, none⟩ = some (.string y.name) ∧ w1.cell? ⟨b, 1, none⟩ = some (.int .i64 y.nth)) ∧ w1.cell? ⟨b, 2, none⟩ = some (.pointer pl) ∧ w1.cell? ⟨b, 3, none⟩ = some (.pointer pr) := (let n1 := node_cells ((hC2.block b hbl).trans Hb.out); ⟨mem_below hC2 hsz hx0, n1.1, n1.2.1, n1.2.2.1⟩); have hs1 : l.size + t1.size ≤ 900000 := (by simp [Tr.size, hL1] at hs hj ⊢; omega); have HL1 := Lib.hid hL1; clear hL1)
          | ((with_reducible refine (balance_T w1 l t1 pl (some ⟨b1, 0, none⟩) y (hl0.ext hC2) ht1 hs1).mono ?_); rintro e w2 ⟨t2, b2, rfl, ht2, hL2, hB2⟩; have hC3 := hC2.trans (hB2.mono hC2.size); have hc3 : (w2.cell? ⟨w.heap.size, 0, none⟩ = some (.string x.name) ∧ w2.cell? ⟨w.heap.size, 1, none⟩ = some (.int .i64 x.nth)) ∧ (w2.cell? ⟨b, 0, none⟩ = some (.string y.name) ∧ w2.cell? ⟨b, 1, none⟩ = some (.int .i64 y.nth)) ∧ w2.cell? ⟨b, 2, none⟩ = some (.pointer pl) ∧ w2.cell? ⟨b, 3, none⟩ = some (.pointer pr) := (let n1 := node_cells ((hC3.block b hbl).trans Hb.out); ⟨mem_below hC3 hsz hx0, n1.1, n1.2.1, n1.2.2.1⟩); have HL2 := Lib.hid hL2; clear hL2)
          | fail "no arm")
      go_wp2_with fail
      go_ret
      exact ⟨t2, b2, rfl, ht2, by rw [HL2.out, HL1.out]; exact take_right _ _ _ _ _, hB0.trans (hC3.mono hB0.size)⟩

end Go.Proofs.Ytmnpcpgdhaplaaa.V

namespace Go.Proofs.Ytmnpcpgdhaplaaa.V
open Go Go.RowKit

theorem at_less {α : Type} (l r : List α) (x y : α) (j : Nat) (h : (l ++ y :: r)[j]? = some x) (hj : j < l.length) : l[j]? = some x := by
  rwa [List.getElem?_append_left hj] at h
theorem at_more {α : Type} (l r : List α) (x y : α) (j : Nat) (h : (l ++ y :: r)[j]? = some x) (hj : l.length < j) : r[j - l.length - 1]? = some x := by
  rw [List.getElem?_append_right (by omega)] at h
  rwa [show j - l.length = (j - l.length - 1) + 1 by omega, List.getElem?_cons_succ] at h
theorem at_here {α : Type} (l r : List α) (x y : α) (h : (l ++ y :: r)[l.length]? = some x) : y = x := by
  rw [List.getElem?_append_right (by omega)] at h
  simpa using h

set_option maxHeartbeats 800000 in
theorem at_T (t : Tr VarV) (w : World) (p : Option Addr) (j : Nat) (x : VarV) (ht : LT w t p) (hx : t.list[j]? = some x) (hs : t.size ≤ 900000) :
    Calls Try.prog 125 #[.pointer p, .int .i64 j] w fun e w' => e = .returned (.agg #[.string x.name, .int .i64 x.nth]) ∧ Below w.heap.size w w' := by
  have hB0 : Below w.heap.size w (w.alloc (.cells #[.string ⟨#[]⟩, .int .i64 0] 121)) := (Below.refl _ w).alloc (Nat.le_refl _) _
  have ht0 := ht.ext hB0
  have Hx := Lib.hid hx
  clear hx
  go_enter Try.func125, Try.ntmps125
  go_wp2_with fail
  go_loopg [0, 1] t.size (fun k n i wr => ∃ (t' : Tr VarV) (p' : Option Addr) (j' : Nat), n = .pointer p' ∧ i = .int .i64 j' ∧ wr = w.alloc (.cells #[.string ⟨#[]⟩, .int .i64 0] 121) ∧ LT wr t' p' ∧ t'.list[j']? = some x ∧ k = t'.size ∧ t'.size ≤ 900000)
  case atStart => exact ⟨t, p, j, rfl, rfl, rfl, ht0, Hx.out, rfl, hs⟩
  case round =>
    obtain ⟨t', p', j', rfl, rfl, rfl, ht', hx', hk, hs'⟩ := hrel
    cases t' with
    | nil => simp [Tr.list] at hx'
    | node l y r =>
      obtain ⟨b, pl, pr, rfl, hb, hl, hr⟩ := ht'
      obtain ⟨c0, c1, c2, -⟩ := node_cells hb
      rw [size_node] at hk hs'
      have hjb : j' ≤ 900000 := by
        have := (List.getElem?_eq_some_iff.1 hx').1
        have := size_node l r y
        unfold Tr.size at *
        omega
      have Hx' := Lib.hid hx'
      have Hk := Lib.hid hk
      clear hb hx' hk
      rcases Nat.lt_trichotomy j' l.size with hlt | heq | hgt
      · go_wp2_with fail
        refine (count_T _ _ _ hl).mono ?_
        rintro e w' ⟨rfl, rfl⟩
        go_wp2_with fail
        go_roundg l.size
        case measure => rw [Hk.out]; omega
        case rel => exact ⟨l, pl, j', rfl, rfl, rfl, hl, at_less _ _ _ _ _ Hx'.out hlt, rfl, by omega⟩
      · have Heq := Lib.hid heq
        have h1 : j' ≤ l.size := by omega
        have h2 : l.size ≤ j' := by omega
        clear heq
        go_wp2_with fail
        refine (count_T _ _ _ hl).mono ?_
        rintro e w' ⟨rfl, rfl⟩
        go_wp2_with fail
        obtain rfl := at_here l.list r.list x y (by rw [show l.list.length = j' from Heq.out.symm]; exact Hx'.out)
        exact bodyPost_ret (v := .agg #[.string y.name, .int .i64 y.nth]) (by simp [results, Try.results125, go_sem]) rfl ⟨rfl, (Below.refl _ w).alloc (Nat.le_refl _) _⟩
      · go_wp2_with fail
        refine (count_T _ _ _ hl).mono ?_
        rintro e w' ⟨rfl, rfl⟩
        go_wp2_with fail
        go_roundg r.size
        case measure => rw [Hk.out]; omega
        case rel => exact ⟨r, pr, j' - l.size - 1, rfl, by rw [show ((j' - l.size - 1 : Nat) : Int) = j' - (l.size + 1) by omega], rfl, hr, at_more _ _ _ _ _ Hx'.out hgt, rfl, by omega⟩
end Go.Proofs.Ytmnpcpgdhaplaaa.V

namespace Go.Proofs.Ytmnpcpgdhaplaaa
end Go.Proofs.Ytmnpcpgdhaplaaa
