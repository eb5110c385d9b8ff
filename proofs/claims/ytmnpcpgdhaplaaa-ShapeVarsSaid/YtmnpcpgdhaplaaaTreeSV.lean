/- What count, weight, link, turnDown, turnUp, balance and insert of a tree's nodes do. Conditions: the trees lie in memory; together at most some 800000 members. -/
import Derived.Test.YtmnpcpgdhaplaaaMg10
namespace Go.Proofs.Ytmnpcpgdhaplaaa.V
open Go Go.RowKit

def nodeC (x : VarV) (pl pr : Option Addr) (n : Nat) : Array Value := #[.string x.name, .int .i64 x.nth, .pointer pl, .pointer pr, .int .i64 n]

abbrev LT (w : World) (t : Tr VarV) (p : Option Addr) : Prop := IsT nodeC 142 w t p

theorem node_cells {w : World} {b : Nat} {x : VarV} {pl pr : Option Addr} {n : Nat} (h : w.heap[b]? = some (.cells (nodeC x pl pr n) 142 (0, 0))) :
    (w.cell? ⟨b, 0, none⟩ = some (.string x.name) ∧ w.cell? ⟨b, 1, none⟩ = some (.int .i64 x.nth)) ∧ w.cell? ⟨b, 2, none⟩ = some (.pointer pl) ∧ w.cell? ⟨b, 3, none⟩ = some (.pointer pr) ∧ w.cell? ⟨b, 4, none⟩ = some (.int .i64 n) := by
  simp [World.cell?, h, nodeC]

theorem mem_below {w w' : World} {B b : Nat} {x : VarV} (hB : Below B w w') (hb : b < B) (h : w.cell? ⟨b, 0, none⟩ = some (.string x.name) ∧ w.cell? ⟨b, 1, none⟩ = some (.int .i64 x.nth)) : w'.cell? ⟨b, 0, none⟩ = some (.string x.name) ∧ w'.cell? ⟨b, 1, none⟩ = some (.int .i64 x.nth) := by
  simp only [← hB.cell (p := ⟨b, _, none⟩) hb] at h
  exact h

theorem mem_new (w : World) (x : VarV) : (w.alloc (.cells #[.string x.name, .int .i64 x.nth] 121)).cell? ⟨w.heap.size, 0, none⟩ = some (.string x.name) ∧ (w.alloc (.cells #[.string x.name, .int .i64 x.nth] 121)).cell? ⟨w.heap.size, 1, none⟩ = some (.int .i64 x.nth) := by
  simp only [World.cell?, heap_alloc_new]
  and_intros <;> rfl

theorem count_T (w : World) (t : Tr VarV) (p : Option Addr) (h : LT w t p) :
    Calls Try.prog 99 #[.pointer p] w fun e w' => e = .returned (.int .i64 t.size) ∧ w = w' := by
  cases t with
  | nil =>
    have h : p = none := h
    subst h
    go_enter Try.func99, Try.ntmps99
    go_wp2
    go_ret
    exact ⟨rfl, rfl⟩
  | node l x r =>
    obtain ⟨b, pl, pr, rfl, hb, _, _⟩ := h
    obtain ⟨-, -, -, h3⟩ := node_cells hb
    rw [size_node]
    clear hb
    go_enter Try.func99, Try.ntmps99
    go_wp2
    go_ret
    exact ⟨by simp, rfl⟩

theorem weight_T (w : World) (t : Tr VarV) (p : Option Addr) (h : LT w t p) (hb : t.size ≤ 1000000) :
    Calls Try.prog 126 #[.pointer p] w fun e w' => e = .returned (.int .i64 ((t.size + 1 : Nat) : Int)) ∧ w = w' := by
  go_enter Try.func126, Try.ntmps126
  go_wp2_with (go_at_call 99; refine (count_T _ _ _ h).mono ?_; rintro e w' ⟨rfl, rfl⟩)
  go_ret
  exact ⟨by simp, rfl⟩

theorem link_new (w : World) (l r : Tr VarV) (pl pr : Option Addr) (x : VarV) (z : Int) (hl : LT w l pl) (hr : LT w r pr) (hz : z = ((l.size + r.size + 1 : Nat) : Int)) :
    LT (w.alloc (.cells #[.string x.name, .int .i64 x.nth, .pointer pl, .pointer pr, .int .i64 z] 142)) (.node l x r) (some ⟨w.heap.size, 0, none⟩) := by
  have hB : Below w.heap.size w (w.alloc (.cells #[.string x.name, .int .i64 x.nth, .pointer pl, .pointer pr, .int .i64 z] 142)) := (Below.refl _ w).alloc (Nat.le_refl _) _
  refine ⟨w.heap.size, pl, pr, rfl, ?_, hl.ext hB, hr.ext hB⟩
  subst hz
  exact heap_alloc_new w _

theorem link_T (w : World) (l r : Tr VarV) (pl pr : Option Addr) (x : VarV) (hl : LT w l pl) (hr : LT w r pr) (hb : l.size + r.size ≤ 1000000) :
    Calls Try.prog 123 #[.pointer pl, .agg #[.string x.name, .int .i64 x.nth], .pointer pr] w fun e w' => ∃ b, e = .returned (.pointer (some ⟨b, 0, none⟩)) ∧ LT w' (.node l x r) (some ⟨b, 0, none⟩) ∧ Below w.heap.size w w' := by
  have hB0 : Below w.heap.size w (w.alloc (.cells #[.string x.name, .int .i64 x.nth] 121)) := (Below.refl _ w).alloc (Nat.le_refl _) _
  have hx0 := mem_new w x
  have hsz : w.heap.size < (w.alloc (.cells #[.string x.name, .int .i64 x.nth] 121)).heap.size := by simp
  go_enter Try.func123, Try.ntmps123
  go_wp2_with fail
  generalize (w.alloc (.cells #[.string x.name, .int .i64 x.nth] 121)) = W0 at hB0 hx0 hsz ⊢
  have hl1 := (hl.ext hB0).ext (Below.refl W0.heap.size W0).drew
  have hr1 := (hr.ext hB0).ext (Below.refl W0.heap.size W0).drew
  go_region_held3 (fun W => W.cell? ⟨w.heap.size, 0, none⟩ = some (.string x.name) ∧ W.cell? ⟨w.heap.size, 1, none⟩ = some (.int .i64 x.nth))
    (first | go_keep | assumption)
    (first
      | ((with_reducible refine (count_T W0.drew l pl hl1).mono ?_); rintro e w1 ⟨rfl, rfl⟩)
      | ((with_reducible refine (count_T W0.drew r pr hr1).mono ?_); rintro e w1 ⟨rfl, rfl⟩)
      | fail "no arm")
  go_wp2_with fail
  go_ret
  exact ⟨_, rfl, (link_new W0 l r pl pr x _ (hl.ext hB0) (hr.ext hB0) (by rw [IntWalk.i64_in ((l.size : Int) + r.size) (by omega), IntWalk.i64_in _ (by omega)]; omega)).ext (Below.refl _ _).drew,
    hB0.trans (((Below.refl W0.heap.size W0).alloc (Nat.le_refl _) _).drew.mono hB0.size)⟩

set_option maxHeartbeats 800000 in
theorem turnDown_A (w : World) (l i o : Tr VarV) (pl pi po : Option Addr) (b : Nat) (x y : VarV) (hl : LT w l pl)
    (hb : w.heap[b]? = some (.cells (nodeC y pi po (i.size + o.size + 1)) 142 (0, 0))) (hi : LT w i pi) (ho : LT w o po)
    (hs : l.size + i.size + o.size ≤ 900000) (hlt : i.size + 1 < 2 * (o.size + 1)) :
    Calls Try.prog 127 #[.pointer pl, .agg #[.string x.name, .int .i64 x.nth], .pointer (some ⟨b, 0, none⟩)] w fun e w' => ∃ b, e = .returned (.pointer (some ⟨b, 0, none⟩)) ∧ LT w' (.node (.node l x i) y o) (some ⟨b, 0, none⟩) ∧ Below w.heap.size w w' := by
  have hB0 : Below w.heap.size w (w.alloc (.cells #[.string x.name, .int .i64 x.nth] 121)) := (Below.refl _ w).alloc (Nat.le_refl _) _
  have hx0 := mem_new w x
  have hsz : w.heap.size < (w.alloc (.cells #[.string x.name, .int .i64 x.nth] 121)).heap.size := by simp
  have hl0 := hl.ext hB0
  have hi0 := hi.ext hB0
  have ho0 := ho.ext hB0
  have hb0 := (hB0.block b (lt_of_block hb)).trans hb
  go_enter Try.func127, Try.ntmps127
  go_wp2_with fail
  generalize (w.alloc (.cells #[.string x.name, .int .i64 x.nth] 121)) = W0 at hB0 hx0 hsz hl0 hi0 ho0 hb0 ⊢
  obtain ⟨c0, c1, c2, -⟩ := node_cells hb0
  have Hb := Lib.hid hb0
  have hblt := lt_of_block hb0
  clear hb hb0
  go_quiet (fail)
  have hC0 := below_drewN W0.heap.size W0 nq
  go_wp2_with fail
  refine (weight_T _ _ _ (hi0.ext hC0) (by omega)).mono ?_
  rintro e w' ⟨rfl, rfl⟩
  go_wp2_with fail
  refine (weight_T _ _ _ (ho0.ext hC0) (by omega)).mono ?_
  rintro e w' ⟨rfl, rfl⟩
  go_wp2_with fail
  have q1 : l.size + i.size ≤ 1000000 := by omega
  have q1' : i.size + l.size ≤ 1000000 := by omega
  have q2 : (Tr.node l x i).size + o.size ≤ 1000000 := by rw [size_node]; omega
  have q2' : o.size + (Tr.node i x l).size ≤ 1000000 := by rw [size_node]; omega
  have hC1 : Below W0.heap.size W0 (W0.drewN (nq + 1)) := below_drewN _ _ _
  go_region_held3 (fun W => (W.cell? ⟨w.heap.size, 0, none⟩ = some (.string x.name) ∧ W.cell? ⟨w.heap.size, 1, none⟩ = some (.int .i64 x.nth)) ∧ (W.cell? ⟨b, 0, none⟩ = some (.string y.name) ∧ W.cell? ⟨b, 1, none⟩ = some (.int .i64 y.nth)))
    (first | go_keep | assumption)
    (first
      | ((with_reducible refine (link_T (W0.drewN (nq + 1)) l i pl pi x (hl0.ext hC1) (hi0.ext hC1) q1).mono ?_); rintro e w1 ⟨b1, rfl, ht1, hb1⟩; have hC2 := hC1.trans (hb1.mono hC1.size); have chC2 : (w1.cell? ⟨w.heap.size, 0, none⟩ = some (.string x.name) ∧ w1.cell? ⟨w.heap.size, 1, none⟩ = some (.int .i64 x.nth)) ∧ (w1.cell? ⟨b, 0, none⟩ = some (.string y.name) ∧ w1.cell? ⟨b, 1, none⟩ = some (.int .i64 y.nth)) := ⟨mem_below hC2 hsz hx0, (node_cells ((hC2.block b hblt).trans Hb.out)).1⟩)
      | ((with_reducible refine (link_T w1 (.node l x i) o (some ⟨b1, 0, none⟩) po y ht1 (ho0.ext hC2) q2).mono ?_); rintro e w2 ⟨b2, rfl, ht2, hb2⟩; have hC3 := hC2.trans (hb2.mono hC2.size); have chC3 : (w2.cell? ⟨w.heap.size, 0, none⟩ = some (.string x.name) ∧ w2.cell? ⟨w.heap.size, 1, none⟩ = some (.int .i64 x.nth)) ∧ (w2.cell? ⟨b, 0, none⟩ = some (.string y.name) ∧ w2.cell? ⟨b, 1, none⟩ = some (.int .i64 y.nth)) := ⟨mem_below hC3 hsz hx0, (node_cells ((hC3.block b hblt).trans Hb.out)).1⟩)
      | fail "no arm")
  go_wp2_with fail
  go_ret
  exact ⟨_, rfl, ht2, hB0.trans (hC3.mono hB0.size)⟩

set_option maxHeartbeats 1600000 in
theorem turnDown_B (w : World) (l ib ia o : Tr VarV) (pl pib pia po : Option Addr) (b bi : Nat) (x y z : VarV) (hl : LT w l pl)
    (hb : w.heap[b]? = some (.cells (nodeC y (some ⟨bi, 0, none⟩) po (ib.size + ia.size + 1 + o.size + 1)) 142 (0, 0)))
    (hbi : w.heap[bi]? = some (.cells (nodeC z pib pia (ib.size + ia.size + 1)) 142 (0, 0))) (hib : LT w ib pib) (hia : LT w ia pia) (ho : LT w o po)
    (hs : l.size + ib.size + ia.size + o.size ≤ 900000) (hlt : ¬ (ib.size + ia.size + 1 + 1 < 2 * (o.size + 1))) :
    Calls Try.prog 127 #[.pointer pl, .agg #[.string x.name, .int .i64 x.nth], .pointer (some ⟨b, 0, none⟩)] w fun e w' => ∃ b, e = .returned (.pointer (some ⟨b, 0, none⟩)) ∧ LT w' (.node (.node l x ib) z (.node ia y o)) (some ⟨b, 0, none⟩) ∧ Below w.heap.size w w' := by
  have hi : LT w (.node ib z ia) (some ⟨bi, 0, none⟩) := ⟨bi, pib, pia, rfl, hbi, hib, hia⟩
  have hsi : (Tr.node ib z ia).size = ib.size + ia.size + 1 := size_node _ _ _
  have hB0 : Below w.heap.size w (w.alloc (.cells #[.string x.name, .int .i64 x.nth] 121)) := (Below.refl _ w).alloc (Nat.le_refl _) _
  have hx0 := mem_new w x
  have hsz : w.heap.size < (w.alloc (.cells #[.string x.name, .int .i64 x.nth] 121)).heap.size := by simp
  have hl0 := hl.ext hB0
  have hib0 := hib.ext hB0
  have hia0 := hia.ext hB0
  have ho0 := ho.ext hB0
  have hi0 := hi.ext hB0
  have hb0 := (hB0.block b (lt_of_block hb)).trans hb
  have hbi0 := (hB0.block bi (lt_of_block hbi)).trans hbi
  go_enter Try.func127, Try.ntmps127
  go_wp2_with fail
  generalize (w.alloc (.cells #[.string x.name, .int .i64 x.nth] 121)) = W0 at hB0 hx0 hsz hl0 hib0 hia0 ho0 hi0 hb0 hbi0 ⊢
  obtain ⟨c0, c1, c2, -⟩ := node_cells hb0
  obtain ⟨d0, d1, d2, -⟩ := node_cells hbi0
  have Hb := Lib.hid hb0
  have hblt := lt_of_block hb0
  have Hbi := Lib.hid hbi0
  have hbilt := lt_of_block hbi0
  clear hb hb0 hbi hbi0
  go_quiet (fail)
  have hC0 := below_drewN W0.heap.size W0 nq
  go_wp2_with fail
  refine (weight_T _ _ _ (hi0.ext hC0) (by omega)).mono ?_
  rintro e w' ⟨rfl, rfl⟩
  go_wp2_with fail
  refine (weight_T _ _ _ (ho0.ext hC0) (by omega)).mono ?_
  rintro e w' ⟨rfl, rfl⟩
  go_wp2_with fail
  have hC1 : Below W0.heap.size W0 (W0.drewN (nq + 1)) := below_drewN _ _ _
  have q1 : l.size + ib.size ≤ 1000000 := by omega
  have q2 : ia.size + o.size ≤ 1000000 := by omega
  have q3 : (Tr.node l x ib).size + (Tr.node ia y o).size ≤ 1000000 := by rw [size_node, size_node]; omega
  go_region_held3 (fun W => (W.cell? ⟨w.heap.size, 0, none⟩ = some (.string x.name) ∧ W.cell? ⟨w.heap.size, 1, none⟩ = some (.int .i64 x.nth)) ∧ (W.cell? ⟨b, 0, none⟩ = some (.string y.name) ∧ W.cell? ⟨b, 1, none⟩ = some (.int .i64 y.nth)) ∧ (W.cell? ⟨bi, 0, none⟩ = some (.string z.name) ∧ W.cell? ⟨bi, 1, none⟩ = some (.int .i64 z.nth)) ∧ W.cell? ⟨bi, 2, none⟩ = some (.pointer pib) ∧ W.cell? ⟨bi, 3, none⟩ = some (.pointer pia))
    (first | go_keep | assumption)
    (first
      | ((with_reducible refine (link_T (W0.drewN (nq + 1)) l ib pl pib x (hl0.ext hC1) (hib0.ext hC1) q1).mono ?_); rintro e w1 ⟨b1, rfl, ht1, hb1⟩; have hC2 := hC1.trans (hb1.mono hC1.size); have chC2 : (w1.cell? ⟨w.heap.size, 0, none⟩ = some (.string x.name) ∧ w1.cell? ⟨w.heap.size, 1, none⟩ = some (.int .i64 x.nth)) ∧ (w1.cell? ⟨b, 0, none⟩ = some (.string y.name) ∧ w1.cell? ⟨b, 1, none⟩ = some (.int .i64 y.nth)) ∧ (w1.cell? ⟨bi, 0, none⟩ = some (.string z.name) ∧ w1.cell? ⟨bi, 1, none⟩ = some (.int .i64 z.nth)) ∧ w1.cell? ⟨bi, 2, none⟩ = some (.pointer pib) ∧ w1.cell? ⟨bi, 3, none⟩ = some (.pointer pia) := (let n1 := node_cells ((hC2.block bi hbilt).trans Hbi.out); ⟨mem_below hC2 hsz hx0, (node_cells ((hC2.block b hblt).trans Hb.out)).1, n1.1, n1.2.1, n1.2.2.1⟩))
      | ((with_reducible refine (link_T w1 ia o pia po y (hia0.ext hC2) (ho0.ext hC2) q2).mono ?_); rintro e w2 ⟨b2, rfl, ht2, hb2⟩; have hC3 := hC2.trans (hb2.mono hC2.size); have chC3 : (w2.cell? ⟨w.heap.size, 0, none⟩ = some (.string x.name) ∧ w2.cell? ⟨w.heap.size, 1, none⟩ = some (.int .i64 x.nth)) ∧ (w2.cell? ⟨b, 0, none⟩ = some (.string y.name) ∧ w2.cell? ⟨b, 1, none⟩ = some (.int .i64 y.nth)) ∧ (w2.cell? ⟨bi, 0, none⟩ = some (.string z.name) ∧ w2.cell? ⟨bi, 1, none⟩ = some (.int .i64 z.nth)) ∧ w2.cell? ⟨bi, 2, none⟩ = some (.pointer pib) ∧ w2.cell? ⟨bi, 3, none⟩ = some (.pointer pia) := (let n1 := node_cells ((hC3.block bi hbilt).trans Hbi.out); ⟨mem_below hC3 hsz hx0, (node_cells ((hC3.block b hblt).trans Hb.out)).1, n1.1, n1.2.1, n1.2.2.1⟩))
      | ((with_reducible refine (link_T w2 (.node l x ib) (.node ia y o) (some ⟨b1, 0, none⟩) (some ⟨b2, 0, none⟩) z (ht1.ext hb2) ht2 q3).mono ?_); rintro e w3 ⟨b3, rfl, ht3, hb3⟩; have hC4 := hC3.trans (hb3.mono hC3.size); have chC4 : (w3.cell? ⟨w.heap.size, 0, none⟩ = some (.string x.name) ∧ w3.cell? ⟨w.heap.size, 1, none⟩ = some (.int .i64 x.nth)) ∧ (w3.cell? ⟨b, 0, none⟩ = some (.string y.name) ∧ w3.cell? ⟨b, 1, none⟩ = some (.int .i64 y.nth)) ∧ (w3.cell? ⟨bi, 0, none⟩ = some (.string z.name) ∧ w3.cell? ⟨bi, 1, none⟩ = some (.int .i64 z.nth)) ∧ w3.cell? ⟨bi, 2, none⟩ = some (.pointer pib) ∧ w3.cell? ⟨bi, 3, none⟩ = some (.pointer pia) := (let n1 := node_cells ((hC4.block bi hbilt).trans Hbi.out); ⟨mem_below hC4 hsz hx0, (node_cells ((hC4.block b hblt).trans Hb.out)).1, n1.1, n1.2.1, n1.2.2.1⟩))
      | fail "no arm")
  go_wp2_with fail
  go_ret
  exact ⟨_, rfl, ht3, hB0.trans (hC4.mono hB0.size)⟩

set_option maxHeartbeats 800000 in
theorem turnUp_A (w : World) (l i o : Tr VarV) (pl pi po : Option Addr) (b : Nat) (x y : VarV) (hl : LT w l pl)
    (hb : w.heap[b]? = some (.cells (nodeC y po pi (o.size + i.size + 1)) 142 (0, 0))) (hi : LT w i pi) (ho : LT w o po)
    (hs : l.size + i.size + o.size ≤ 900000) (hlt : i.size + 1 < 2 * (o.size + 1)) :
    Calls Try.prog 128 #[.pointer (some ⟨b, 0, none⟩), .agg #[.string x.name, .int .i64 x.nth], .pointer pl] w fun e w' => ∃ b, e = .returned (.pointer (some ⟨b, 0, none⟩)) ∧ LT w' (.node o y (.node i x l)) (some ⟨b, 0, none⟩) ∧ Below w.heap.size w w' := by
  have hB0 : Below w.heap.size w (w.alloc (.cells #[.string x.name, .int .i64 x.nth] 121)) := (Below.refl _ w).alloc (Nat.le_refl _) _
  have hx0 := mem_new w x
  have hsz : w.heap.size < (w.alloc (.cells #[.string x.name, .int .i64 x.nth] 121)).heap.size := by simp
  have hl0 := hl.ext hB0
  have hi0 := hi.ext hB0
  have ho0 := ho.ext hB0
  have hb0 := (hB0.block b (lt_of_block hb)).trans hb
  go_enter Try.func128, Try.ntmps128
  go_wp2_with fail
  generalize (w.alloc (.cells #[.string x.name, .int .i64 x.nth] 121)) = W0 at hB0 hx0 hsz hl0 hi0 ho0 hb0 ⊢
  obtain ⟨c0, c1, c2, -⟩ := node_cells hb0
  have Hb := Lib.hid hb0
  have hblt := lt_of_block hb0
  clear hb hb0
  go_quiet (fail)
  have hC0 := below_drewN W0.heap.size W0 nq
  go_wp2_with fail
  refine (weight_T _ _ _ (hi0.ext hC0) (by omega)).mono ?_
  rintro e w' ⟨rfl, rfl⟩
  go_wp2_with fail
  refine (weight_T _ _ _ (ho0.ext hC0) (by omega)).mono ?_
  rintro e w' ⟨rfl, rfl⟩
  go_wp2_with fail
  have q1 : l.size + i.size ≤ 1000000 := by omega
  have q1' : i.size + l.size ≤ 1000000 := by omega
  have q2 : (Tr.node l x i).size + o.size ≤ 1000000 := by rw [size_node]; omega
  have q2' : o.size + (Tr.node i x l).size ≤ 1000000 := by rw [size_node]; omega
  have hC1 : Below W0.heap.size W0 (W0.drewN (nq + 1)) := below_drewN _ _ _
  go_region_held3 (fun W => (W.cell? ⟨w.heap.size, 0, none⟩ = some (.string x.name) ∧ W.cell? ⟨w.heap.size, 1, none⟩ = some (.int .i64 x.nth)) ∧ (W.cell? ⟨b, 0, none⟩ = some (.string y.name) ∧ W.cell? ⟨b, 1, none⟩ = some (.int .i64 y.nth)))
    (first | go_keep | assumption)
    (first
      | ((with_reducible refine (link_T (W0.drewN (nq + 1)) i l pi pl x (hi0.ext hC1) (hl0.ext hC1) q1').mono ?_); rintro e w1 ⟨b1, rfl, ht1, hb1⟩; have hC2 := hC1.trans (hb1.mono hC1.size); have chC2 : (w1.cell? ⟨w.heap.size, 0, none⟩ = some (.string x.name) ∧ w1.cell? ⟨w.heap.size, 1, none⟩ = some (.int .i64 x.nth)) ∧ (w1.cell? ⟨b, 0, none⟩ = some (.string y.name) ∧ w1.cell? ⟨b, 1, none⟩ = some (.int .i64 y.nth)) := ⟨mem_below hC2 hsz hx0, (node_cells ((hC2.block b hblt).trans Hb.out)).1⟩)
      | ((with_reducible refine (link_T w1 o (.node i x l) po (some ⟨b1, 0, none⟩) y (ho0.ext hC2) ht1 q2').mono ?_); rintro e w2 ⟨b2, rfl, ht2, hb2⟩; have hC3 := hC2.trans (hb2.mono hC2.size); have chC3 : (w2.cell? ⟨w.heap.size, 0, none⟩ = some (.string x.name) ∧ w2.cell? ⟨w.heap.size, 1, none⟩ = some (.int .i64 x.nth)) ∧ (w2.cell? ⟨b, 0, none⟩ = some (.string y.name) ∧ w2.cell? ⟨b, 1, none⟩ = some (.int .i64 y.nth)) := ⟨mem_below hC3 hsz hx0, (node_cells ((hC3.block b hblt).trans Hb.out)).1⟩)
      | fail "no arm")
  go_wp2_with fail
  go_ret
  exact ⟨_, rfl, ht2, hB0.trans (hC3.mono hB0.size)⟩

set_option maxHeartbeats 1600000 in
theorem turnUp_B (w : World) (l ib ia o : Tr VarV) (pl pib pia po : Option Addr) (b bi : Nat) (x y z : VarV) (hl : LT w l pl)
    (hb : w.heap[b]? = some (.cells (nodeC y po (some ⟨bi, 0, none⟩) (o.size + (ib.size + ia.size + 1) + 1)) 142 (0, 0)))
    (hbi : w.heap[bi]? = some (.cells (nodeC z pib pia (ib.size + ia.size + 1)) 142 (0, 0))) (hib : LT w ib pib) (hia : LT w ia pia) (ho : LT w o po)
    (hs : l.size + ib.size + ia.size + o.size ≤ 900000) (hlt : ¬ (ib.size + ia.size + 1 + 1 < 2 * (o.size + 1))) :
    Calls Try.prog 128 #[.pointer (some ⟨b, 0, none⟩), .agg #[.string x.name, .int .i64 x.nth], .pointer pl] w fun e w' => ∃ b, e = .returned (.pointer (some ⟨b, 0, none⟩)) ∧ LT w' (.node (.node o y ib) z (.node ia x l)) (some ⟨b, 0, none⟩) ∧ Below w.heap.size w w' := by
  have hi : LT w (.node ib z ia) (some ⟨bi, 0, none⟩) := ⟨bi, pib, pia, rfl, hbi, hib, hia⟩
  have hsi : (Tr.node ib z ia).size = ib.size + ia.size + 1 := size_node _ _ _
  have hB0 : Below w.heap.size w (w.alloc (.cells #[.string x.name, .int .i64 x.nth] 121)) := (Below.refl _ w).alloc (Nat.le_refl _) _
  have hx0 := mem_new w x
  have hsz : w.heap.size < (w.alloc (.cells #[.string x.name, .int .i64 x.nth] 121)).heap.size := by simp
  have hl0 := hl.ext hB0
  have hib0 := hib.ext hB0
  have hia0 := hia.ext hB0
  have ho0 := ho.ext hB0
  have hi0 := hi.ext hB0
  have hb0 := (hB0.block b (lt_of_block hb)).trans hb
  have hbi0 := (hB0.block bi (lt_of_block hbi)).trans hbi
  go_enter Try.func128, Try.ntmps128
  go_wp2_with fail
  generalize (w.alloc (.cells #[.string x.name, .int .i64 x.nth] 121)) = W0 at hB0 hx0 hsz hl0 hib0 hia0 ho0 hi0 hb0 hbi0 ⊢
  obtain ⟨c0, c1, c2, -⟩ := node_cells hb0
  obtain ⟨d0, d1, d2, -⟩ := node_cells hbi0
  have Hb := Lib.hid hb0
  have hblt := lt_of_block hb0
  have Hbi := Lib.hid hbi0
  have hbilt := lt_of_block hbi0
  clear hb hb0 hbi hbi0
  go_quiet (fail)
  have hC0 := below_drewN W0.heap.size W0 nq
  go_wp2_with fail
  refine (weight_T _ _ _ (hi0.ext hC0) (by omega)).mono ?_
  rintro e w' ⟨rfl, rfl⟩
  go_wp2_with fail
  refine (weight_T _ _ _ (ho0.ext hC0) (by omega)).mono ?_
  rintro e w' ⟨rfl, rfl⟩
  go_wp2_with fail
  have hC1 : Below W0.heap.size W0 (W0.drewN (nq + 1)) := below_drewN _ _ _
  have q1 : o.size + ib.size ≤ 1000000 := by omega
  have q2 : ia.size + l.size ≤ 1000000 := by omega
  have q3 : (Tr.node o y ib).size + (Tr.node ia x l).size ≤ 1000000 := by rw [size_node, size_node]; omega
  go_region_held3 (fun W => (W.cell? ⟨w.heap.size, 0, none⟩ = some (.string x.name) ∧ W.cell? ⟨w.heap.size, 1, none⟩ = some (.int .i64 x.nth)) ∧ (W.cell? ⟨b, 0, none⟩ = some (.string y.name) ∧ W.cell? ⟨b, 1, none⟩ = some (.int .i64 y.nth)) ∧ (W.cell? ⟨bi, 0, none⟩ = some (.string z.name) ∧ W.cell? ⟨bi, 1, none⟩ = some (.int .i64 z.nth)) ∧ W.cell? ⟨bi, 2, none⟩ = some (.pointer pib) ∧ W.cell? ⟨bi, 3, none⟩ = some (.pointer pia))
    (first | go_keep | assumption)
    (first
      | ((with_reducible refine (link_T (W0.drewN (nq + 1)) o ib po pib y (ho0.ext hC1) (hib0.ext hC1) q1).mono ?_); rintro e w1 ⟨b1, rfl, ht1, hb1⟩; have hC2 := hC1.trans (hb1.mono hC1.size); have chC2 : (w1.cell? ⟨w.heap.size, 0, none⟩ = some (.string x.name) ∧ w1.cell? ⟨w.heap.size, 1, none⟩ = some (.int .i64 x.nth)) ∧ (w1.cell? ⟨b, 0, none⟩ = some (.string y.name) ∧ w1.cell? ⟨b, 1, none⟩ = some (.int .i64 y.nth)) ∧ (w1.cell? ⟨bi, 0, none⟩ = some (.string z.name) ∧ w1.cell? ⟨bi, 1, none⟩ = some (.int .i64 z.nth)) ∧ w1.cell? ⟨bi, 2, none⟩ = some (.pointer pib) ∧ w1.cell? ⟨bi, 3, none⟩ = some (.pointer pia) := (let n1 := node_cells ((hC2.block bi hbilt).trans Hbi.out); ⟨mem_below hC2 hsz hx0, (node_cells ((hC2.block b hblt).trans Hb.out)).1, n1.1, n1.2.1, n1.2.2.1⟩))
      | ((with_reducible refine (link_T w1 ia l pia pl x (hia0.ext hC2) (hl0.ext hC2) q2).mono ?_); rintro e w2 ⟨b2, rfl, ht2, hb2⟩; have hC3 := hC2.trans (hb2.mono hC2.size); have chC3 : (w2.cell? ⟨w.heap.size, 0, none⟩ = some (.string x.name) ∧ w2.cell? ⟨w.heap.size, 1, none⟩ = some (.int .i64 x.nth)) ∧ (w2.cell? ⟨b, 0, none⟩ = some (.string y.name) ∧ w2.cell? ⟨b, 1, none⟩ = some (.int .i64 y.nth)) ∧ (w2.cell? ⟨bi, 0, none⟩ = some (.string z.name) ∧ w2.cell? ⟨bi, 1, none⟩ = some (.int .i64 z.nth)) ∧ w2.cell? ⟨bi, 2, none⟩ = some (.pointer pib) ∧ w2.cell? ⟨bi, 3, none⟩ = some (.pointer pia) := (let n1 := node_cells ((hC3.block bi hbilt).trans Hbi.out); ⟨mem_below hC3 hsz hx0, (node_cells ((hC3.block b hblt).trans Hb.out)).1, n1.1, n1.2.1, n1.2.2.1⟩))
      | ((with_reducible refine (link_T w2 (.node o y ib) (.node ia x l) (some ⟨b1, 0, none⟩) (some ⟨b2, 0, none⟩) z (ht1.ext hb2) ht2 q3).mono ?_); rintro e w3 ⟨b3, rfl, ht3, hb3⟩; have hC4 := hC3.trans (hb3.mono hC3.size); have chC4 : (w3.cell? ⟨w.heap.size, 0, none⟩ = some (.string x.name) ∧ w3.cell? ⟨w.heap.size, 1, none⟩ = some (.int .i64 x.nth)) ∧ (w3.cell? ⟨b, 0, none⟩ = some (.string y.name) ∧ w3.cell? ⟨b, 1, none⟩ = some (.int .i64 y.nth)) ∧ (w3.cell? ⟨bi, 0, none⟩ = some (.string z.name) ∧ w3.cell? ⟨bi, 1, none⟩ = some (.int .i64 z.nth)) ∧ w3.cell? ⟨bi, 2, none⟩ = some (.pointer pib) ∧ w3.cell? ⟨bi, 3, none⟩ = some (.pointer pia) := (let n1 := node_cells ((hC4.block bi hbilt).trans Hbi.out); ⟨mem_below hC4 hsz hx0, (node_cells ((hC4.block b hblt).trans Hb.out)).1, n1.1, n1.2.1, n1.2.2.1⟩))
      | fail "no arm")
  go_wp2_with fail
  go_ret
  exact ⟨_, rfl, ht3, hB0.trans (hC4.mono hB0.size)⟩

end Go.Proofs.Ytmnpcpgdhaplaaa.V
