/- Entries of a map by letters, a key and a value, and what it means that two are held against each other. Conditions: none.
What count, weight, link, turnDown, turnUp, balance and insert of a tree's nodes do. Conditions: the trees lie in memory; together at most some 800000 members.
What 'at' of a tree's nodes answers. Conditions: the tree lies in memory; the index is in range; at most 900000 members.
What balance, insert and remove of a tree's nodes do, told by the list of its members. Conditions: the trees lie in memory; together at most some 800000 members.
What insert and remove of a tree's nodes do, told by the list of its members. Conditions: the trees lie in memory; at most 800000 members; the index is in range.
What Compare of letters, and of a map's entries by letters, answers. Conditions: none.
What find of a tree's nodes answers. Conditions: the tree lies in memory, its members rise; at most 900000 members.
What Len, Place, Put, Get and At of a set answer. Conditions: the set lies in memory; at most 800000 members.
What remove of a tree's nodes and Drop of a set do. Conditions: the tree, the set lie in memory; at most 800000 members.
What Get, At and New of a set answer. Conditions: the set, the list lie in memory; at most 800000 members.
What Clone and Drop of a set do. Conditions: the set lies in memory; at most 800000 members.
What Get and At of a set answer where there is nothing. Conditions: the set lies in memory; at most 800000 members.
What At of a set answers. Conditions: the set lies in memory; at most 800000 members; the index is in range.
What New of a set answers. Conditions: the list lies in memory; at most 700000 members. -/
import Derived.Test.YtimeamehmefgnaaGreatDoorMgGround
import Derived.Deep.LoopGhost
import Derived.Defers
import Derived.Recover
namespace Go.Proofs.YtimeamehmefgnaaGreatDoor
open Go Go.RowKit

/-- An entry: a letter and a number. -/
structure EntC where
  key : Int
  v : Int

def entCmpC (x y : EntC) : Int := icmp x.key y.key
theorem entCmpC_lin : Lin entCmpC := comap_lin EntC.key icmp_lin

end Go.Proofs.YtimeamehmefgnaaGreatDoor

namespace Go.Proofs.YtimeamehmefgnaaGreatDoor.C
open Go Go.RowKit

def nodeC (x : EntC) (pl pr : Option Addr) (n : Nat) : Array Value := #[.int .u8 x.key, .int .i64 x.v, .pointer pl, .pointer pr, .int .i64 n]

abbrev LT (w : World) (t : Tr EntC) (p : Option Addr) : Prop := IsT nodeC 122 w t p

theorem node_cells {w : World} {b : Nat} {x : EntC} {pl pr : Option Addr} {n : Nat} (h : w.heap[b]? = some (.cells (nodeC x pl pr n) 122 (0, 0))) :
    (w.cell? ⟨b, 0, none⟩ = some (.int .u8 x.key) ∧ w.cell? ⟨b, 1, none⟩ = some (.int .i64 x.v)) ∧ w.cell? ⟨b, 2, none⟩ = some (.pointer pl) ∧ w.cell? ⟨b, 3, none⟩ = some (.pointer pr) ∧ w.cell? ⟨b, 4, none⟩ = some (.int .i64 n) := by
  simp [World.cell?, h, nodeC]

theorem mem_below {w w' : World} {B b : Nat} {x : EntC} (hB : Below B w w') (hb : b < B) (h : w.cell? ⟨b, 0, none⟩ = some (.int .u8 x.key) ∧ w.cell? ⟨b, 1, none⟩ = some (.int .i64 x.v)) : w'.cell? ⟨b, 0, none⟩ = some (.int .u8 x.key) ∧ w'.cell? ⟨b, 1, none⟩ = some (.int .i64 x.v) := by
  simp only [← hB.cell (p := ⟨b, _, none⟩) hb] at h
  exact h

theorem mem_new (w : World) (x : EntC) : (w.alloc (.cells #[.int .u8 x.key, .int .i64 x.v] 79)).cell? ⟨w.heap.size, 0, none⟩ = some (.int .u8 x.key) ∧ (w.alloc (.cells #[.int .u8 x.key, .int .i64 x.v] 79)).cell? ⟨w.heap.size, 1, none⟩ = some (.int .i64 x.v) := by
  simp only [World.cell?, heap_alloc_new]
  and_intros <;> rfl

theorem count_T (w : World) (t : Tr EntC) (p : Option Addr) (h : LT w t p) :
    Calls Tryz.prog 80 #[.pointer p] w fun e w' => e = .returned (.int .i64 t.size) ∧ w = w' := by
  cases t with
  | nil =>
    have h : p = none := h
    subst h
    go_enter Tryz.func80, Tryz.ntmps80
    go_wp2
    go_ret
    exact ⟨rfl, rfl⟩
  | node l x r =>
    obtain ⟨b, pl, pr, rfl, hb, _, _⟩ := h
    obtain ⟨-, -, -, h3⟩ := node_cells hb
    rw [size_node]
    clear hb
    go_enter Tryz.func80, Tryz.ntmps80
    go_wp2
    go_ret
    exact ⟨by simp, rfl⟩

theorem weight_T (w : World) (t : Tr EntC) (p : Option Addr) (h : LT w t p) (hb : t.size ≤ 1000000) :
    Calls Tryz.prog 92 #[.pointer p] w fun e w' => e = .returned (.int .i64 ((t.size + 1 : Nat) : Int)) ∧ w = w' := by
  go_enter Tryz.func92, Tryz.ntmps92
  go_wp2_with (go_at_call 80; refine (count_T _ _ _ h).mono ?_; rintro e w' ⟨rfl, rfl⟩)
  go_ret
  exact ⟨by simp, rfl⟩

theorem link_new (w : World) (l r : Tr EntC) (pl pr : Option Addr) (x : EntC) (z : Int) (hl : LT w l pl) (hr : LT w r pr) (hz : z = ((l.size + r.size + 1 : Nat) : Int)) :
    LT (w.alloc (.cells #[.int .u8 x.key, .int .i64 x.v, .pointer pl, .pointer pr, .int .i64 z] 122)) (.node l x r) (some ⟨w.heap.size, 0, none⟩) := by
  have hB : Below w.heap.size w (w.alloc (.cells #[.int .u8 x.key, .int .i64 x.v, .pointer pl, .pointer pr, .int .i64 z] 122)) := (Below.refl _ w).alloc (Nat.le_refl _) _
  refine ⟨w.heap.size, pl, pr, rfl, ?_, hl.ext hB, hr.ext hB⟩
  subst hz
  exact heap_alloc_new w _

theorem link_T (w : World) (l r : Tr EntC) (pl pr : Option Addr) (x : EntC) (hl : LT w l pl) (hr : LT w r pr) (hb : l.size + r.size ≤ 1000000) :
    Calls Tryz.prog 81 #[.pointer pl, .agg #[.int .u8 x.key, .int .i64 x.v], .pointer pr] w fun e w' => ∃ b, e = .returned (.pointer (some ⟨b, 0, none⟩)) ∧ LT w' (.node l x r) (some ⟨b, 0, none⟩) ∧ Below w.heap.size w w' := by
  have hB0 : Below w.heap.size w (w.alloc (.cells #[.int .u8 x.key, .int .i64 x.v] 79)) := (Below.refl _ w).alloc (Nat.le_refl _) _
  have hx0 := mem_new w x
  have hsz : w.heap.size < (w.alloc (.cells #[.int .u8 x.key, .int .i64 x.v] 79)).heap.size := by simp
  go_enter Tryz.func81, Tryz.ntmps81
  go_wp2_with fail
  generalize (w.alloc (.cells #[.int .u8 x.key, .int .i64 x.v] 79)) = W0 at hB0 hx0 hsz ⊢
  have hl1 := (hl.ext hB0).ext (Below.refl W0.heap.size W0).drew
  have hr1 := (hr.ext hB0).ext (Below.refl W0.heap.size W0).drew
  go_region_held3 (fun W => W.cell? ⟨w.heap.size, 0, none⟩ = some (.int .u8 x.key) ∧ W.cell? ⟨w.heap.size, 1, none⟩ = some (.int .i64 x.v))
    (first | go_keep | assumption)
    (first
      | ((with_reducible refine (count_T W0.drew l pl hl1).mono ?_); rintro e w1 ⟨rfl, rfl⟩)
      | ((with_reducible refine (count_T W0.drew r pr hr1).mono ?_); rintro e w1 ⟨rfl, rfl⟩)
      | fail "no arm")
  go_wp2_with fail
  go_ret
  exact ⟨_, rfl, (link_new W0 l r pl pr x _ (hl.ext hB0) (hr.ext hB0) (by rw [IntWalk.i64_in ((l.size : Int) + r.size) (by omega), IntWalk.i64_in _ (by omega)]; omega)).ext (Below.refl _ _).drew,
    hB0.trans (((Below.refl W0.heap.size W0).alloc (Nat.le_refl _) _).drew.mono hB0.size)⟩

set_option maxHeartbeats 800000 in
theorem turnDown_A (w : World) (l i o : Tr EntC) (pl pi po : Option Addr) (b : Nat) (x y : EntC) (hl : LT w l pl)
    (hb : w.heap[b]? = some (.cells (nodeC y pi po (i.size + o.size + 1)) 122 (0, 0))) (hi : LT w i pi) (ho : LT w o po)
    (hs : l.size + i.size + o.size ≤ 900000) (hlt : i.size + 1 < 2 * (o.size + 1)) :
    Calls Tryz.prog 93 #[.pointer pl, .agg #[.int .u8 x.key, .int .i64 x.v], .pointer (some ⟨b, 0, none⟩)] w fun e w' => ∃ b, e = .returned (.pointer (some ⟨b, 0, none⟩)) ∧ LT w' (.node (.node l x i) y o) (some ⟨b, 0, none⟩) ∧ Below w.heap.size w w' := by
  have hB0 : Below w.heap.size w (w.alloc (.cells #[.int .u8 x.key, .int .i64 x.v] 79)) := (Below.refl _ w).alloc (Nat.le_refl _) _
  have hx0 := mem_new w x
  have hsz : w.heap.size < (w.alloc (.cells #[.int .u8 x.key, .int .i64 x.v] 79)).heap.size := by simp
  have hl0 := hl.ext hB0
  have hi0 := hi.ext hB0
  have ho0 := ho.ext hB0
  have hb0 := (hB0.block b (lt_of_block hb)).trans hb
  go_enter Tryz.func93, Tryz.ntmps93
  go_wp2_with fail
  generalize (w.alloc (.cells #[.int .u8 x.key, .int .i64 x.v] 79)) = W0 at hB0 hx0 hsz hl0 hi0 ho0 hb0 ⊢
  obtain ⟨c0, c1, c2, -⟩ := node_cells hb0
  have Hb := Lib.hid hb0
  have hblt := lt_of_block hb0
  clear hb hb0
  go_quiet (fail)
  have hC0 := below_drewN W0.heap.size W0 nq
  go_wp2_with fail
  refine (weight_T _ _ _ (hi0.ext hC0) (by omega)).mono ?_
  rintro e w' ⟨rfl, rfl⟩
  go_wp2_with fail
  refine (weight_T _ _ _ (ho0.ext hC0) (by omega)).mono ?_
  rintro e w' ⟨rfl, rfl⟩
  go_wp2_with fail
  have q1 : l.size + i.size ≤ 1000000 := by omega
  have q1' : i.size + l.size ≤ 1000000 := by omega
  have q2 : (Tr.node l x i).size + o.size ≤ 1000000 := by rw [size_node]; omega
  have q2' : o.size + (Tr.node i x l).size ≤ 1000000 := by rw [size_node]; omega
  have hC1 : Below W0.heap.size W0 (W0.drewN (nq + 1)) := below_drewN _ _ _
  go_region_held3 (fun W => (W.cell? ⟨w.heap.size, 0, none⟩ = some (.int .u8 x.key) ∧ W.cell? ⟨w.heap.size, 1, none⟩ = some (.int .i64 x.v)) ∧ (W.cell? ⟨b, 0, none⟩ = some (.int .u8 y.key) ∧ W.cell? ⟨b, 1, none⟩ = some (.int .i64 y.v)))
    (first | go_keep | assumption)
    (first
      | ((with_reducible refine (link_T (W0.drewN (nq + 1)) l i pl pi x (hl0.ext hC1) (hi0.ext hC1) q1).mono ?_); rintro e w1 ⟨b1, rfl, ht1, hb1⟩; have hC2 := hC1.trans (hb1.mono hC1.size); have chC2 : (w1.cell? ⟨w.heap.size, 0, none⟩ = some (.int .u8 x.key) ∧ w1.cell? ⟨w.heap.size, 1, none⟩ = some (.int .i64 x.v)) ∧ (w1.cell? ⟨b, 0, none⟩ = some (.int .u8 y.key) ∧ w1.cell? ⟨b, 1, none⟩ = some (.int .i64 y.v)) := ⟨mem_below hC2 hsz hx0, (node_cells ((hC2.block b hblt).trans Hb.out)).1⟩)
      | ((with_reducible refine (link_T w1 (.node l x i) o (some ⟨b1, 0, none⟩) po y ht1 (ho0.ext hC2) q2).mono ?_); rintro e w2 ⟨b2, rfl, ht2, hb2⟩; have hC3 := hC2.trans (hb2.mono hC2.size); have chC3 : (w2.cell? ⟨w.heap.size, 0, none⟩ = some (.int .u8 x.key) ∧ w2.cell? ⟨w.heap.size, 1, none⟩ = some (.int .i64 x.v)) ∧ (w2.cell? ⟨b, 0, none⟩ = some (.int .u8 y.key) ∧ w2.cell? ⟨b, 1, none⟩ = some (.int .i64 y.v)) := ⟨mem_below hC3 hsz hx0, (node_cells ((hC3.block b hblt).trans Hb.out)).1⟩)
      | fail "no arm")
  go_wp2_with fail
  go_ret
  exact ⟨_, rfl, ht2, hB0.trans (hC3.mono hB0.size)⟩

set_option maxHeartbeats 1600000 in
theorem turnDown_B (w : World) (l ib ia o : Tr EntC) (pl pib pia po : Option Addr) (b bi : Nat) (x y z : EntC) (hl : LT w l pl)
    (hb : w.heap[b]? = some (.cells (nodeC y (some ⟨bi, 0, none⟩) po (ib.size + ia.size + 1 + o.size + 1)) 122 (0, 0)))
    (hbi : w.heap[bi]? = some (.cells (nodeC z pib pia (ib.size + ia.size + 1)) 122 (0, 0))) (hib : LT w ib pib) (hia : LT w ia pia) (ho : LT w o po)
    (hs : l.size + ib.size + ia.size + o.size ≤ 900000) (hlt : ¬ (ib.size + ia.size + 1 + 1 < 2 * (o.size + 1))) :
    Calls Tryz.prog 93 #[.pointer pl, .agg #[.int .u8 x.key, .int .i64 x.v], .pointer (some ⟨b, 0, none⟩)] w fun e w' => ∃ b, e = .returned (.pointer (some ⟨b, 0, none⟩)) ∧ LT w' (.node (.node l x ib) z (.node ia y o)) (some ⟨b, 0, none⟩) ∧ Below w.heap.size w w' := by
  have hi : LT w (.node ib z ia) (some ⟨bi, 0, none⟩) := ⟨bi, pib, pia, rfl, hbi, hib, hia⟩
  have hsi : (Tr.node ib z ia).size = ib.size + ia.size + 1 := size_node _ _ _
  have hB0 : Below w.heap.size w (w.alloc (.cells #[.int .u8 x.key, .int .i64 x.v] 79)) := (Below.refl _ w).alloc (Nat.le_refl _) _
  have hx0 := mem_new w x
  have hsz : w.heap.size < (w.alloc (.cells #[.int .u8 x.key, .int .i64 x.v] 79)).heap.size := by simp
  have hl0 := hl.ext hB0
  have hib0 := hib.ext hB0
  have hia0 := hia.ext hB0
  have ho0 := ho.ext hB0
  have hi0 := hi.ext hB0
  have hb0 := (hB0.block b (lt_of_block hb)).trans hb
  have hbi0 := (hB0.block bi (lt_of_block hbi)).trans hbi
  go_enter Tryz.func93, Tryz.ntmps93
  go_wp2_with fail
  generalize (w.alloc (.cells #[.int .u8 x.key, .int .i64 x.v] 79)) = W0 at hB0 hx0 hsz hl0 hib0 hia0 ho0 hi0 hb0 hbi0 ⊢
  obtain ⟨c0, c1, c2, -⟩ := node_cells hb0
  obtain ⟨d0, d1, d2, -⟩ := node_cells hbi0
  have Hb := Lib.hid hb0
  have hblt := lt_of_block hb0
  have Hbi := Lib.hid hbi0
  have hbilt := lt_of_block hbi0
  clear hb hb0 hbi hbi0
  go_quiet (fail)
  have hC0 := below_drewN W0.heap.size W0 nq
  go_wp2_with fail
  refine (weight_T _ _ _ (hi0.ext hC0) (by omega)).mono ?_
  rintro e w' ⟨rfl, rfl⟩
  go_wp2_with fail
  refine (weight_T _ _ _ (ho0.ext hC0) (by omega)).mono ?_
  rintro e w' ⟨rfl, rfl⟩
  go_wp2_with fail
  have hC1 : Below W0.heap.size W0 (W0.drewN (nq + 1)) := below_drewN _ _ _
  have q1 : l.size + ib.size ≤ 1000000 := by omega
  have q2 : ia.size + o.size ≤ 1000000 := by omega
  have q3 : (Tr.node l x ib).size + (Tr.node ia y o).size ≤ 1000000 := by rw [size_node, size_node]; omega
  go_region_held3 (fun W => (W.cell? ⟨w.heap.size, 0, none⟩ = some (.int .u8 x.key) ∧ W.cell? ⟨w.heap.size, 1, none⟩ = some (.int .i64 x.v)) ∧ (W.cell? ⟨b, 0, none⟩ = some (.int .u8 y.key) ∧ W.cell? ⟨b, 1, none⟩ = some (.int .i64 y.v)) ∧ (W.cell? ⟨bi, 0, none⟩ = some (.int .u8 z.key) ∧ W.cell? ⟨bi, 1, none⟩ = some (.int .i64 z.v)) ∧ W.cell? ⟨bi, 2, none⟩ = some (.pointer pib) ∧ W.cell? ⟨bi, 3, none⟩ = some (.pointer pia))
    (first | go_keep | assumption)
    (first
      | ((with_reducible refine (link_T (W0.drewN (nq + 1)) l ib pl pib x (hl0.ext hC1) (hib0.ext hC1) q1).mono ?_); rintro e w1 ⟨b1, rfl, ht1, hb1⟩; have hC2 := hC1.trans (hb1.mono hC1.size); have chC2 : (w1.cell? ⟨w.heap.size, 0, none⟩ = some (.int .u8 x.key) ∧ w1.cell? ⟨w.heap.size, 1, none⟩ = some (.int .i64 x.v)) ∧ (w1.cell? ⟨b, 0, none⟩ = some (.int .u8 y.key) ∧ w1.cell? ⟨b, 1, none⟩ = some (.int .i64 y.v)) ∧ (w1.cell? ⟨bi, 0, none⟩ = some (.int .u8 z.key) ∧ w1.cell? ⟨bi, 1, none⟩ = some (.int .i64 z.v)) ∧ w1.cell? ⟨bi, 2, none⟩ = some (.pointer pib) ∧ w1.cell? ⟨bi, 3, none⟩ = some (.pointer pia) := (let n1 := node_cells ((hC2.block bi hbilt).trans Hbi.out); ⟨mem_below hC2 hsz hx0, (node_cells ((hC2.block b hblt).trans Hb.out)).1, n1.1, n1.2.1, n1.2.2.1⟩))
      | ((with_reducible refine (link_T w1 ia o pia po y (hia0.ext hC2) (ho0.ext hC2) q2).mono ?_); rintro e w2 ⟨b2, rfl, ht2, hb2⟩; have hC3 := hC2.trans (hb2.mono hC2.size); have chC3 : (w2.cell? ⟨w.heap.size, 0, none⟩ = some (.int .u8 x.key) ∧ w2.cell? ⟨w.heap.size, 1, none⟩ = some (.int .i64 x.v)) ∧ (w2.cell? ⟨b, 0, none⟩ = some (.int .u8 y.key) ∧ w2.cell? ⟨b, 1, none⟩ = some (.int .i64 y.v)) ∧ (w2.cell? ⟨bi, 0, none⟩ = some (.int .u8 z.key) ∧ w2.cell? ⟨bi, 1, none⟩ = some (.int .i64 z.v)) ∧ w2.cell? ⟨bi, 2, none⟩ = some (.pointer pib) ∧ w2.cell? ⟨bi, 3, none⟩ = some (.pointer pia) := (let n1 := node_cells ((hC3.block bi hbilt).trans Hbi.out); ⟨mem_below hC3 hsz hx0, (node_cells ((hC3.block b hblt).trans Hb.out)).1, n1.1, n1.2.1, n1.2.2.1⟩))
      | ((with_reducible refine (link_T w2 (.node l x ib) (.node ia y o) (some ⟨b1, 0, none⟩) (some ⟨b2, 0, none⟩) z (ht1.ext hb2) ht2 q3).mono ?_); rintro e w3 ⟨b3, rfl, ht3, hb3⟩; have hC4 := hC3.trans (hb3.mono hC3.size); have chC4 : (w3.cell? ⟨w.heap.size, 0, none⟩ = some (.int .u8 x.key) ∧ w3.cell? ⟨w.heap.size, 1, none⟩ = some (.int .i64 x.v)) ∧ (w3.cell? ⟨b, 0, none⟩ = some (.int .u8 y.key) ∧ w3.cell? ⟨b, 1, none⟩ = some (.int .i64 y.v)) ∧ (w3.cell? ⟨bi, 0, none⟩ = some (.int .u8 z.key) ∧ w3.cell? ⟨bi, 1, none⟩ = some (.int .i64 z.v)) ∧ w3.cell? ⟨bi, 2, none⟩ = some (.pointer pib) ∧ w3.cell? ⟨bi, 3, none⟩ = some (.pointer pia) := (let n1 := node_cells ((hC4.block bi hbilt).trans Hbi.out); ⟨mem_below hC4 hsz hx0, (node_cells ((hC4.block b hblt).trans Hb.out)).1, n1.1, n1.2.1, n1.2.2.1⟩))
      | fail "no arm")
  go_wp2_with fail
  go_ret
  exact ⟨_, rfl, ht3, hB0.trans (hC4.mono hB0.size)⟩

set_option maxHeartbeats 800000 in
theorem turnUp_A (w : World) (l i o : Tr EntC) (pl pi po : Option Addr) (b : Nat) (x y : EntC) (hl : LT w l pl)
    (hb : w.heap[b]? = some (.cells (nodeC y po pi (o.size + i.size + 1)) 122 (0, 0))) (hi : LT w i pi) (ho : LT w o po)
    (hs : l.size + i.size + o.size ≤ 900000) (hlt : i.size + 1 < 2 * (o.size + 1)) :
    Calls Tryz.prog 94 #[.pointer (some ⟨b, 0, none⟩), .agg #[.int .u8 x.key, .int .i64 x.v], .pointer pl] w fun e w' => ∃ b, e = .returned (.pointer (some ⟨b, 0, none⟩)) ∧ LT w' (.node o y (.node i x l)) (some ⟨b, 0, none⟩) ∧ Below w.heap.size w w' := by
  have hB0 : Below w.heap.size w (w.alloc (.cells #[.int .u8 x.key, .int .i64 x.v] 79)) := (Below.refl _ w).alloc (Nat.le_refl _) _
  have hx0 := mem_new w x
  have hsz : w.heap.size < (w.alloc (.cells #[.int .u8 x.key, .int .i64 x.v] 79)).heap.size := by simp
  have hl0 := hl.ext hB0
  have hi0 := hi.ext hB0
  have ho0 := ho.ext hB0
  have hb0 := (hB0.block b (lt_of_block hb)).trans hb
  go_enter Tryz.func94, Tryz.ntmps94
  go_wp2_with fail
  generalize (w.alloc (.cells #[.int .u8 x.key, .int .i64 x.v] 79)) = W0 at hB0 hx0 hsz hl0 hi0 ho0 hb0 ⊢
  obtain ⟨c0, c1, c2, -⟩ := node_cells hb0
  have Hb := Lib.hid hb0
  have hblt := lt_of_block hb0
  clear hb hb0
  go_quiet (fail)
  have hC0 := below_drewN W0.heap.size W0 nq
  go_wp2_with fail
  refine (weight_T _ _ _ (hi0.ext hC0) (by omega)).mono ?_
  rintro e w' ⟨rfl, rfl⟩
  go_wp2_with fail
  refine (weight_T _ _ _ (ho0.ext hC0) (by omega)).mono ?_
  rintro e w' ⟨rfl, rfl⟩
  go_wp2_with fail
  have q1 : l.size + i.size ≤ 1000000 := by omega
  have q1' : i.size + l.size ≤ 1000000 := by omega
  have q2 : (Tr.node l x i).size + o.size ≤ 1000000 := by rw [size_node]; omega
  have q2' : o.size + (Tr.node i x l).size ≤ 1000000 := by rw [size_node]; omega
  have hC1 : Below W0.heap.size W0 (W0.drewN (nq + 1)) := below_drewN _ _ _
  go_region_held3 (fun W => (W.cell? ⟨w.heap.size, 0, none⟩ = some (.int .u8 x.key) ∧ W.cell? ⟨w.heap.size, 1, none⟩ = some (.int .i64 x.v)) ∧ (W.cell? ⟨b, 0, none⟩ = some (.int .u8 y.key) ∧ W.cell? ⟨b, 1, none⟩ = some (.int .i64 y.v)))
    (first | go_keep | assumption)
    (first
      | ((with_reducible refine (link_T (W0.drewN (nq + 1)) i l pi pl x (hi0.ext hC1) (hl0.ext hC1) q1').mono ?_); rintro e w1 ⟨b1, rfl, ht1, hb1⟩; have hC2 := hC1.trans (hb1.mono hC1.size); have chC2 : (w1.cell? ⟨w.heap.size, 0, none⟩ = some (.int .u8 x.key) ∧ w1.cell? ⟨w.heap.size, 1, none⟩ = some (.int .i64 x.v)) ∧ (w1.cell? ⟨b, 0, none⟩ = some (.int .u8 y.key) ∧ w1.cell? ⟨b, 1, none⟩ = some (.int .i64 y.v)) := ⟨mem_below hC2 hsz hx0, (node_cells ((hC2.block b hblt).trans Hb.out)).1⟩)
      | ((with_reducible refine (link_T w1 o (.node i x l) po (some ⟨b1, 0, none⟩) y (ho0.ext hC2) ht1 q2').mono ?_); rintro e w2 ⟨b2, rfl, ht2, hb2⟩; have hC3 := hC2.trans (hb2.mono hC2.size); have chC3 : (w2.cell? ⟨w.heap.size, 0, none⟩ = some (.int .u8 x.key) ∧ w2.cell? ⟨w.heap.size, 1, none⟩ = some (.int .i64 x.v)) ∧ (w2.cell? ⟨b, 0, none⟩ = some (.int .u8 y.key) ∧ w2.cell? ⟨b, 1, none⟩ = some (.int .i64 y.v)) := ⟨mem_below hC3 hsz hx0, (node_cells ((hC3.block b hblt).trans Hb.out)).1⟩)
      | fail "no arm")
  go_wp2_with fail
  go_ret
  exact ⟨_, rfl, ht2, hB0.trans (hC3.mono hB0.size)⟩

set_option maxHeartbeats 1600000 in
theorem turnUp_B (w : World) (l ib ia o : Tr EntC) (pl pib pia po : Option Addr) (b bi : Nat) (x y z : EntC) (hl : LT w l pl)
    (hb : w.heap[b]? = some (.cells (nodeC y po (some ⟨bi, 0, none⟩) (o.size + (ib.size + ia.size + 1) + 1)) 122 (0, 0)))
    (hbi : w.heap[bi]? = some (.cells (nodeC z pib pia (ib.size + ia.size + 1)) 122 (0, 0))) (hib : LT w ib pib) (hia : LT w ia pia) (ho : LT w o po)
    (hs : l.size + ib.size + ia.size + o.size ≤ 900000) (hlt : ¬ (ib.size + ia.size + 1 + 1 < 2 * (o.size + 1))) :
    Calls Tryz.prog 94 #[.pointer (some ⟨b, 0, none⟩), .agg #[.int .u8 x.key, .int .i64 x.v], .pointer pl] w fun e w' => ∃ b, e = .returned (.pointer (some ⟨b, 0, none⟩)) ∧ LT w' (.node (.node o y ib) z (.node ia x l)) (some ⟨b, 0, none⟩) ∧ Below w.heap.size w w' := by
  have hi : LT w (.node ib z ia) (some ⟨bi, 0, none⟩) := ⟨bi, pib, pia, rfl, hbi, hib, hia⟩
  have hsi : (Tr.node ib z ia).size = ib.size + ia.size + 1 := size_node _ _ _
  have hB0 : Below w.heap.size w (w.alloc (.cells #[.int .u8 x.key, .int .i64 x.v] 79)) := (Below.refl _ w).alloc (Nat.le_refl _) _
  have hx0 := mem_new w x
  have hsz : w.heap.size < (w.alloc (.cells #[.int .u8 x.key, .int .i64 x.v] 79)).heap.size := by simp
  have hl0 := hl.ext hB0
  have hib0 := hib.ext hB0
  have hia0 := hia.ext hB0
  have ho0 := ho.ext hB0
  have hi0 := hi.ext hB0
  have hb0 := (hB0.block b (lt_of_block hb)).trans hb
  have hbi0 := (hB0.block bi (lt_of_block hbi)).trans hbi
  go_enter Tryz.func94, Tryz.ntmps94
  go_wp2_with fail
  generalize (w.alloc (.cells #[.int .u8 x.key, .int .i64 x.v] 79)) = W0 at hB0 hx0 hsz hl0 hib0 hia0 ho0 hi0 hb0 hbi0 ⊢
  obtain ⟨c0, c1, c2, -⟩ := node_cells hb0
  obtain ⟨d0, d1, d2, -⟩ := node_cells hbi0
  have Hb := Lib.hid hb0
  have hblt := lt_of_block hb0
  have Hbi := Lib.hid hbi0
  have hbilt := lt_of_block hbi0
  clear hb hb0 hbi hbi0
  go_quiet (fail)
  have hC0 := below_drewN W0.heap.size W0 nq
  go_wp2_with fail
  refine (weight_T _ _ _ (hi0.ext hC0) (by omega)).mono ?_
  rintro e w' ⟨rfl, rfl⟩
  go_wp2_with fail
  refine (weight_T _ _ _ (ho0.ext hC0) (by omega)).mono ?_
  rintro e w' ⟨rfl, rfl⟩
  go_wp2_with fail
  have hC1 : Below W0.heap.size W0 (W0.drewN (nq + 1)) := below_drewN _ _ _
  have q1 : o.size + ib.size ≤ 1000000 := by omega
  have q2 : ia.size + l.size ≤ 1000000 := by omega
  have q3 : (Tr.node o y ib).size + (Tr.node ia x l).size ≤ 1000000 := by rw [size_node, size_node]; omega
  go_region_held3 (fun W => (W.cell? ⟨w.heap.size, 0, none⟩ = some (.int .u8 x.key) ∧ W.cell? ⟨w.heap.size, 1, none⟩ = some (.int .i64 x.v)) ∧ (W.cell? ⟨b, 0, none⟩ = some (.int .u8 y.key) ∧ W.cell? ⟨b, 1, none⟩ = some (.int .i64 y.v)) ∧ (W.cell? ⟨bi, 0, none⟩ = some (.int .u8 z.key) ∧ W.cell? ⟨bi, 1, none⟩ = some (.int .i64 z.v)) ∧ W.cell? ⟨bi, 2, none⟩ = some (.pointer pib) ∧ W.cell? ⟨bi, 3, none⟩ = some (.pointer pia))
    (first | go_keep | assumption)
    (first
      | ((with_reducible refine (link_T (W0.drewN (nq + 1)) o ib po pib y (ho0.ext hC1) (hib0.ext hC1) q1).mono ?_); rintro e w1 ⟨b1, rfl, ht1, hb1⟩; have hC2 := hC1.trans (hb1.mono hC1.size); have chC2 : (w1.cell? ⟨w.heap.size, 0, none⟩ = some (.int .u8 x.key) ∧ w1.cell? ⟨w.heap.size, 1, none⟩ = some (.int .i64 x.v)) ∧ (w1.cell? ⟨b, 0, none⟩ = some (.int .u8 y.key) ∧ w1.cell? ⟨b, 1, none⟩ = some (.int .i64 y.v)) ∧ (w1.cell? ⟨bi, 0, none⟩ = some (.int .u8 z.key) ∧ w1.cell? ⟨bi, 1, none⟩ = some (.int .i64 z.v)) ∧ w1.cell? ⟨bi, 2, none⟩ = some (.pointer pib) ∧ w1.cell? ⟨bi, 3, none⟩ = some (.pointer pia) := (let n1 := node_cells ((hC2.block bi hbilt).trans Hbi.out); ⟨mem_below hC2 hsz hx0, (node_cells ((hC2.block b hblt).trans Hb.out)).1, n1.1, n1.2.1, n1.2.2.1⟩))
      | ((with_reducible refine (link_T w1 ia l pia pl x (hia0.ext hC2) (hl0.ext hC2) q2).mono ?_); rintro e w2 ⟨b2, rfl, ht2, hb2⟩; have hC3 := hC2.trans (hb2.mono hC2.size); have chC3 : (w2.cell? ⟨w.heap.size, 0, none⟩ = some (.int .u8 x.key) ∧ w2.cell? ⟨w.heap.size, 1, none⟩ = some (.int .i64 x.v)) ∧ (w2.cell? ⟨b, 0, none⟩ = some (.int .u8 y.key) ∧ w2.cell? ⟨b, 1, none⟩ = some (.int .i64 y.v)) ∧ (w2.cell? ⟨bi, 0, none⟩ = some (.int .u8 z.key) ∧ w2.cell? ⟨bi, 1, none⟩ = some (.int .i64 z.v)) ∧ w2.cell? ⟨bi, 2, none⟩ = some (.pointer pib) ∧ w2.cell? ⟨bi, 3, none⟩ = some (.pointer pia) := (let n1 := node_cells ((hC3.block bi hbilt).trans Hbi.out); ⟨mem_below hC3 hsz hx0, (node_cells ((hC3.block b hblt).trans Hb.out)).1, n1.1, n1.2.1, n1.2.2.1⟩))
      | ((with_reducible refine (link_T w2 (.node o y ib) (.node ia x l) (some ⟨b1, 0, none⟩) (some ⟨b2, 0, none⟩) z (ht1.ext hb2) ht2 q3).mono ?_); rintro e w3 ⟨b3, rfl, ht3, hb3⟩; have hC4 := hC3.trans (hb3.mono hC3.size); have chC4 : (w3.cell? ⟨w.heap.size, 0, none⟩ = some (.int .u8 x.key) ∧ w3.cell? ⟨w.heap.size, 1, none⟩ = some (.int .i64 x.v)) ∧ (w3.cell? ⟨b, 0, none⟩ = some (.int .u8 y.key) ∧ w3.cell? ⟨b, 1, none⟩ = some (.int .i64 y.v)) ∧ (w3.cell? ⟨bi, 0, none⟩ = some (.int .u8 z.key) ∧ w3.cell? ⟨bi, 1, none⟩ = some (.int .i64 z.v)) ∧ w3.cell? ⟨bi, 2, none⟩ = some (.pointer pib) ∧ w3.cell? ⟨bi, 3, none⟩ = some (.pointer pia) := (let n1 := node_cells ((hC4.block bi hbilt).trans Hbi.out); ⟨mem_below hC4 hsz hx0, (node_cells ((hC4.block b hblt).trans Hb.out)).1, n1.1, n1.2.1, n1.2.2.1⟩))
      | fail "no arm")
  go_wp2_with fail
  go_ret
  exact ⟨_, rfl, ht3, hB0.trans (hC4.mono hB0.size)⟩

end Go.Proofs.YtimeamehmefgnaaGreatDoor.C

namespace Go.Proofs.YtimeamehmefgnaaGreatDoor.C
open Go Go.RowKit

theorem at_less {α : Type} (l r : List α) (x y : α) (j : Nat) (h : (l ++ y :: r)[j]? = some x) (hj : j < l.length) : l[j]? = some x := by
  rwa [List.getElem?_append_left hj] at h
theorem at_more {α : Type} (l r : List α) (x y : α) (j : Nat) (h : (l ++ y :: r)[j]? = some x) (hj : l.length < j) : r[j - l.length - 1]? = some x := by
  rw [List.getElem?_append_right (by omega)] at h
  rwa [show j - l.length = (j - l.length - 1) + 1 by omega, List.getElem?_cons_succ] at h
theorem at_here {α : Type} (l r : List α) (x y : α) (h : (l ++ y :: r)[l.length]? = some x) : y = x := by
  rw [List.getElem?_append_right (by omega)] at h
  simpa using h

set_option maxHeartbeats 800000 in
theorem at_T (t : Tr EntC) (w : World) (p : Option Addr) (j : Nat) (x : EntC) (ht : LT w t p) (hx : t.list[j]? = some x) (hs : t.size ≤ 900000) :
    Calls Tryz.prog 75 #[.pointer p, .int .i64 j] w fun e w' => e = .returned (.agg #[.int .u8 x.key, .int .i64 x.v]) ∧ Below w.heap.size w w' := by
  have hB0 : Below w.heap.size w (w.alloc (.cells #[.int .u8 0, .int .i64 0] 79)) := (Below.refl _ w).alloc (Nat.le_refl _) _
  have ht0 := ht.ext hB0
  have Hx := Lib.hid hx
  clear hx
  go_enter Tryz.func75, Tryz.ntmps75
  go_wp2_with fail
  go_loopg [0, 1] t.size (fun k n i wr => ∃ (t' : Tr EntC) (p' : Option Addr) (j' : Nat), n = .pointer p' ∧ i = .int .i64 j' ∧ wr = w.alloc (.cells #[.int .u8 0, .int .i64 0] 79) ∧ LT wr t' p' ∧ t'.list[j']? = some x ∧ k = t'.size ∧ t'.size ≤ 900000)
  case atStart => exact ⟨t, p, j, rfl, rfl, rfl, ht0, Hx.out, rfl, hs⟩
  case round =>
    obtain ⟨t', p', j', rfl, rfl, rfl, ht', hx', hk, hs'⟩ := hrel
    cases t' with
    | nil => simp [Tr.list] at hx'
    | node l y r =>
      obtain ⟨b, pl, pr, rfl, hb, hl, hr⟩ := ht'
      obtain ⟨c0, c1, c2, -⟩ := node_cells hb
      rw [size_node] at hk hs'
      have hjb : j' ≤ 900000 := by
        have := (List.getElem?_eq_some_iff.1 hx').1
        have := size_node l r y
        unfold Tr.size at *
        omega
      have Hx' := Lib.hid hx'
      have Hk := Lib.hid hk
      clear hb hx' hk
      rcases Nat.lt_trichotomy j' l.size with hlt | heq | hgt
      · go_wp2_with fail
        refine (count_T _ _ _ hl).mono ?_
        rintro e w' ⟨rfl, rfl⟩
        go_wp2_with fail
        go_roundg l.size
        case measure => rw [Hk.out]; omega
        case rel => exact ⟨l, pl, j', rfl, rfl, rfl, hl, at_less _ _ _ _ _ Hx'.out hlt, rfl, by omega⟩
      · have Heq := Lib.hid heq
        have h1 : j' ≤ l.size := by omega
        have h2 : l.size ≤ j' := by omega
        clear heq
        go_wp2_with fail
        refine (count_T _ _ _ hl).mono ?_
        rintro e w' ⟨rfl, rfl⟩
        go_wp2_with fail
        obtain rfl := at_here l.list r.list x y (by rw [show l.list.length = j' from Heq.out.symm]; exact Hx'.out)
        exact bodyPost_ret (v := .agg #[.int .u8 y.key, .int .i64 y.v]) (by simp [results, Tryz.results75, go_sem]) rfl ⟨rfl, (Below.refl _ w).alloc (Nat.le_refl _) _⟩
      · go_wp2_with fail
        refine (count_T _ _ _ hl).mono ?_
        rintro e w' ⟨rfl, rfl⟩
        go_wp2_with fail
        go_roundg r.size
        case measure => rw [Hk.out]; omega
        case rel => exact ⟨r, pr, j' - l.size - 1, rfl, by rw [show ((j' - l.size - 1 : Nat) : Int) = j' - (l.size + 1) by omega], rfl, hr, at_more _ _ _ _ _ Hx'.out hgt, rfl, by omega⟩
end Go.Proofs.YtimeamehmefgnaaGreatDoor.C

namespace Go.Proofs.YtimeamehmefgnaaGreatDoor.C
open Go Go.RowKit

/-- A new tree has the members L; nothing that was there has changed. -/
def Res (w : World) (L : List EntC) (e : Ending) (w' : World) : Prop :=
  ∃ t b, e = .returned (.pointer (some ⟨b, 0, none⟩)) ∧ LT w' t (some ⟨b, 0, none⟩) ∧ t.list = L ∧ Below w.heap.size w w'

theorem turnDown_T (w : World) (l i o : Tr EntC) (pl pr : Option Addr) (x y : EntC) (hl : LT w l pl) (hr : LT w (.node i y o) pr) (hs : l.size + i.size + o.size ≤ 900000) :
    Calls Tryz.prog 93 #[.pointer pl, .agg #[.int .u8 x.key, .int .i64 x.v], .pointer pr] w (Res w (l.list ++ x :: (i.list ++ y :: o.list))) := by
  obtain ⟨b, pi, po, rfl, hb, hi, ho⟩ := hr
  by_cases hlt : i.size + 1 < 2 * (o.size + 1)
  · refine (turnDown_A w l i o pl pi po b x y hl hb hi ho hs hlt).mono ?_
    rintro e w' ⟨b', rfl, ht, hB⟩
    exact ⟨_, b', rfl, ht, by simp [Tr.list], hB⟩
  · cases i with
    | nil => exact absurd (show (Tr.nil : Tr EntC).size + 1 < 2 * (o.size + 1) by simp [Tr.size, Tr.list]; omega) hlt
    | node ib z ia =>
      rw [size_node] at hlt hs hb
      obtain ⟨bi, pib, pia, rfl, hbi, hib, hia⟩ := hi
      refine (turnDown_B w l ib ia o pl pib pia po b bi x y z hl hb hbi hib hia ho (by omega) hlt).mono ?_
      rintro e w' ⟨b', rfl, ht, hB⟩
      exact ⟨_, b', rfl, ht, by simp [Tr.list], hB⟩

theorem turnUp_T (w : World) (l i o : Tr EntC) (pl pr : Option Addr) (x y : EntC) (hr : LT w l pl) (hl : LT w (.node o y i) pr) (hs : l.size + i.size + o.size ≤ 900000) :
    Calls Tryz.prog 94 #[.pointer pr, .agg #[.int .u8 x.key, .int .i64 x.v], .pointer pl] w (Res w ((o.list ++ y :: i.list) ++ x :: l.list)) := by
  obtain ⟨b, po, pi, rfl, hb, ho, hi⟩ := hl
  by_cases hlt : i.size + 1 < 2 * (o.size + 1)
  · refine (turnUp_A w l i o pl pi po b x y hr hb hi ho hs hlt).mono ?_
    rintro e w' ⟨b', rfl, ht, hB⟩
    exact ⟨_, b', rfl, ht, by simp [Tr.list], hB⟩
  · cases i with
    | nil => exact absurd (show (Tr.nil : Tr EntC).size + 1 < 2 * (o.size + 1) by simp [Tr.size, Tr.list]; omega) hlt
    | node ib z ia =>
      rw [size_node] at hlt hs hb
      obtain ⟨bi, pib, pia, rfl, hbi, hib, hia⟩ := hi
      refine (turnUp_B w l ib ia o pl pib pia po b bi x y z hr hb hbi hib hia ho (by omega) hlt).mono ?_
      rintro e w' ⟨b', rfl, ht, hB⟩
      exact ⟨_, b', rfl, ht, by simp [Tr.list], hB⟩

set_option maxHeartbeats 800000 in
theorem balance_T (w : World) (l r : Tr EntC) (pl pr : Option Addr) (x : EntC) (hl : LT w l pl) (hr : LT w r pr) (hs : l.size + r.size ≤ 900000) :
    Calls Tryz.prog 82 #[.pointer pl, .agg #[.int .u8 x.key, .int .i64 x.v], .pointer pr] w (Res w (l.list ++ x :: r.list)) := by
  have hB0 : Below w.heap.size w (w.alloc (.cells #[.int .u8 x.key, .int .i64 x.v] 79)) := (Below.refl _ w).alloc (Nat.le_refl _) _
  have hx0 := mem_new w x
  have hl0 := hl.ext hB0
  have hr0 := hr.ext hB0
  by_cases h1 : 3 * (l.size + 1) < r.size + 1
  · cases r with
    | nil => simp [Tr.size, Tr.list] at h1
    | node i y o =>
      rw [size_node] at hs
      have hsn := size_node i o y
      go_enter Tryz.func82, Tryz.ntmps82
      go_wp2_with fail
      generalize (w.alloc (.cells #[.int .u8 x.key, .int .i64 x.v] 79)) = W0 at hB0 hx0 hl0 hr0 ⊢
      refine (weight_T _ _ _ hr0 (by omega)).mono ?_
      rintro e w' ⟨rfl, rfl⟩
      go_wp2_with fail
      refine (weight_T _ _ _ hl0 (by omega)).mono ?_
      rintro e w' ⟨rfl, rfl⟩
      go_wp2_with fail
      refine (turnDown_T _ l i o pl pr x y hl0 hr0 (by omega)).mono ?_
      rintro e w' ⟨t, b, rfl, ht, hL, hB⟩
      go_wp2_with fail
      go_ret
      exact ⟨t, b, rfl, ht, hL, hB0.trans (hB.mono hB0.size)⟩
  · by_cases h2 : 3 * (r.size + 1) < l.size + 1
    · cases l with
      | nil => simp [Tr.size, Tr.list] at h2
      | node o y i =>
        rw [size_node] at hs
        have hsn := size_node o i y
        go_enter Tryz.func82, Tryz.ntmps82
        go_wp2_with fail
        generalize (w.alloc (.cells #[.int .u8 x.key, .int .i64 x.v] 79)) = W0 at hB0 hx0 hl0 hr0 ⊢
        refine (weight_T _ _ _ hr0 (by omega)).mono ?_
        rintro e w' ⟨rfl, rfl⟩
        go_wp2_with fail
        refine (weight_T _ _ _ hl0 (by omega)).mono ?_
        rintro e w' ⟨rfl, rfl⟩
        go_wp2_with fail
        refine (weight_T _ _ _ hl0 (by omega)).mono ?_
        rintro e w' ⟨rfl, rfl⟩
        go_wp2_with fail
        refine (weight_T _ _ _ hr0 (by omega)).mono ?_
        rintro e w' ⟨rfl, rfl⟩
        go_wp2_with fail
        refine (turnUp_T _ r i o pr pl x y hr0 hl0 (by omega)).mono ?_
        rintro e w' ⟨t, b, rfl, ht, hL, hB⟩
        go_wp2_with fail
        go_ret
        exact ⟨t, b, rfl, ht, hL, hB0.trans (hB.mono hB0.size)⟩
    · go_enter Tryz.func82, Tryz.ntmps82
      go_wp2_with fail
      generalize (w.alloc (.cells #[.int .u8 x.key, .int .i64 x.v] 79)) = W0 at hB0 hx0 hl0 hr0 ⊢
      refine (weight_T _ _ _ hr0 (by omega)).mono ?_
      rintro e w' ⟨rfl, rfl⟩
      go_wp2_with fail
      refine (weight_T _ _ _ hl0 (by omega)).mono ?_
      rintro e w' ⟨rfl, rfl⟩
      go_wp2_with fail
      refine (weight_T _ _ _ hl0 (by omega)).mono ?_
      rintro e w' ⟨rfl, rfl⟩
      go_wp2_with fail
      refine (weight_T _ _ _ hr0 (by omega)).mono ?_
      rintro e w' ⟨rfl, rfl⟩
      go_wp2_with fail
      refine (link_T _ l r pl pr x hl0 hr0 (by omega)).mono ?_
      rintro e w' ⟨b, rfl, ht, hB⟩
      go_wp2_with fail
      go_ret
      exact ⟨_, b, rfl, ht, rfl, hB0.trans (hB.mono hB0.size)⟩

end Go.Proofs.YtimeamehmefgnaaGreatDoor.C

namespace Go.Proofs.YtimeamehmefgnaaGreatDoor.C
open Go Go.RowKit

theorem insert_nil (w : World) (i : Nat) (z : Int) (x : EntC) : Calls Tryz.prog 70 #[.pointer none, .int .i64 z, .agg #[.int .u8 x.key, .int .i64 x.v]] w (Res w [x]) := by
  have hB0 : Below w.heap.size w (w.alloc (.cells #[.int .u8 x.key, .int .i64 x.v] 79)) := (Below.refl _ w).alloc (Nat.le_refl _) _
  have hx0 := mem_new w x
  go_enter Tryz.func70, Tryz.ntmps70
  go_wp2_with fail
  generalize (w.alloc (.cells #[.int .u8 x.key, .int .i64 x.v] 79)) = W0 at hB0 hx0 ⊢
  refine (link_T W0 .nil .nil none none x rfl rfl (by decide)).mono ?_
  rintro e w' ⟨b, rfl, ht, hB⟩
  go_wp2_with fail
  go_ret
  exact ⟨_, b, rfl, ht, rfl, hB0.trans (hB.mono hB0.size)⟩

theorem take_left {α : Type} (l r : List α) (i : Nat) (x y : α) (h : i ≤ l.length) : (l.take i ++ x :: l.drop i) ++ y :: r = (l ++ y :: r).take i ++ x :: (l ++ y :: r).drop i := by
  rw [List.take_append_of_le_length h, List.drop_append_of_le_length h]; simp

theorem take_right {α : Type} (l r : List α) (j : Nat) (x y : α) : l ++ y :: (r.take j ++ x :: r.drop j) = (l ++ y :: r).take (l.length + 1 + j) ++ x :: (l ++ y :: r).drop (l.length + 1 + j) := by
  rw [show l.length + 1 + j = l.length + (j + 1) by omega, List.take_length_add_append, List.drop_length_add_append]; simp

set_option maxHeartbeats 1600000 in
theorem insert_T (t : Tr EntC) : ∀ (w : World) (p : Option Addr) (i : Nat) (z : Int) (x : EntC), LT w t p → z = i → i ≤ t.size → t.size ≤ 800000 →
    Calls Tryz.prog 70 #[.pointer p, .int .i64 z, .agg #[.int .u8 x.key, .int .i64 x.v]] w (Res w (t.list.take i ++ x :: t.list.drop i)) := by
  induction t with
  | nil =>
    intro w p i z x h hz hi hs
    obtain rfl : p = none := h
    simpa [Tr.list] using insert_nil w i z x
  | node l y r ihl ihr =>
    intro w p i z x h hz hi hs
    obtain ⟨b, pl, pr, rfl, hb, hl, hr⟩ := h
    rw [size_node] at hi hs
    have hB0 : Below w.heap.size w (w.alloc (.cells #[.int .u8 x.key, .int .i64 x.v] 79)) := (Below.refl _ w).alloc (Nat.le_refl _) _
    have hx0 := mem_new w x
    have hsz : w.heap.size < (w.alloc (.cells #[.int .u8 x.key, .int .i64 x.v] 79)).heap.size := by simp
    have hl0 := hl.ext hB0
    have hr0 := hr.ext hB0
    have hb0 := (hB0.block b (lt_of_block hb)).trans hb
    obtain ⟨c0, c1, c2, -⟩ := node_cells hb0
    have hbl : b < (w.alloc (.cells #[.int .u8 x.key, .int .i64 x.v] 79)).heap.size := lt_of_block hb0
    have Hb := Lib.hid hb0
    have Hz := Lib.hid hz
    clear hb hb0
    by_cases hk : i ≤ l.size
    · have hzk : z ≤ l.size := by omega
      clear hz
      go_enter Tryz.func70, Tryz.ntmps70
      go_wp2_with fail
      generalize (w.alloc (.cells #[.int .u8 x.key, .int .i64 x.v] 79)) = W0 at hB0 hx0 hsz hl0 hr0 Hb hbl c0 c1 c2 ⊢
      refine (count_T _ _ _ hl0).mono ?_
      rintro e w' ⟨rfl, rfl⟩
      go_wp2_with fail
      have hC1 : Below W0.heap.size W0 W0.drew := (Below.refl _ W0).drew
      go_region_held3 (fun W => (W.cell? ⟨w.heap.size, 0, none⟩ = some (.int .u8 x.key) ∧ W.cell? ⟨w.heap.size, 1, none⟩ = some (.int .i64 x.v)) ∧ (W.cell? ⟨b, 0, none⟩ = some (.int .u8 y.key) ∧ W.cell? ⟨b, 1, none⟩ = some (.int .i64 y.v)) ∧ W.cell? ⟨b, 2, none⟩ = some (.pointer pl) ∧ W.cell? ⟨b, 3, none⟩ = some (.pointer pr))
        (first | go_keep | assumption)
        (first
          | ((with_reducible refine (ihl W0.drew pl i z x (hl0.ext hC1) Hz.out hk (by omega)).mono ?_); rintro e w1 ⟨t1, b1, rfl, ht1, hL1, hB1⟩; have hC2 := hC1.trans (hB1.mono hC1.size); have hc2 : (w1.cell? ⟨w.heap.size, 0, none⟩ = some (.int .u8 x.key) ∧ w1.cell? ⟨w.heap.size, 1, none⟩ = some (.int .i64 x.v)) ∧ (w1.cell? ⟨b, 0, none⟩ = some (.int .u8 y.key) ∧ w1.cell? ⟨b, 1, none⟩ = some (.int .i64 y.v)) ∧ w1.cell? ⟨b, 2, none⟩ = some (.pointer pl) ∧ w1.cell? ⟨b, 3, none⟩ = some (.pointer pr) := (let n1 := node_cells ((hC2.block b hbl).trans Hb.out); ⟨mem_below hC2 hsz hx0, n1.1, n1.2.1, n1.2.2.1⟩); have hs1 : t1.size + r.size ≤ 900000 := (by simp [Tr.size, hL1] at hs hk ⊢; omega); have HL1 := Lib.hid hL1; clear hL1)
          | ((with_reducible refine (balance_T w1 t1 r (some ⟨b1, 0, none⟩) pr y ht1 (hr0.ext hC2) hs1).mono ?_); rintro e w2 ⟨t2, b2, rfl, ht2, hL2, hB2⟩; have hC3 := hC2.trans (hB2.mono hC2.size); have hc3 : (w2.cell? ⟨w.heap.size, 0, none⟩ = some (.int .u8 x.key) ∧ w2.cell? ⟨w.heap.size, 1, none⟩ = some (.int .i64 x.v)) ∧ (w2.cell? ⟨b, 0, none⟩ = some (.int .u8 y.key) ∧ w2.cell? ⟨b, 1, none⟩ = some (.int .i64 y.v)) ∧ w2.cell? ⟨b, 2, none⟩ = some (.pointer pl) ∧ w2.cell? ⟨b, 3, none⟩ = some (.pointer pr) := (let n1 := node_cells ((hC3.block b hbl).trans Hb.out); ⟨mem_below hC3 hsz hx0, n1.1, n1.2.1, n1.2.2.1⟩); have HL2 := Lib.hid hL2; clear hL2)
          | fail "no arm")
      go_wp2_with fail
      go_ret
      exact ⟨t2, b2, rfl, ht2, by rw [HL2.out, HL1.out]; exact take_left _ _ _ _ _ hk, hB0.trans (hC3.mono hB0.size)⟩
    · obtain ⟨j, rfl⟩ : ∃ j, i = l.size + 1 + j := ⟨i - l.size - 1, by omega⟩
      have hzk : (l.size : Int) < z := by omega
      have hzk2 : z ≤ 800001 := by omega
      have hw1 : IntKind.i64.wrap (z - l.size) = z - l.size := IntWalk.i64_in _ (by omega)
      have hw2 : IntKind.i64.wrap (z - l.size - 1) = z - l.size - 1 := IntWalk.i64_in _ (by omega)
      have Hz2 : Hid (z - l.size - 1 = (j : Int)) := Lib.hid (by omega)
      have hj : j ≤ r.size := by omega
      clear hz hk
      go_enter Tryz.func70, Tryz.ntmps70
      go_wp2_with fail
      generalize (w.alloc (.cells #[.int .u8 x.key, .int .i64 x.v] 79)) = W0 at hB0 hx0 hsz hl0 hr0 Hb hbl c0 c1 c2 ⊢
      refine (count_T _ _ _ hl0).mono ?_
      rintro e w' ⟨rfl, rfl⟩
      go_wp2_with fail
      have hC1 : Below W0.heap.size W0 W0.drew := (Below.refl _ W0).drew
      go_region_held3 (fun W => (W.cell? ⟨w.heap.size, 0, none⟩ = some (.int .u8 x.key) ∧ W.cell? ⟨w.heap.size, 1, none⟩ = some (.int .i64 x.v)) ∧ (W.cell? ⟨b, 0, none⟩ = some (.int .u8 y.key) ∧ W.cell? ⟨b, 1, none⟩ = some (.int .i64 y.v)) ∧ W.cell? ⟨b, 2, none⟩ = some (.pointer pl) ∧ W.cell? ⟨b, 3, none⟩ = some (.pointer pr))
        (first | go_keep | assumption)
        (first
          | ((with_reducible refine (ihr W0.drew pr j _ x (hr0.ext hC1) Hz2.out hj (by omega)).mono ?_); rintro e w1 ⟨t1, b1, rfl, ht1, hL1, hB1⟩; have hC2 := hC1.trans (hB1.mono hC1.size); have hc2 : (w1.cell? ⟨w.heap.size, 0, none⟩ = some (.int .u8 x.key) ∧ w1.cell? ⟨w.heap.size, 1, none⟩ = some (.int .i64 x.v)) ∧ (w1.cell? ⟨b, 0, none⟩ = some (.int .u8 y.key) ∧ w1.cell? ⟨b, 1, none⟩ = some (.int .i64 y.v)) ∧ w1.cell? ⟨b, 2, none⟩ = some (.pointer pl) ∧ w1.cell? ⟨b, 3, none⟩ = some (.pointer pr) := (let n1 := node_cells ((hC2.block b hbl).trans Hb.out); ⟨mem_below hC2 hsz hx0, n1.1, n1.2.1, n1.2.2.1⟩); have hs1 : l.size + t1.size ≤ 900000 := (by simp [Tr.size, hL1] at hs hj ⊢; omega); have HL1 := Lib.hid hL1; clear hL1)
          | ((with_reducible refine (balance_T w1 l t1 pl (some ⟨b1, 0, none⟩) y (hl0.ext hC2) ht1 hs1).mono ?_); rintro e w2 ⟨t2, b2, rfl, ht2, hL2, hB2⟩; have hC3 := hC2.trans (hB2.mono hC2.size); have hc3 : (w2.cell? ⟨w.heap.size, 0, none⟩ = some (.int .u8 x.key) ∧ w2.cell? ⟨w.heap.size, 1, none⟩ = some (.int .i64 x.v)) ∧ (w2.cell? ⟨b, 0, none⟩ = some (.int .u8 y.key) ∧ w2.cell? ⟨b, 1, none⟩ = some (.int .i64 y.v)) ∧ w2.cell? ⟨b, 2, none⟩ = some (.pointer pl) ∧ w2.cell? ⟨b, 3, none⟩ = some (.pointer pr) := (let n1 := node_cells ((hC3.block b hbl).trans Hb.out); ⟨mem_below hC3 hsz hx0, n1.1, n1.2.1, n1.2.2.1⟩); have HL2 := Lib.hid hL2; clear hL2)
          | fail "no arm")
      go_wp2_with fail
      go_ret
      exact ⟨t2, b2, rfl, ht2, by rw [HL2.out, HL1.out]; exact take_right _ _ _ _ _, hB0.trans (hC3.mono hB0.size)⟩

end Go.Proofs.YtimeamehmefgnaaGreatDoor.C

namespace Go.Proofs.YtimeamehmefgnaaGreatDoor
open Go Go.RowKit

set_option maxRecDepth 100000
theorem nan_cap (w : World) (a : Int) : Calls Tryz.prog 131 #[.int .u8 a] w fun e w' => e = .returned (.bool false) ∧ w = w' := by
  go_enter Tryz.func131, Tryz.ntmps131
  go_wp2_with fail
  go_ret
  exact ⟨by simp, rfl⟩

theorem cmp_cap (w : World) (a b : Int) : Calls Tryz.prog 130 #[.int .u8 a, .int .u8 b] w fun e w' => e = .returned (.int .i64 (icmp a b)) ∧ w = w' := by
  go_enter Tryz.func130, Tryz.ntmps130
  go_wp2_with fail
  refine (nan_cap _ _).mono ?_
  rintro e w' ⟨rfl, rfl⟩
  go_wp2_with fail
  refine (nan_cap _ _).mono ?_
  rintro e w' ⟨rfl, rfl⟩
  go_wp2_with fail
  all_goals go_ret
  · have h : a < b := by assumption
    exact ⟨by simp [icmp, h], rfl⟩
  · have h : b < a := by assumption
    exact ⟨by simp [icmp, h, Int.lt_asymm h], rfl⟩
  · have h : b ≤ a := by assumption
    have h' : a ≤ b := by assumption
    exact ⟨by simp [icmp, Int.not_lt.2 h, Int.not_lt.2 h'], rfl⟩

theorem cap_compare (w : World) (a b : Int) : Calls Tryz.prog 129 #[.int .u8 a, .int .u8 b] w fun e w' => e = .returned (.int .i64 (icmp a b)) ∧ w = w' := by
  go_enter Tryz.func129, Tryz.ntmps129
  go_wp2_with fail
  refine (cmp_cap _ _ _).mono ?_
  rintro e w' ⟨rfl, rfl⟩
  go_wp2_with fail
  go_ret
  exact ⟨rfl, rfl⟩

theorem boxes2C (w : World) (x y : EntC) :
    Below w.heap.size w ((w.alloc (.cells #[.int .u8 x.key, .int .i64 x.v] 79)).alloc (.cells #[.int .u8 y.key, .int .i64 y.v] 79)) :=
  ((Below.refl _ w).alloc (Nat.le_refl _) _).alloc (by simp) _

theorem method_cap (a : Int) (w : World) : (method 282 59 (.int .u8 a) "Compare").run Tryz.prog w = .ok (129, .int .u8 a) w := by kernel_rfl

set_option maxHeartbeats 400000 in
theorem ent_compareC (w : World) (x y : EntC) : Calls Tryz.prog 136 #[.agg #[.int .u8 x.key, .int .i64 x.v], .agg #[.int .u8 y.key, .int .i64 y.v]] w
    fun e w' => e = .returned (.int .i64 (entCmpC x y)) ∧ Below w.heap.size w w' := by
  have hB0 := boxes2C w x y
  have hme := method_cap
  go_enter Tryz.func136, Tryz.ntmps136
  go_wp2_with fail
  refine (cap_compare _ x.key y.key).mono ?_
  rintro e w' ⟨rfl, rfl⟩
  go_wp2_with fail
  go_ret
  exact ⟨rfl, hB0⟩

end Go.Proofs.YtimeamehmefgnaaGreatDoor

namespace Go.Proofs.YtimeamehmefgnaaGreatDoor.C
open Go Go.RowKit

theorem idle_T (a b c : Addr) (w : World) :
    CallsD Tryz.prog 79 #[.pointer (some a), .pointer (some b), .pointer (some c)] .returning w fun e u' w' => e = .returned (.tuple #[]) ∧ u' = .returning ∧ w' = w := by
  refine callsD_of_wpS Tryz.func79 rfl fun c₀ cs hu => ?_
  apply wpS_seq
  apply wpS_region
  simp [wpOpsS, go_sem, recoverD, hu, Tryz.ntmps79, Exit.thenS]
  refine wpS_cond (t := false) (by simp [Act.eval, Array.replicate]) ?_
  simp only [Bool.false_eq_true, if_false]
  refine wpS_of_wp (wp_skip ?_)
  cases c₀
  simp_all [bodyPostS, results, Tryz.results79]

/-- What find's loop holds: the parameter's box and the three results' boxes. -/
def FindW (q : Nat) (x : EntC) (c : Int) (W : World) : Prop :=
  W.heap[q]? = some (.cells #[.int .u8 x.key, .int .i64 x.v] 79 (0, 0)) ∧ W.heap[q + 1]? = some (.cells #[.int .i64 c] 3 (0, 0)) ∧
  W.heap[q + 1 + 1]? = some (.cells #[.bool false] 4 (0, 0)) ∧ W.heap[q + 1 + 1 + 1]? = some (.cells #[.bool false] 4 (0, 0))

theorem FindW.start (w : World) (x : EntC) : FindW w.heap.size x 0 ((((w.alloc (.cells #[.int .u8 x.key, .int .i64 x.v] 79)).alloc (.cells #[.int .i64 0] 3)).alloc (.cells #[.bool false] 4)).alloc (.cells #[.bool false] 4)) := by
  refine ⟨?_, ?_, ?_, ?_⟩
  · rw [Below.heap_alloc _ _ _ (by simp; omega), Below.heap_alloc _ _ _ (by simp; omega), Below.heap_alloc _ _ _ (by simp)]; exact heap_alloc_new _ _
  · rw [Below.heap_alloc _ _ _ (by simp <;> omega), Below.heap_alloc _ _ _ (by simp)]; simpa using heap_alloc_new (w.alloc (.cells #[.int .u8 x.key, .int .i64 x.v] 79)) _
  · rw [Below.heap_alloc _ _ _ (by simp)]; simpa using heap_alloc_new ((w.alloc (.cells #[.int .u8 x.key, .int .i64 x.v] 79)).alloc (.cells #[.int .i64 0] 3)) _
  · simpa using heap_alloc_new (((w.alloc (.cells #[.int .u8 x.key, .int .i64 x.v] 79)).alloc (.cells #[.int .i64 0] 3)).alloc (.cells #[.bool false] 4)) _

theorem start_below (w : World) (x : EntC) : Below w.heap.size w ((((w.alloc (.cells #[.int .u8 x.key, .int .i64 x.v] 79)).alloc (.cells #[.int .i64 0] 3)).alloc (.cells #[.bool false] 4)).alloc (.cells #[.bool false] 4)) :=
  ((((Below.refl _ w).alloc (Nat.le_refl _) _).alloc (by simp) _).alloc (by simp; omega) _).alloc (by simp; omega) _

theorem method_compare (a : Int) (b : Int) (w : World) : (method 282 79 (.agg #[.int .u8 a, .int .i64 b]) "Compare").run Tryz.prog w = .ok (136, .agg #[.int .u8 a, .int .i64 b]) w := by kernel_rfl

theorem FindW.below {q : Nat} {x : EntC} {c : Int} {W W' : World} (h : FindW q x c W) (hB : Below W.heap.size W W') : FindW q x c W' := by
  obtain ⟨h0, h1, h2, h3⟩ := h
  exact ⟨(hB.block _ (lt_of_block h0)).trans h0, (hB.block _ (lt_of_block h1)).trans h1, (hB.block _ (lt_of_block h2)).trans h2, (hB.block _ (lt_of_block h3)).trans h3⟩

theorem FindW.put {q : Nat} {x : EntC} {c : Int} {W : World} (h : FindW q x c W) (c' : Int) : FindW q x c' (W.setCell ⟨q + 1, 0, none⟩ (.int .i64 c')).drew := by
  obtain ⟨h0, h1, h2, h3⟩ := h
  refine ⟨?_, one_setCell h1, ?_, ?_⟩
  · exact (Below.heap_setCell _ _ _ _ (by simp)).trans h0
  · exact (Below.heap_setCell _ _ _ _ (by show q + 1 + 1 ≠ q + 1; omega)).trans h2
  · exact (Below.heap_setCell _ _ _ _ (by show q + 1 + 1 + 1 ≠ q + 1; omega)).trans h3

theorem stored {q B : Nat} {c : Int} {x : EntC} {w W : World} (h : FindW q x c W) (hB : Below B w W) (hq : B ≤ q) (v1 v2 v3 : Value) :
    (((W.setCell ⟨q + 1, 0, none⟩ v1).setCell ⟨q + 1 + 1, 0, none⟩ v2).setCell ⟨q + 1 + 1 + 1, 0, none⟩ v3).cell? ⟨q + 1, 0, none⟩ = some v1 ∧
    (((W.setCell ⟨q + 1, 0, none⟩ v1).setCell ⟨q + 1 + 1, 0, none⟩ v2).setCell ⟨q + 1 + 1 + 1, 0, none⟩ v3).cell? ⟨q + 1 + 1, 0, none⟩ = some v2 ∧
    (((W.setCell ⟨q + 1, 0, none⟩ v1).setCell ⟨q + 1 + 1, 0, none⟩ v2).setCell ⟨q + 1 + 1 + 1, 0, none⟩ v3).cell? ⟨q + 1 + 1 + 1, 0, none⟩ = some v3 ∧
    Below B w (((W.setCell ⟨q + 1, 0, none⟩ v1).setCell ⟨q + 1 + 1, 0, none⟩ v2).setCell ⟨q + 1 + 1 + 1, 0, none⟩ v3) := by
  obtain ⟨h0, h1, h2, h3⟩ := h
  refine ⟨?_, ?_, ?_, ((hB.setCell (by show B ≤ q + 1; omega) _).setCell (by show B ≤ q + 1 + 1; omega) _).setCell (by show B ≤ q + 1 + 1 + 1; omega) _⟩
  · refine cell_of_one (t := 3) ?_
    rw [Below.heap_setCell _ _ _ _ (by show q + 1 ≠ q + 1 + 1 + 1; omega), Below.heap_setCell _ _ _ _ (by show q + 1 ≠ q + 1 + 1; omega)]
    exact one_setCell h1
  · refine cell_of_one (t := 4) ?_
    rw [Below.heap_setCell _ _ _ _ (by simp)]
    refine one_setCell (v := .bool false) ?_
    rw [Below.heap_setCell _ _ _ _ (by simp)]
    exact h2
  · refine cell_of_one (t := 4) ?_
    refine one_setCell (v := .bool false) ?_
    rw [Below.heap_setCell _ _ _ _ (by show q + 1 + 1 + 1 ≠ q + 1 + 1; omega), Below.heap_setCell _ _ _ _ (by show q + 1 + 1 + 1 ≠ q + 1; omega)]
    exact h3

set_option maxRecDepth 100000 in
set_option maxHeartbeats 800000 in
theorem find_T (t : Tr EntC) (w : World) (p : Option Addr) (x : EntC) (ht : LT w t p) (hso : Sorted entCmpC t.list) (hs : t.size ≤ 900000) :
    Calls Tryz.prog 69 #[.pointer p, .agg #[.int .u8 x.key, .int .i64 x.v]] w fun e w' => e = .returned (.tuple #[.int .i64 (pos entCmpC t.list x), .bool (has entCmpC t.list x), .bool true]) ∧ Below w.heap.size w w' := by
  have hmf : ∀ (fn : Fn) (first cap : Array Value) (w : World), (Instr.makeFunc fn first cap).run Tryz.prog w = .ok (.func fn first cap) w := fun _ _ _ _ => rfl
  have hme := method_compare
  have hst := Lib.hid (FindW.start w x)
  have hB0 := start_below w x
  have ht0 := ht.ext hB0
  go_enter_defers Tryz.func69, Tryz.ntmps69
  go_wp2_with fail
  go_loopg [0] t.size (fun k n wr => ∃ (t' : Tr EntC) (p' : Option Addr) (c : Nat) (z : Int), n = .pointer p' ∧ LT wr t' p' ∧ Hid (FindW w.heap.size x z wr) ∧ Sorted entCmpC t'.list ∧
    Hid (pos entCmpC t.list x = c + pos entCmpC t'.list x ∧ has entCmpC t.list x = has entCmpC t'.list x ∧ k = t'.size ∧ c + t'.size ≤ t.size ∧ z = c) ∧ Below w.heap.size w wr)
  case atStart => exact ⟨t, p, 0, 0, rfl, ht0, hst, hso, ⟨by simp, rfl, rfl, by simp, rfl⟩, hB0⟩
  case round =>
    obtain ⟨t', p', c, z, rfl, ht', hF, hso', hR, hB⟩ := hrel
    cases t' with
    | nil =>
      obtain rfl : p' = none := ht'
      obtain ⟨f0, f1, f2, f3⟩ := hF.out
      have g1 := cell_of_one f1
      have g2 := cell_of_one f2
      have g3 := cell_of_one f3
      have k1 := free_of_one f1
      have k2 := free_of_one f2
      have k3 := free_of_one f3
      clear f0 f1 f2 f3
      go_wp2_with fail
      refine leaves_cons (f := 79) (args := #[.pointer (some ⟨w.heap.size + 1, 0, none⟩), .pointer (some ⟨w.heap.size + 1 + 1, 0, none⟩), .pointer (some ⟨w.heap.size + 1 + 1 + 1, 0, none⟩)]) (by simp) (by simp [go_sem]) ?_
      refine (idle_T _ _ _ _).mono ?_
      rintro e u' w'' ⟨rfl, rfl, rfl⟩
      obtain ⟨s1, s2, s3, sB⟩ := stored hF.out hB (Nat.le_refl _) (.int .i64 z) (.bool false) (.bool true)
      have hP := hR.out
      generalize ((wr.setCell ⟨w.heap.size + 1, 0, none⟩ (.int .i64 z)).setCell ⟨w.heap.size + 1 + 1, 0, none⟩ (.bool false)).setCell ⟨w.heap.size + 1 + 1 + 1, 0, none⟩ (.bool true) = W at s1 s2 s3 sB ⊢
      simp [Leaves, settle, results, Tryz.results69, go_sem, s1, s2, s3]
      exact ⟨⟨by rw [hP.1, hP.2.2.2.2]; simp [pos, Tr.list], by rw [hP.2.1]; rfl⟩, sB⟩
    | node l y r =>
      obtain ⟨b, pl, pr, rfl, hb, hl, hr⟩ := ht'
      obtain ⟨c0, c1, c2, -⟩ := node_cells hb
      have Hb := Lib.hid hb
      clear hb
      obtain ⟨f0, f1, f2, f3⟩ := hF.out
      have hx0 : wr.cell? ⟨w.heap.size, 0, none⟩ = some (.int .u8 x.key) ∧ wr.cell? ⟨w.heap.size, 1, none⟩ = some (.int .i64 x.v) := by simp [World.cell?, f0]
      clear f0 f1 f2 f3
      go_wp2_with fail
      go_region_held3 (fun W => (W.cell? ⟨w.heap.size, 0, none⟩ = some (.int .u8 x.key) ∧ W.cell? ⟨w.heap.size, 1, none⟩ = some (.int .i64 x.v)) ∧ (W.cell? ⟨b, 0, none⟩ = some (.int .u8 y.key) ∧ W.cell? ⟨b, 1, none⟩ = some (.int .i64 y.v)))
        (first | go_keep | assumption)
        (first
          | ((with_reducible refine (ent_compareC wr.drew x y).mono ?_); rintro e w1 ⟨rfl, hb1⟩; have hC := ((Below.refl _ wr).drew.trans hb1); have hbl := lt_of_block Hb.out; have hF1 := hF.out.below hC; have hh : (w1.cell? ⟨w.heap.size, 0, none⟩ = some (.int .u8 x.key) ∧ w1.cell? ⟨w.heap.size, 1, none⟩ = some (.int .i64 x.v)) ∧ (w1.cell? ⟨b, 0, none⟩ = some (.int .u8 y.key) ∧ w1.cell? ⟨b, 1, none⟩ = some (.int .i64 y.v)) := ⟨mem_below hC (lt_of_block hF.out.1) hx0, mem_below hC hbl c0⟩)
          | fail "no arm")
      have hsz := size_node l r y
      have hk := hR.out
      rw [hsz] at hk
      have Hk := Lib.hid hk
      clear hk hR
      have d1 := (node_cells ((hC.block b hbl).trans Hb.out)).2.1
      have d2 := (node_cells ((hC.block b hbl).trans Hb.out)).2.2.1
      have hl1 := (hl.ext hC)
      have hr1 := (hr.ext hC)
      clear c0 c1 c2
      have hcb : c + l.size + 1 ≤ 900000 := by have := Hk.out.2.2.2; omega
      have hz0 : 0 ≤ z ∧ z + l.size + 1 ≤ 900000 := by have := Hk.out.2.2.2; omega
      rcases Int.lt_trichotomy (entCmpC x y) 0 with hlt | heq | hgt
      · have h1 := pos_lt entCmpC_lin hso' hlt
        have h2 := has_lt entCmpC_lin hso' hlt
        have H12 := Lib.hid (And.intro h1 h2)
        clear h1 h2
        go_wp2_with fail
        go_roundg l.size
        case measure => have := Hk.out.2.2.1; omega
        case rel =>
          refine ⟨l, pl, c, z, rfl, hl1, Lib.hid hF1, sorted_left hso', Lib.hid ⟨?_, ?_, rfl, by have := Hk.out.2.2.2; omega, Hk.out.2.2.2.2⟩, hB.trans (hC.mono hB.size)⟩
          · rw [Hk.out.1]; exact congrArg _ H12.out.1
          · rw [Hk.out.2.1]; exact H12.out.2
      · have h1 := pos_eq entCmpC_lin hso' heq
        have H12 := Lib.hid h1
        have hw1 : IntKind.i64.wrap (z + (l.size : Int)) = z + l.size := IntWalk.i64_in _ (by omega)
        have hz : (entCmpC x y < 0) = False := by rw [heq]; simp
        have hz' : (0 < entCmpC x y) = False := by rw [heq]; simp
        clear h1 heq
        have HF1 := Lib.hid hF1
        obtain ⟨f0, f1, f2, f3⟩ := hF1
        have g1 := cell_of_one f1
        have g2 := cell_of_one f2
        have g3 := cell_of_one f3
        have k1 := free_of_one f1
        have k2 := free_of_one f2
        have k3 := free_of_one f3
        clear f0 f1 f2 f3
        go_wp2_with fail
        refine wp_region_noPanic ?_
        go_region_with (go_at_call 80; refine (count_T _ _ _ (hl1.ext (Below.refl _ _).drew)).mono ?_; rintro e w' ⟨rfl, rfl⟩)
        all_goals refine NoPanic.normal ?_
        all_goals
          go_wp2_with fail
          refine leaves_cons (f := 79) (args := #[.pointer (some ⟨w.heap.size + 1, 0, none⟩), .pointer (some ⟨w.heap.size + 1 + 1, 0, none⟩), .pointer (some ⟨w.heap.size + 1 + 1 + 1, 0, none⟩)]) (by simp) (by simp [go_sem]) ?_
          refine (idle_T _ _ _ _).mono ?_
          rintro e u' w'' ⟨rfl, rfl, rfl⟩
          obtain ⟨s1, s2, s3, sB⟩ := stored HF1.out (hB.trans (hC.mono hB.size)) (Nat.le_refl _) (.int .i64 (z + l.size)) (.bool true) (.bool true)
          have hP := Hk.out
          have hQ := H12.out
          generalize ((w1.setCell ⟨w.heap.size + 1, 0, none⟩ (.int .i64 (z + l.size))).setCell ⟨w.heap.size + 1 + 1, 0, none⟩ (.bool true)).setCell ⟨w.heap.size + 1 + 1 + 1, 0, none⟩ (.bool true) = W at s1 s2 s3 sB ⊢
          simp [Leaves, settle, results, Tryz.results69, go_sem, s1, s2, s3]
          have e1 : pos entCmpC t.list x = c + l.size := hP.1.trans (congrArg (c + ·) hQ.1)
          exact ⟨⟨by rw [e1, hP.2.2.2.2]; simp, hP.2.1.trans hQ.2⟩, sB.drew⟩
      · have h1 := pos_gt entCmpC_lin hso' hgt
        have h2 := has_gt entCmpC_lin hso' hgt
        have H12 := Lib.hid (And.intro h1 h2)
        clear h1 h2
        have hw1 : IntKind.i64.wrap ((l.size : Int) + 1) = (l.size : Int) + 1 := IntWalk.i64_in _ (by omega)
        have hw2 : IntKind.i64.wrap (z + ((l.size : Int) + 1)) = z + ((l.size : Int) + 1) := IntWalk.i64_in _ (by omega)
        have HF1 := Lib.hid hF1
        obtain ⟨f0, f1, f2, f3⟩ := hF1
        have g1 := cell_of_one f1
        have g2 := cell_of_one f2
        have g3 := cell_of_one f3
        have k1 := free_of_one f1
        have k2 := free_of_one f2
        have k3 := free_of_one f3
        clear f0 f1 f2 f3
        go_wp2_with fail
        refine wp_region_noPanic ?_
        go_region_with (go_at_call 80; refine (count_T _ _ _ (hl1.ext (Below.refl _ _).drew)).mono ?_; rintro e w' ⟨rfl, rfl⟩)
        all_goals refine NoPanic.normal ?_
        all_goals
          go_wp2_with fail
          go_roundg r.size
          case measure => have := Hk.out.2.2.1; omega
          case rel =>
            refine ⟨r, pr, c + (l.size + 1), z + (l.size + 1), rfl, (hr1.setCell HF1.out.2.1 (by decide) _).ext (Below.refl _ _).drew, Lib.hid (HF1.out.put _), sorted_right hso', Lib.hid ⟨?_, ?_, rfl, by have := Hk.out.2.2.2; omega, by have := Hk.out.2.2.2.2; omega⟩, (hB.trans (hC.mono hB.size)).trans (((Below.refl w.heap.size w1).setCell (by simp) _).drew)⟩
            · rw [Hk.out.1, show (l.node y r).list = l.list ++ y :: r.list from rfl, H12.out.1, show l.list.length = l.size from rfl]; omega
            · rw [Hk.out.2.1]; exact H12.out.2
end Go.Proofs.YtimeamehmefgnaaGreatDoor.C

namespace Go.Proofs.YtimeamehmefgnaaGreatDoor.C
open Go Go.RowKit

/-- The set in block s has the members L. -/
def SetAt (w : World) (s : Nat) (L : List EntC) : Prop :=
  ∃ t p, w.heap[s]? = some (.cells #[.pointer p] 100 (0, 0)) ∧ LT w t p ∧ t.list = L ∧ Sorted entCmpC L

theorem SetAt.lt {w : World} {s : Nat} {L : List EntC} (h : SetAt w s L) : s < w.heap.size := by
  obtain ⟨t, p, h1, -⟩ := h
  exact lt_of_block h1

theorem SetAt.below {w w' : World} {s : Nat} {L : List EntC} (h : SetAt w s L) (hB : Below w.heap.size w w') : SetAt w' s L := by
  obtain ⟨t, p, h1, h2, h3⟩ := h
  exact ⟨t, p, (hB.block s (lt_of_block h1)).trans h1, h2.ext hB, h3⟩

/-- Another set, or anything of another type, is changed. -/
theorem SetAt.but {w w' : World} {s r : Nat} {L : List EntC} (h : SetAt w s L) (hb : But r w w') (hr : r ≠ s) {c : Array Value} {T : TypeId} {f : Nat × Nat} (ha : w.heap[r]? = some (.cells c T f)) (hT : T ≠ 122) : SetAt w' s L := by
  obtain ⟨t, p, h1, h2, h3⟩ := h
  exact ⟨t, p, (hb.block s (lt_of_block h1) (Ne.symm hr)).trans h1, h2.but hb ha hT, h3⟩

theorem put_T (w : World) (s : Nat) (L : List EntC) (x : EntC) (h : SetAt w s L) (hs : L.length ≤ 800000) :
    Calls Tryz.prog 56 #[.pointer (some ⟨s, 0, none⟩), .agg #[.int .u8 x.key, .int .i64 x.v]] w fun e w' => e = .returned (.bool (!has entCmpC L x)) ∧ SetAt w' s (put entCmpC L x) ∧ But s w w' := by
  have hB0 : Below w.heap.size w (w.alloc (.cells #[.int .u8 x.key, .int .i64 x.v] 79)) := (Below.refl _ w).alloc (Nat.le_refl _) _
  have hx0 := mem_new w x
  have hsz : w.heap.size < (w.alloc (.cells #[.int .u8 x.key, .int .i64 x.v] 79)).heap.size := by simp
  have hS0 := h.below hB0
  obtain ⟨t, p, h1, h2, rfl, h4⟩ := hS0
  have c1 := cell_of_one h1
  have H1 := Lib.hid h1
  clear h1
  by_cases hh : has entCmpC t.list x = true
  · have hput : put entCmpC t.list x = t.list := by simp [put, hh]
    have Hput := Lib.hid hput
    clear hput
    go_enter Tryz.func56, Tryz.ntmps56
    go_wp2_with fail
    generalize (w.alloc (.cells #[.int .u8 x.key, .int .i64 x.v] 79)) = W0 at hB0 hx0 hsz h2 c1 H1 ⊢
    refine (find_T t _ p x h2 h4 (by unfold Tr.size; omega)).mono ?_
    rintro e w1 ⟨rfl, hB1⟩
    go_wp2_with fail
    go_ret
    have hB := hB0.trans (hB1.mono hB0.size)
    refine ⟨by simp [hh], ?_, But.of_below hB⟩
    rw [Hput.out]
    exact h.below hB
  · have hh : has entCmpC t.list x = false := by simpa using hh
    have hput : put entCmpC t.list x = ins entCmpC t.list x := by simp [put, hh]
    have Hput := Lib.hid hput
    clear hput
    go_enter Tryz.func56, Tryz.ntmps56
    go_wp2_with fail
    generalize (w.alloc (.cells #[.int .u8 x.key, .int .i64 x.v] 79)) = W0 at hB0 hx0 hsz h2 c1 H1 ⊢
    refine (find_T t _ p x h2 h4 (by unfold Tr.size; omega)).mono ?_
    rintro e w1 ⟨rfl, hB1⟩
    have hx1 := mem_below hB1 hsz hx0
    go_wp2_with fail
    refine (insert_T t w1 p _ _ x (h2.ext hB1) rfl (pos_le _ _) (by unfold Tr.size; omega)).mono ?_
    rintro e w2 ⟨t2, b2, rfl, ht2, hL2, hB2⟩
    have hC2 := hB1.trans (hB2.mono hB1.size)
    have k1 := (hC2.block s (lt_of_block H1.out)).trans H1.out
    have d1 := cell_of_one k1
    have f1 := free_of_one k1
    have K1 := Lib.hid k1
    have HL2 := Lib.hid hL2
    clear k1 hL2
    go_wp2_with fail
    go_ret
    have hB := hB0.trans (hC2.mono hB0.size)
    refine ⟨by simp [hh], ⟨t2, some ⟨b2, 0, none⟩, one_setCell K1.out, ht2.setCell K1.out (by decide) _, ?_, ?_⟩, (But.of_below hB).setCell _ _⟩
    · rw [Hput.out, HL2.out]; rfl
    · rw [Hput.out]; exact sorted_ins entCmpC_lin _ _ h4 hh

end Go.Proofs.YtimeamehmefgnaaGreatDoor.C

namespace Go.Proofs.YtimeamehmefgnaaGreatDoor.C
open Go Go.RowKit

/-- A tree with the members L, old or new; nothing that was there has changed. -/
def Left (w : World) (L : List EntC) (e : Ending) (w' : World) : Prop :=
  ∃ t p, e = .returned (.pointer p) ∧ LT w' t p ∧ t.list = L ∧ Below w.heap.size w w'

theorem erase_less {α : Type} (l r : List α) (i : Nat) (y : α) (h : i < l.length) : l.eraseIdx i ++ y :: r = (l ++ y :: r).eraseIdx i := (List.eraseIdx_append_of_lt_length h _).symm
theorem erase_more {α : Type} (l r : List α) (j : Nat) (y : α) : l ++ y :: r.eraseIdx j = (l ++ y :: r).eraseIdx (l.length + 1 + j) := by
  rw [List.eraseIdx_append_of_length_le (by omega), show l.length + 1 + j - l.length = j + 1 by omega]; rfl
theorem erase_here {α : Type} (l r : List α) (y : α) : l ++ r = (l ++ y :: r).eraseIdx l.length := by
  rw [List.eraseIdx_append_of_length_le (by omega)]; simp

set_option maxHeartbeats 1600000 in
theorem remove_T (t : Tr EntC) : ∀ (w : World) (p : Option Addr) (i : Nat) (z : Int), LT w t p → z = i → i < t.size → t.size ≤ 800000 →
    Calls Tryz.prog 74 #[.pointer p, .int .i64 z] w (Left w (t.list.eraseIdx i)) := by
  induction t with
  | nil => intro w p i z h hz hi hs; simp [Tr.size, Tr.list] at hi
  | node l y r ihl ihr =>
    intro w p i z h hz hi hs
    obtain ⟨b, pl, pr, rfl, hb, hl, hr⟩ := h
    rw [size_node] at hi hs
    obtain ⟨c0, c1, c2, -⟩ := node_cells hb
    have hbl : b < w.heap.size := lt_of_block hb
    have Hb := Lib.hid hb
    have Hz := Lib.hid hz
    clear hb
    rcases Nat.lt_trichotomy i l.size with hlt | heq | hgt
    · have hzk : z < l.size := by omega
      clear hz
      go_enter Tryz.func74, Tryz.ntmps74
      go_wp2_with fail
      refine (count_T _ _ _ hl).mono ?_
      rintro e w' ⟨rfl, rfl⟩
      go_wp2_with fail
      have hC1 : Below w.heap.size w w.drew := (Below.refl _ w).drew
      go_region_held3 (fun W => (W.cell? ⟨b, 0, none⟩ = some (.int .u8 y.key) ∧ W.cell? ⟨b, 1, none⟩ = some (.int .i64 y.v)) ∧ W.cell? ⟨b, 2, none⟩ = some (.pointer pl) ∧ W.cell? ⟨b, 3, none⟩ = some (.pointer pr))
        (first | go_keep | assumption)
        (first
          | ((with_reducible refine (ihl w.drew pl i z (hl.ext hC1) Hz.out hlt (by omega)).mono ?_); rintro e w1 ⟨t1, p1, rfl, ht1, hL1, hB1⟩; have hC2 := hC1.trans (hB1.mono hC1.size); have hc2 : (w1.cell? ⟨b, 0, none⟩ = some (.int .u8 y.key) ∧ w1.cell? ⟨b, 1, none⟩ = some (.int .i64 y.v)) ∧ w1.cell? ⟨b, 2, none⟩ = some (.pointer pl) ∧ w1.cell? ⟨b, 3, none⟩ = some (.pointer pr) := (let n1 := node_cells ((hC2.block b hbl).trans Hb.out); ⟨n1.1, n1.2.1, n1.2.2.1⟩); have hs1 : t1.size + r.size ≤ 900000 := (by have h1 := List.length_eraseIdx_le l.list i; simp only [Tr.size, hL1] at hs ⊢; omega); have HL1 := Lib.hid hL1; clear hL1)
          | ((with_reducible refine (balance_T w1 t1 r p1 pr y ht1 (hr.ext hC2) hs1).mono ?_); rintro e w2 ⟨t2, b2, rfl, ht2, hL2, hB2⟩; have hC3 := hC2.trans (hB2.mono hC2.size); have hc3 : (w2.cell? ⟨b, 0, none⟩ = some (.int .u8 y.key) ∧ w2.cell? ⟨b, 1, none⟩ = some (.int .i64 y.v)) ∧ w2.cell? ⟨b, 2, none⟩ = some (.pointer pl) ∧ w2.cell? ⟨b, 3, none⟩ = some (.pointer pr) := (let n1 := node_cells ((hC3.block b hbl).trans Hb.out); ⟨n1.1, n1.2.1, n1.2.2.1⟩); have HL2 := Lib.hid hL2; clear hL2)
          | fail "no arm")
      go_wp2_with fail
      go_ret
      exact ⟨t2, _, rfl, ht2, by rw [HL2.out, HL1.out]; exact erase_less _ _ _ _ hlt, hC3⟩
    · have h1 : (z < l.size) = False := by simp; omega
      have h2 : ((l.size : Int) < z) = False := by simp; omega
      have Hi := Lib.hid heq
      clear hz heq hi
      cases r with
      | nil =>
        obtain rfl : pr = none := hr
        go_enter Tryz.func74, Tryz.ntmps74
        go_wp2_with fail
        refine (count_T _ _ _ hl).mono ?_
        rintro e w' ⟨rfl, rfl⟩
        go_wp2_with fail
        go_ret
        exact ⟨l, pl, rfl, hl, by rw [Hi.out]; exact (List.append_nil _).symm.trans (erase_here _ _ _), Below.refl _ _⟩
      | node rl ry rr =>
        obtain ⟨br, qrl, qrr, rfl, hbr, hrl, hrr⟩ := hr
        have hr : LT w (.node rl ry rr) (some ⟨br, 0, none⟩) := ⟨br, qrl, qrr, rfl, hbr, hrl, hrr⟩
        go_enter Tryz.func74, Tryz.ntmps74
        go_wp2_with fail
        refine (count_T _ _ _ hl).mono ?_
        rintro e w' ⟨rfl, rfl⟩
        go_wp2_with fail
        have hC1 : Below w.heap.size w w.drew := (Below.refl _ w).drew
        have hsr := size_node rl rr ry
        have hn0 : 0 < (Tr.node rl ry rr).size := by omega
        obtain ⟨m, hm⟩ : ∃ m, (Tr.node rl ry rr).list[0]? = some m := ⟨_, List.getElem?_eq_getElem hn0⟩
        have Hm := Lib.hid hm
        have hat : Calls Tryz.prog 75 #[.pointer (some ⟨br, 0, none⟩), .int .i64 0] w.drew fun e w' => e = .returned (.agg #[.int .u8 m.key, .int .i64 m.v]) ∧ Below w.drew.heap.size w.drew w' := at_T (.node rl ry rr) w.drew (some ⟨br, 0, none⟩) 0 m (hr.ext hC1) hm (by omega)
        clear hm
        go_region_held3 (fun W => W.cell? ⟨b, 2, none⟩ = some (.pointer pl) ∧ W.cell? ⟨b, 3, none⟩ = some (.pointer (some ⟨br, 0, none⟩)))
          (first | go_keep | assumption)
          (first
            | ((with_reducible refine hat.mono ?_); rintro e w1 ⟨rfl, hB1⟩; have hC2 := hC1.trans (hB1.mono hC1.size); have hc2 : w1.cell? ⟨b, 2, none⟩ = some (.pointer pl) ∧ w1.cell? ⟨b, 3, none⟩ = some (.pointer (some ⟨br, 0, none⟩)) := (let n1 := node_cells ((hC2.block b hbl).trans Hb.out); ⟨n1.2.1, n1.2.2.1⟩))
            | ((with_reducible refine (ihr w1 (some ⟨br, 0, none⟩) 0 0 (hr.ext hC2) rfl hn0 (by omega)).mono ?_); rintro e w2 ⟨t1, p1, rfl, ht1, hL1, hB2⟩; have hC3 := hC2.trans (hB2.mono hC2.size); have hc3 : w2.cell? ⟨b, 2, none⟩ = some (.pointer pl) ∧ w2.cell? ⟨b, 3, none⟩ = some (.pointer (some ⟨br, 0, none⟩)) := (let n1 := node_cells ((hC3.block b hbl).trans Hb.out); ⟨n1.2.1, n1.2.2.1⟩); have hs1 : l.size + t1.size ≤ 900000 := (by have h1 := List.length_eraseIdx_le (Tr.node rl ry rr).list 0; simp only [Tr.size, hL1] at hs ⊢; omega); have HL1 := Lib.hid hL1; clear hL1)
            | ((with_reducible refine (balance_T w2 l t1 pl p1 m (hl.ext hC3) ht1 hs1).mono ?_); rintro e w3 ⟨t2, b2, rfl, ht2, hL2, hB3⟩; have hC4 := hC3.trans (hB3.mono hC3.size); have hc4 : w3.cell? ⟨b, 2, none⟩ = some (.pointer pl) ∧ w3.cell? ⟨b, 3, none⟩ = some (.pointer (some ⟨br, 0, none⟩)) := (let n1 := node_cells ((hC4.block b hbl).trans Hb.out); ⟨n1.2.1, n1.2.2.1⟩); have HL2 := Lib.hid hL2; clear hL2)
            | fail "no arm")
        go_wp2_with fail
        go_ret
        refine ⟨t2, _, rfl, ht2, ?_, hC4⟩
        rw [HL2.out, HL1.out, Hi.out]
        refine Eq.trans ?_ (erase_here l.list (Tr.node rl ry rr).list y)
        congr 1
        have := Hm.out
        generalize (Tr.node rl ry rr).list = q at this ⊢
        cases q with
        | nil => simp at this
        | cons q0 q => simp at this; simp [this]
    · obtain ⟨j, rfl⟩ : ∃ j, i = l.size + 1 + j := ⟨i - l.size - 1, by omega⟩
      have hzk : (l.size : Int) < z := by omega
      have hzk2 : z ≤ 800001 := by omega
      have hw1 : IntKind.i64.wrap (z - l.size) = z - l.size := IntWalk.i64_in _ (by omega)
      have hw2 : IntKind.i64.wrap (z - l.size - 1) = z - l.size - 1 := IntWalk.i64_in _ (by omega)
      have Hz2 : Hid (z - l.size - 1 = (j : Int)) := Lib.hid (by omega)
      have hj : j < r.size := by omega
      clear hz
      go_enter Tryz.func74, Tryz.ntmps74
      go_wp2_with fail
      refine (count_T _ _ _ hl).mono ?_
      rintro e w' ⟨rfl, rfl⟩
      go_wp2_with fail
      have hC1 : Below w.heap.size w w.drew := (Below.refl _ w).drew
      go_region_held3 (fun W => (W.cell? ⟨b, 0, none⟩ = some (.int .u8 y.key) ∧ W.cell? ⟨b, 1, none⟩ = some (.int .i64 y.v)) ∧ W.cell? ⟨b, 2, none⟩ = some (.pointer pl) ∧ W.cell? ⟨b, 3, none⟩ = some (.pointer pr))
        (first | go_keep | assumption)
        (first
          | ((with_reducible refine (ihr w.drew pr j _ (hr.ext hC1) Hz2.out hj (by omega)).mono ?_); rintro e w1 ⟨t1, p1, rfl, ht1, hL1, hB1⟩; have hC2 := hC1.trans (hB1.mono hC1.size); have hc2 : (w1.cell? ⟨b, 0, none⟩ = some (.int .u8 y.key) ∧ w1.cell? ⟨b, 1, none⟩ = some (.int .i64 y.v)) ∧ w1.cell? ⟨b, 2, none⟩ = some (.pointer pl) ∧ w1.cell? ⟨b, 3, none⟩ = some (.pointer pr) := (let n1 := node_cells ((hC2.block b hbl).trans Hb.out); ⟨n1.1, n1.2.1, n1.2.2.1⟩); have hs1 : l.size + t1.size ≤ 900000 := (by have h1 := List.length_eraseIdx_le r.list j; simp only [Tr.size, hL1] at hs ⊢; omega); have HL1 := Lib.hid hL1; clear hL1)
          | ((with_reducible refine (balance_T w1 l t1 pl p1 y (hl.ext hC2) ht1 hs1).mono ?_); rintro e w2 ⟨t2, b2, rfl, ht2, hL2, hB2⟩; have hC3 := hC2.trans (hB2.mono hC2.size); have hc3 : (w2.cell? ⟨b, 0, none⟩ = some (.int .u8 y.key) ∧ w2.cell? ⟨b, 1, none⟩ = some (.int .i64 y.v)) ∧ w2.cell? ⟨b, 2, none⟩ = some (.pointer pl) ∧ w2.cell? ⟨b, 3, none⟩ = some (.pointer pr) := (let n1 := node_cells ((hC3.block b hbl).trans Hb.out); ⟨n1.1, n1.2.1, n1.2.2.1⟩); have HL2 := Lib.hid hL2; clear hL2)
          | fail "no arm")
      go_wp2_with fail
      go_ret
      exact ⟨t2, _, rfl, ht2, by rw [HL2.out, HL1.out]; exact erase_more _ _ _ _, hC3⟩

end Go.Proofs.YtimeamehmefgnaaGreatDoor.C

namespace Go.Proofs.YtimeamehmefgnaaGreatDoor.C
open Go Go.RowKit

theorem zero_cells {w : World} {b : Nat} (h : w.heap[b]? = some (.cells #[.int .u8 0, .int .i64 0] 79 (0, 0))) : w.cell? ⟨b, 0, none⟩ = some (.int .u8 0) ∧ w.cell? ⟨b, 1, none⟩ = some (.int .i64 0) ∧ w.frozen? ⟨b, 0, none⟩ = false ∧ w.frozen? ⟨b, 1, none⟩ = false := by
  simp [World.cell?, World.frozen?, h]

theorem set_block {w : World} {b o : Nat} {c : Array Value} {T : TypeId} {f : Nat × Nat} (h : w.heap[b]? = some (.cells c T f)) (v : Value) : (w.setCell ⟨b, o, none⟩ v).heap[b]? = some (.cells (c.setIfInBounds o v) T f) := by
  have hlt := lt_of_block h
  have h' : w.heap[b] = .cells c T f := by simpa [Array.getElem?_eq_getElem hlt] using h
  show (w.heap.modify b _)[b]? = _
  rw [Array.getElem?_eq_getElem (by simpa using hlt), Array.getElem_modify_self, h']
  rfl

theorem sto_block (w : World) (b : Nat) (x : EntC) (h : w.heap[b]? = some (.cells #[.int .u8 0, .int .i64 0] 79 (0, 0))) : ((w.setCell ⟨b, 0, none⟩ (.int .u8 x.key)).setCell ⟨b, 1, none⟩ (.int .i64 x.v)).heap[b]? = some (.cells #[.int .u8 x.key, .int .i64 x.v] 79 (0, 0)) := by
  have := set_block (o := 1) (set_block (o := 0) (h) (.int .u8 x.key)) (.int .i64 x.v)
  simpa using this

theorem below_but {B s : Nat} {w W W' : World} (h : Below B w W) (hb : But s W W') (hs : B ≤ s) (hB : B ≤ W.heap.size) : Below B w W' :=
  ⟨hb.os.trans h.os, hb.tape.trans h.tape, hb.output.trans h.output, Nat.le_trans h.size hb.size, fun k hk => (hb.block k (by omega) (by omega)).trans (h.block k hk)⟩

theorem mem_sto (w : World) (b : Nat) (x : EntC) (h : w.heap[b]? = some (.cells #[.int .u8 0, .int .i64 0] 79 (0, 0))) : ((w.setCell ⟨b, 0, none⟩ (.int .u8 x.key)).setCell ⟨b, 1, none⟩ (.int .i64 x.v)).cell? ⟨b, 0, none⟩ = some (.int .u8 x.key) ∧ ((w.setCell ⟨b, 0, none⟩ (.int .u8 x.key)).setCell ⟨b, 1, none⟩ (.int .i64 x.v)).cell? ⟨b, 1, none⟩ = some (.int .i64 x.v) := by
  have h' := sto_block w b x h
  generalize ((w.setCell ⟨b, 0, none⟩ (.int .u8 x.key)).setCell ⟨b, 1, none⟩ (.int .i64 x.v)) = W at h' ⊢
  simp [World.cell?, h']

theorem but_sto (w : World) (b : Nat) (x : EntC) : But b w ((w.setCell ⟨b, 0, none⟩ (.int .u8 x.key)).setCell ⟨b, 1, none⟩ (.int .i64 x.v)) := by
  repeat (first | exact But.refl _ _ | refine But.setCell ?_ _ _)

set_option maxHeartbeats 800000 in
theorem get_T (w : World) (s : Nat) (L : List EntC) (x : EntC) (h : SetAt w s L) (hs : L.length ≤ 800000) (hh : has entCmpC L x = true) :
    Calls Tryz.prog 66 #[.pointer (some ⟨s, 0, none⟩), .agg #[.int .u8 x.key, .int .i64 x.v]] w fun e w' => (∃ y, e = .returned (.tuple #[.agg #[.int .u8 y.key, .int .i64 y.v], .bool true]) ∧ L[pos entCmpC L x]? = some y) ∧ Below w.heap.size w w' := by
  have hB0 : Below w.heap.size w ((w.alloc (.cells #[.int .u8 x.key, .int .i64 x.v] 79)).alloc (.cells #[.int .u8 0, .int .i64 0] 79)) := ((Below.refl _ w).alloc (Nat.le_refl _) _).alloc (by simp) _
  have hz0 : ((w.alloc (.cells #[.int .u8 x.key, .int .i64 x.v] 79)).alloc (.cells #[.int .u8 0, .int .i64 0] 79)).heap[w.heap.size + 1]? = some (.cells #[.int .u8 0, .int .i64 0] 79 (0, 0)) := by simpa using heap_alloc_new (w.alloc (.cells #[.int .u8 x.key, .int .i64 x.v] 79)) (.cells #[.int .u8 0, .int .i64 0] 79)
  obtain ⟨t, p, h1, h2, rfl, h4⟩ := h.below hB0
  obtain ⟨y, hy, -⟩ := has_at entCmpC_lin t.list x h4 hh
  have Hy := Lib.hid hy
  have c1 := cell_of_one h1
  clear h1 h hy
  go_enter Tryz.func66, Tryz.ntmps66
  go_wp2_with fail
  refine (find_T t _ p x h2 h4 (by unfold Tr.size; omega)).mono ?_
  rintro e w1 ⟨rfl, hB1⟩
  go_wp2_with fail
  refine (at_T t w1 p _ y (h2.ext hB1) Hy.out (by unfold Tr.size; omega)).mono ?_
  rintro e w2 ⟨rfl, hB2⟩
  have hC2 := hB1.trans (hB2.mono hB1.size)
  have hB := hB0.trans (hC2.mono hB0.size)
  have hb1 : w2.heap[w.heap.size + 1]? = _ := (hC2.block _ (lt_of_block hz0)).trans hz0
  have hz1 := zero_cells hb1
  have Hb1 := Lib.hid hb1
  have Hz0 := Lib.hid hz0
  clear hb1 hz0
  go_wp2_with fail
  have hm := mem_sto w2 (w.heap.size + 1) y Hb1.out
  have hB3 : Below w.heap.size w ((w2.setCell ⟨(w.heap.size + 1), 0, none⟩ (.int .u8 y.key)).setCell ⟨(w.heap.size + 1), 1, none⟩ (.int .i64 y.v)) := below_but hB (but_sto w2 (w.heap.size + 1) y) (by omega) (by have := hB.size; omega)
  generalize ((w2.setCell ⟨w.heap.size + 1, 0, none⟩ (.int .u8 y.key)).setCell ⟨w.heap.size + 1, 1, none⟩ (.int .i64 y.v)) = W at hm hB3 ⊢
  exact bodyPost_ret (v := .tuple #[.agg #[.int .u8 y.key, .int .i64 y.v], .bool true]) (by simp [results, Tryz.results66, go_sem, hm]) rfl ⟨⟨y, rfl, Hy.out⟩, hB3⟩

end Go.Proofs.YtimeamehmefgnaaGreatDoor.C

namespace Go.Proofs.YtimeamehmefgnaaGreatDoor.C
open Go Go.RowKit

theorem clone_T (w : World) (s : Nat) (L : List EntC) (h : SetAt w s L) :
    Calls Tryz.prog 54 #[.pointer (some ⟨s, 0, none⟩)] w fun e w' => e = .returned (.pointer (some ⟨w.heap.size, 0, none⟩)) ∧ SetAt w' w.heap.size L ∧ Below w.heap.size w w' := by
  obtain ⟨t, p, h1, h2, rfl, h4⟩ := h
  have c1 := cell_of_one h1
  have hB0 : Below w.heap.size w (w.alloc (.cells #[.pointer p] 100)) := (Below.refl _ w).alloc (Nat.le_refl _) _
  clear h1
  go_enter Tryz.func54, Tryz.ntmps54
  go_wp2_with fail
  go_ret
  exact ⟨rfl, ⟨t, p, heap_alloc_new w _, h2.ext hB0, rfl, h4⟩, hB0⟩

def drop {α : Type} (cmp : α → α → Int) (l : List α) (x : α) : List α := if has cmp l x then l.eraseIdx (pos cmp l x) else l

theorem sorted_drop {α : Type} {cmp : α → α → Int} (l : List α) (x : α) (hs : Sorted cmp l) : Sorted cmp (drop cmp l x) := by
  unfold drop; split
  · exact List.Pairwise.sublist (List.eraseIdx_sublist _ _) hs
  · exact hs

theorem length_drop {α : Type} (cmp : α → α → Int) (l : List α) (x : α) : (drop cmp l x).length ≤ l.length := by
  unfold drop; split
  · exact (List.eraseIdx_sublist _ _).length_le
  · exact Nat.le_refl _

theorem mem_drop {α : Type} {cmp : α → α → Int} (hc : Lin cmp) (he : Exact cmp) {l : List α} {x a : α} (hs : Sorted cmp l) : a ∈ drop cmp l x ↔ a ∈ l ∧ a ≠ x := by
  unfold drop
  split
  · rename_i hh
    obtain ⟨y, hy, h0⟩ := has_at hc l x hs hh
    obtain rfl := (he _ _).1 h0
    obtain ⟨hi, hg⟩ := List.getElem?_eq_some_iff.1 hy
    generalize pos cmp l x = i at hi hg
    have e : l = l.take i ++ x :: l.drop (i + 1) := by
      conv => lhs; rw [← List.take_append_drop i l, List.drop_eq_getElem_cons hi, hg]
    have hs' := hs
    rw [e] at hs'
    obtain ⟨-, h2, h3⟩ := List.pairwise_append.1 hs'
    have h4 := (List.pairwise_cons.1 h2).1
    rw [List.eraseIdx_eq_take_drop_succ]
    have ne1 : ∀ b ∈ l.take i, b ≠ x := fun b hb e => by
      have := h3 b hb x (by simp); rw [e, (he x x).2 rfl] at this; omega
    have ne2 : ∀ b ∈ l.drop (i + 1), b ≠ x := fun b hb e => by
      have := h4 b hb; rw [e, (he x x).2 rfl] at this; omega
    have hm : a ∈ l ↔ a ∈ l.take i ∨ a = x ∨ a ∈ l.drop (i + 1) := by
      conv => lhs; rw [e]
      simp
    rw [hm, List.mem_append]
    constructor
    · rintro (h | h)
      · exact ⟨.inl h, ne1 a h⟩
      · exact ⟨.inr (.inr h), ne2 a h⟩
    · rintro ⟨h | h | h, hn⟩
      · exact .inl h
      · exact absurd h hn
      · exact .inr h
  · rename_i hh
    constructor
    · intro h
      exact ⟨h, fun e => hh ((has_iff he).2 (e ▸ h))⟩
    · exact fun h => h.1

theorem drop_T (w : World) (s : Nat) (L : List EntC) (x : EntC) (h : SetAt w s L) (hs : L.length ≤ 800000) :
    Calls Tryz.prog 63 #[.pointer (some ⟨s, 0, none⟩), .agg #[.int .u8 x.key, .int .i64 x.v]] w fun e w' => e = .returned (.bool (has entCmpC L x)) ∧ SetAt w' s (drop entCmpC L x) ∧ But s w w' := by
  have hB0 : Below w.heap.size w (w.alloc (.cells #[.int .u8 x.key, .int .i64 x.v] 79)) := (Below.refl _ w).alloc (Nat.le_refl _) _
  have hx0 := mem_new w x
  have hsz : w.heap.size < (w.alloc (.cells #[.int .u8 x.key, .int .i64 x.v] 79)).heap.size := by simp
  have hS0 := h.below hB0
  obtain ⟨t, p, h1, h2, rfl, h4⟩ := hS0
  have c1 := cell_of_one h1
  have H1 := Lib.hid h1
  clear h1
  by_cases hh : has entCmpC t.list x = true
  · have hput : drop entCmpC t.list x = t.list.eraseIdx (pos entCmpC t.list x) := by simp [drop, hh]
    obtain ⟨y, hy, -⟩ := has_at entCmpC_lin t.list x h4 hh
    have hpl := (List.getElem?_eq_some_iff.1 hy).1
    have Hput := Lib.hid hput
    have Hpl := Lib.hid hpl
    clear hput hy hpl
    go_enter Tryz.func63, Tryz.ntmps63
    go_wp2_with fail
    generalize (w.alloc (.cells #[.int .u8 x.key, .int .i64 x.v] 79)) = W0 at hB0 hx0 hsz h2 c1 H1 ⊢
    refine (find_T t _ p x h2 h4 (by unfold Tr.size; omega)).mono ?_
    rintro e w1 ⟨rfl, hB1⟩
    go_wp2_with fail
    refine (remove_T t w1 p _ _ (h2.ext hB1) rfl (by unfold Tr.size; exact Hpl.out) (by unfold Tr.size; omega)).mono ?_
    rintro e w2 ⟨t2, p2, rfl, ht2, hL2, hB2⟩
    have hC2 := hB1.trans (hB2.mono hB1.size)
    have k1 := (hC2.block s (lt_of_block H1.out)).trans H1.out
    have d1 := cell_of_one k1
    have f1 := free_of_one k1
    have K1 := Lib.hid k1
    have HL2 := Lib.hid hL2
    clear k1 hL2
    go_wp2_with fail
    go_ret
    have hB := hB0.trans (hC2.mono hB0.size)
    refine ⟨by simp [hh], ⟨t2, p2, one_setCell K1.out, ht2.setCell K1.out (by decide) _, ?_, ?_⟩, (But.of_below hB).setCell _ _⟩
    · rw [Hput.out, HL2.out]
    · exact sorted_drop _ _ h4
  · have hh : has entCmpC t.list x = false := by simpa using hh
    have hput : drop entCmpC t.list x = t.list := by simp [drop, hh]
    have Hput := Lib.hid hput
    clear hput
    go_enter Tryz.func63, Tryz.ntmps63
    go_wp2_with fail
    generalize (w.alloc (.cells #[.int .u8 x.key, .int .i64 x.v] 79)) = W0 at hB0 hx0 hsz h2 c1 H1 ⊢
    refine (find_T t _ p x h2 h4 (by unfold Tr.size; omega)).mono ?_
    rintro e w1 ⟨rfl, hB1⟩
    go_wp2_with fail
    go_ret
    have hB := hB0.trans (hB1.mono hB0.size)
    refine ⟨by simp [hh], ?_, But.of_below hB⟩
    rw [Hput.out]
    exact h.below hB

end Go.Proofs.YtimeamehmefgnaaGreatDoor.C

namespace Go.Proofs.YtimeamehmefgnaaGreatDoor.C
open Go Go.RowKit

set_option maxHeartbeats 800000 in
theorem get_no_T (w : World) (s : Nat) (L : List EntC) (x : EntC) (h : SetAt w s L) (hs : L.length ≤ 800000) (hh : has entCmpC L x = false) :
    Calls Tryz.prog 66 #[.pointer (some ⟨s, 0, none⟩), .agg #[.int .u8 x.key, .int .i64 x.v]] w fun e w' => e = .returned (.tuple #[.agg #[.int .u8 0, .int .i64 0], .bool false]) ∧ Below w.heap.size w w' := by
  have hB0 : Below w.heap.size w ((w.alloc (.cells #[.int .u8 x.key, .int .i64 x.v] 79)).alloc (.cells #[.int .u8 0, .int .i64 0] 79)) := ((Below.refl _ w).alloc (Nat.le_refl _) _).alloc (by simp) _
  have hz0 : ((w.alloc (.cells #[.int .u8 x.key, .int .i64 x.v] 79)).alloc (.cells #[.int .u8 0, .int .i64 0] 79)).heap[w.heap.size + 1]? = some (.cells #[.int .u8 0, .int .i64 0] 79 (0, 0)) := by simpa using heap_alloc_new (w.alloc (.cells #[.int .u8 x.key, .int .i64 x.v] 79)) (.cells #[.int .u8 0, .int .i64 0] 79)
  obtain ⟨t, p, h1, h2, rfl, h4⟩ := h.below hB0
  have c1 := cell_of_one h1
  have Hh := Lib.hid hh
  clear h1 h
  go_enter Tryz.func66, Tryz.ntmps66
  go_wp2_with fail
  refine (find_T t _ p x h2 h4 (by unfold Tr.size; omega)).mono ?_
  rw [Hh.out]
  rintro e w1 ⟨rfl, hB1⟩
  have hB := hB0.trans (hB1.mono hB0.size)
  have hBz : Below w1.heap.size w1 (w1.alloc (.cells #[.int .u8 0, .int .i64 0] 79)) := (Below.refl _ w1).alloc (Nat.le_refl _) _
  have hb1 : (w1.alloc (.cells #[.int .u8 0, .int .i64 0] 79)).heap[w.heap.size + 1]? = _ := (hBz.block _ (lt_of_block ((hB1.block _ (lt_of_block hz0)).trans hz0))).trans ((hB1.block _ (lt_of_block hz0)).trans hz0)
  have hbn := heap_alloc_new w1 (.cells #[.int .u8 0, .int .i64 0] 79)
  have hz1 := zero_cells hb1
  have hz2 := zero_cells hbn
  have Hb1 := Lib.hid hb1
  have hB2 := hB.trans (hBz.mono hB.size)
  have hszz : w.heap.size + 1 < (w1.alloc (.cells #[.int .u8 0, .int .i64 0] 79)).heap.size := lt_of_block hb1
  clear hb1 hz0 hbn
  go_wp2_with fail
  have hm : (((w1.alloc (.cells #[.int .u8 0, .int .i64 0] 79)).setCell ⟨w.heap.size + 1, 0, none⟩ (.int .u8 0)).setCell ⟨w.heap.size + 1, 1, none⟩ (.int .i64 0)).cell? ⟨w.heap.size + 1, 0, none⟩ = some (.int .u8 0) ∧ (((w1.alloc (.cells #[.int .u8 0, .int .i64 0] 79)).setCell ⟨w.heap.size + 1, 0, none⟩ (.int .u8 0)).setCell ⟨w.heap.size + 1, 1, none⟩ (.int .i64 0)).cell? ⟨w.heap.size + 1, 1, none⟩ = some (.int .i64 0) := mem_sto (w1.alloc (.cells #[.int .u8 0, .int .i64 0] 79)) (w.heap.size + 1) (⟨0, 0⟩ : EntC) Hb1.out
  have hB3 : Below w.heap.size w (((w1.alloc (.cells #[.int .u8 0, .int .i64 0] 79)).setCell ⟨w.heap.size + 1, 0, none⟩ (.int .u8 0)).setCell ⟨w.heap.size + 1, 1, none⟩ (.int .i64 0)) := below_but hB2 (but_sto (w1.alloc (.cells #[.int .u8 0, .int .i64 0] 79)) (w.heap.size + 1) (⟨0, 0⟩ : EntC)) (by omega) (by have := hB2.size; omega)
  generalize (((w1.alloc (.cells #[.int .u8 0, .int .i64 0] 79)).setCell ⟨w.heap.size + 1, 0, none⟩ (.int .u8 0)).setCell ⟨w.heap.size + 1, 1, none⟩ (.int .i64 0)) = W at hm hB3 ⊢
  exact bodyPost_ret (v := .tuple #[.agg #[.int .u8 0, .int .i64 0], .bool false]) (by simp [results, Tryz.results66, go_sem, hm]) rfl ⟨rfl, hB3⟩

end Go.Proofs.YtimeamehmefgnaaGreatDoor.C

namespace Go.Proofs.YtimeamehmefgnaaGreatDoor.C
open Go Go.RowKit

end Go.Proofs.YtimeamehmefgnaaGreatDoor.C

namespace Go.Proofs.YtimeamehmefgnaaGreatDoor.C
open Go Go.RowKit

/-- The values xs lie one behind the other in block b, from off on. -/
def Elems (w : World) (b off : Nat) (xs : List EntC) : Prop := ∀ i x, xs[i]? = some x → w.cell? ⟨b, off + i * 2, none⟩ = some (.int .u8 x.key) ∧ w.cell? ⟨b, off + i * 2 + 1, none⟩ = some (.int .i64 x.v)

/-- v is a slice of the values xs. -/
def SliceOf (w : World) (v : Value) (xs : List EntC) : Prop :=
  ∃ a cap, v = .slice a xs.length cap ∧ (xs = [] ∨ ∃ b off, a = some ⟨b, off, none⟩ ∧ Elems w b off xs)

theorem Elems.below {w w' : World} {b off : Nat} {xs : List EntC} (h : Elems w b off xs) {B : Nat} (hB : Below B w w') (hb : b < B) : Elems w' b off xs := by
  intro i x hx
  have h0 := h i x hx
  simp only [← hB.cell (p := ⟨b, _, none⟩) hb] at h0
  exact h0

theorem SliceOf.below {w w' : World} {v : Value} {xs : List EntC} (h : SliceOf w v xs) (hB : Below w.heap.size w w') : SliceOf w' v xs := by
  obtain ⟨a, cap, rfl, h⟩ := h
  refine ⟨a, cap, rfl, ?_⟩
  rcases h with h | ⟨b, off, rfl, h⟩
  · exact .inl h
  · cases xs with
    | nil => exact .inl rfl
    | cons x xs =>
      refine .inr ⟨b, off, rfl, h.below hB ?_⟩
      exact World.block_lt_of_cell? w _ (h 0 x rfl).1

theorem putl_length (xs l : List EntC) : (xs.foldl (put entCmpC) l).length ≤ l.length + xs.length := by
  induction xs generalizing l with
  | nil => simp
  | cons x xs ih =>
    have := ih (put entCmpC l x)
    have := length_put entCmpC l x
    simp; omega

set_option maxHeartbeats 800000 in
theorem new_T (w : World) (v : Value) (xs : List EntC) (h : SliceOf w v xs) (hs : xs.length ≤ 700000) :
    Calls Tryz.prog 40 #[v] w fun e w' => ∃ s, e = .returned (.pointer (some ⟨s, 0, none⟩)) ∧ w.heap.size ≤ s ∧ SetAt w' s (xs.foldl (put entCmpC) []) ∧ Below w.heap.size w w' := by
  obtain ⟨a, cap, rfl, hc⟩ := h
  have hB0 : Below w.heap.size w (w.alloc (.cells #[.pointer none] 100)) := (Below.refl _ w).alloc (Nat.le_refl _) _
  have hS0 : SetAt (w.alloc (.cells #[.pointer none] 100)) w.heap.size [] := ⟨.nil, none, heap_alloc_new w _, rfl, rfl, List.Pairwise.nil⟩
  have HS0 := Lib.hid hS0
  clear hS0
  go_enter Tryz.func40, Tryz.ntmps40
  go_wp2_with fail
  go_loopg [10] xs.length (fun k i wr => ∃ j : Nat, i = .int .i64 j ∧ j ≤ xs.length ∧ Hid (k = xs.length - j) ∧ Hid (SetAt wr w.heap.size ((xs.take j).foldl (put entCmpC) [])) ∧ Below w.heap.size w wr)
  case atStart => exact ⟨0, rfl, by omega, Lib.hid rfl, HS0, hB0⟩
  case round =>
    obtain ⟨j, rfl, hj, Hk, HS, hB⟩ := hrel
    by_cases hlt : j < xs.length
    · rcases hc with rfl | ⟨b, off, rfl, hel⟩
      · simp at hlt
      · obtain ⟨x, hx⟩ : ∃ x, xs[j]? = some x := ⟨xs[j], by simp [hlt]⟩
        have hm := hel j x hx
        have hm1 := (hel.below hB (World.block_lt_of_cell? w _ hm.1)) j x hx
        have Hx := Lib.hid hx
        clear hx hm
        have hB1 : Below wr.heap.size wr (wr.alloc (.cells #[.int .u8 x.key, .int .i64 x.v] 79)) := (Below.refl _ wr).alloc (Nat.le_refl _) _
        have hlen : ((xs.take j).foldl (put entCmpC) []).length ≤ 800000 := by have := putl_length (xs.take j) []; simp at this; omega
        go_wp2_with fail
        refine (put_T _ _ _ x (HS.out.below hB1) hlen).mono ?_
        rintro e w2 ⟨rfl, hS2, hb2⟩
        have HS2 := Lib.hid hS2
        clear hS2
        go_wp2_with fail
        go_roundg (xs.length - (j + 1))
        case measure => rw [Hk.out]; omega
        case rel =>
          refine ⟨j + 1, by go_num, by omega, Lib.hid rfl, Lib.hid ?_, below_but (hB.trans (hB1.mono hB.size)) hb2 (Nat.le_refl _) (Nat.le_trans hB.size hB1.size)⟩
          have e : xs.take (j + 1) = xs.take j ++ [x] := by rw [List.take_add_one, Hx.out]; rfl
          rw [e, List.foldl_append]
          exact HS2.out
    · obtain rfl : j = xs.length := by omega
      have hs' := HS.out
      rw [List.take_length] at hs'
      have HS' := Lib.hid hs'
      clear hs'
      go_wp2_with fail
      go_ret
      exact ⟨w.heap.size, rfl, Nat.le_refl _, HS'.out, hB⟩

end Go.Proofs.YtimeamehmefgnaaGreatDoor.C
