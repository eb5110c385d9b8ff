/- What 'at' of a tree's nodes answers. Conditions: the tree lies in memory; the index is in range; at most 900000 members.
What Compare of entries answers whose keys are elements. Conditions: none. -/
import Derived.Test.YtfgpkbbbohipcaaTreeSM
import Derived.Deep.LoopGhost
import Derived.Test.YtfgpkbbbohipcaaEntM
namespace Go.Proofs.Ytfgpkbbbohipcaa.M
open Go Go.RowKit

theorem at_less {α : Type} (l r : List α) (x y : α) (j : Nat) (h : (l ++ y :: r)[j]? = some x) (hj : j < l.length) : l[j]? = some x := by
  rwa [List.getElem?_append_left hj] at h
theorem at_more {α : Type} (l r : List α) (x y : α) (j : Nat) (h : (l ++ y :: r)[j]? = some x) (hj : l.length < j) : r[j - l.length - 1]? = some x := by
  rw [List.getElem?_append_right (by omega)] at h
  rwa [show j - l.length = (j - l.length - 1) + 1 by omega, List.getElem?_cons_succ] at h
theorem at_here {α : Type} (l r : List α) (x y : α) (h : (l ++ y :: r)[l.length]? = some x) : y = x := by
  rw [List.getElem?_append_right (by omega)] at h
  simpa using h

set_option maxHeartbeats 800000 in
theorem at_T (t : Tr EntM) (w : World) (p : Option Addr) (j : Nat) (x : EntM) (ht : LT w t p) (hx : t.list[j]? = some x) (hs : t.size ≤ 900000) :
    Calls Try.prog 104 #[.pointer p, .int .i64 j] w fun e w' => e = .returned (.agg #[.int .i64 x.key.id.k, .string x.key.id.t, .int .i64 x.key.id.n, .int .i64 x.key.attr.k, .string x.key.attr.t, .int .i64 x.key.attr.n, .int .i64 x.key.val.k, .string x.key.val.t, .int .i64 x.key.val.n, .bool x.key.acc, .bool x.key.goal, .int .i64 x.key.tag, .int .i64 x.v]) ∧ Below w.heap.size w w' := by
  have hB0 : Below w.heap.size w (w.alloc (.cells #[.int .i64 0, .string ⟨#[]⟩, .int .i64 0, .int .i64 0, .string ⟨#[]⟩, .int .i64 0, .int .i64 0, .string ⟨#[]⟩, .int .i64 0, .bool false, .bool false, .int .i64 0, .int .i64 0] 110)) := (Below.refl _ w).alloc (Nat.le_refl _) _
  have ht0 := ht.ext hB0
  have Hx := Lib.hid hx
  clear hx
  go_enter Try.func104, Try.ntmps104
  go_wp2_with fail
  go_loopg [0, 1] t.size (fun k n i wr => ∃ (t' : Tr EntM) (p' : Option Addr) (j' : Nat), n = .pointer p' ∧ i = .int .i64 j' ∧ wr = w.alloc (.cells #[.int .i64 0, .string ⟨#[]⟩, .int .i64 0, .int .i64 0, .string ⟨#[]⟩, .int .i64 0, .int .i64 0, .string ⟨#[]⟩, .int .i64 0, .bool false, .bool false, .int .i64 0, .int .i64 0] 110) ∧ LT wr t' p' ∧ t'.list[j']? = some x ∧ k = t'.size ∧ t'.size ≤ 900000)
  case atStart => exact ⟨t, p, j, rfl, rfl, rfl, ht0, Hx.out, rfl, hs⟩
  case round =>
    obtain ⟨t', p', j', rfl, rfl, rfl, ht', hx', hk, hs'⟩ := hrel
    cases t' with
    | nil => simp [Tr.list] at hx'
    | node l y r =>
      obtain ⟨b, pl, pr, rfl, hb, hl, hr⟩ := ht'
      obtain ⟨c0, c1, c2, -⟩ := node_cells hb
      rw [size_node] at hk hs'
      have hjb : j' ≤ 900000 := by
        have := (List.getElem?_eq_some_iff.1 hx').1
        have := size_node l r y
        unfold Tr.size at *
        omega
      have Hx' := Lib.hid hx'
      have Hk := Lib.hid hk
      clear hb hx' hk
      rcases Nat.lt_trichotomy j' l.size with hlt | heq | hgt
      · go_wp2_with fail
        refine (count_T _ _ _ hl).mono ?_
        rintro e w' ⟨rfl, rfl⟩
        go_wp2_with fail
        go_roundg l.size
        case measure => rw [Hk.out]; omega
        case rel => exact ⟨l, pl, j', rfl, rfl, rfl, hl, at_less _ _ _ _ _ Hx'.out hlt, rfl, by omega⟩
      · have Heq := Lib.hid heq
        have h1 : j' ≤ l.size := by omega
        have h2 : l.size ≤ j' := by omega
        clear heq
        go_wp2_with fail
        refine (count_T _ _ _ hl).mono ?_
        rintro e w' ⟨rfl, rfl⟩
        go_wp2_with fail
        obtain rfl := at_here l.list r.list x y (by rw [show l.list.length = j' from Heq.out.symm]; exact Hx'.out)
        exact bodyPost_ret (v := .agg #[.int .i64 y.key.id.k, .string y.key.id.t, .int .i64 y.key.id.n, .int .i64 y.key.attr.k, .string y.key.attr.t, .int .i64 y.key.attr.n, .int .i64 y.key.val.k, .string y.key.val.t, .int .i64 y.key.val.n, .bool y.key.acc, .bool y.key.goal, .int .i64 y.key.tag, .int .i64 y.v]) (by simp [results, Try.results104, go_sem]) rfl ⟨rfl, (Below.refl _ w).alloc (Nat.le_refl _) _⟩
      · go_wp2_with fail
        refine (count_T _ _ _ hl).mono ?_
        rintro e w' ⟨rfl, rfl⟩
        go_wp2_with fail
        go_roundg r.size
        case measure => rw [Hk.out]; omega
        case rel => exact ⟨r, pr, j' - l.size - 1, rfl, by rw [show ((j' - l.size - 1 : Nat) : Int) = j' - (l.size + 1) by omega], rfl, hr, at_more _ _ _ _ _ Hx'.out hgt, rfl, by omega⟩
end Go.Proofs.Ytfgpkbbbohipcaa.M

namespace Go.Proofs.Ytfgpkbbbohipcaa
open Go Go.RowKit

set_option maxRecDepth 100000
theorem boxes2EM (w : World) (x y : EntM) :
    Below w.heap.size w ((w.alloc (.cells #[.int .i64 x.key.id.k, .string x.key.id.t, .int .i64 x.key.id.n, .int .i64 x.key.attr.k, .string x.key.attr.t, .int .i64 x.key.attr.n, .int .i64 x.key.val.k, .string x.key.val.t, .int .i64 x.key.val.n, .bool x.key.acc, .bool x.key.goal, .int .i64 x.key.tag, .int .i64 x.v] 110)).alloc (.cells #[.int .i64 y.key.id.k, .string y.key.id.t, .int .i64 y.key.id.n, .int .i64 y.key.attr.k, .string y.key.attr.t, .int .i64 y.key.attr.n, .int .i64 y.key.val.k, .string y.key.val.t, .int .i64 y.key.val.n, .bool y.key.acc, .bool y.key.goal, .int .i64 y.key.tag, .int .i64 y.v] 110)) :=
  ((Below.refl _ w).alloc (Nat.le_refl _) _).alloc (by simp) _

theorem method_elm (a : Int) (b : ByteArray) (c : Int) (d : Int) (e : ByteArray) (f : Int) (g : Int) (h : ByteArray) (i : Int) (j l : Bool) (o : Int) (w : World) : (method 318 67 (.agg #[.int .i64 a, .string b, .int .i64 c, .int .i64 d, .string e, .int .i64 f, .int .i64 g, .string h, .int .i64 i, .bool j, .bool l, .int .i64 o]) "Compare").run Try.prog w = .ok (149, .agg #[.int .i64 a, .string b, .int .i64 c, .int .i64 d, .string e, .int .i64 f, .int .i64 g, .string h, .int .i64 i, .bool j, .bool l, .int .i64 o]) w := by kernel_rfl

set_option maxHeartbeats 800000 in
theorem ent_compareM (w : World) (x y : EntM) : Calls Try.prog 161 #[.agg #[.int .i64 x.key.id.k, .string x.key.id.t, .int .i64 x.key.id.n, .int .i64 x.key.attr.k, .string x.key.attr.t, .int .i64 x.key.attr.n, .int .i64 x.key.val.k, .string x.key.val.t, .int .i64 x.key.val.n, .bool x.key.acc, .bool x.key.goal, .int .i64 x.key.tag, .int .i64 x.v], .agg #[.int .i64 y.key.id.k, .string y.key.id.t, .int .i64 y.key.id.n, .int .i64 y.key.attr.k, .string y.key.attr.t, .int .i64 y.key.attr.n, .int .i64 y.key.val.k, .string y.key.val.t, .int .i64 y.key.val.n, .bool y.key.acc, .bool y.key.goal, .int .i64 y.key.tag, .int .i64 y.v]] w
    fun e w' => e = .returned (.int .i64 (entCmpM x y)) ∧ Below w.heap.size w w' := by
  have hB0 := boxes2EM w x y
  have hme := method_elm
  go_enter Try.func161, Try.ntmps161
  go_wp2_with fail
  refine (elm_compare _ x.key y.key).mono ?_
  rintro e w' ⟨rfl, hB⟩
  go_wp2_with fail
  go_ret
  exact ⟨rfl, hB0.trans (hB.mono hB0.size)⟩

end Go.Proofs.Ytfgpkbbbohipcaa
