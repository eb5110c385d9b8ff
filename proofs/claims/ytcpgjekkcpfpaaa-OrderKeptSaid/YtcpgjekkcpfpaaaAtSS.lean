/- What 'at' of a tree's nodes answers. Conditions: the tree lies in memory; the index is in range; at most 900000 members. -/
import Derived.Test.YtcpgjekkcpfpaaaTreeSS
import Derived.Deep.LoopGhost
namespace Go.Proofs.Ytcpgjekkcpfpaaa.S
open Go Go.RowKit

theorem at_less {α : Type} (l r : List α) (x y : α) (j : Nat) (h : (l ++ y :: r)[j]? = some x) (hj : j < l.length) : l[j]? = some x := by
  rwa [List.getElem?_append_left hj] at h
theorem at_more {α : Type} (l r : List α) (x y : α) (j : Nat) (h : (l ++ y :: r)[j]? = some x) (hj : l.length < j) : r[j - l.length - 1]? = some x := by
  rw [List.getElem?_append_right (by omega)] at h
  rwa [show j - l.length = (j - l.length - 1) + 1 by omega, List.getElem?_cons_succ] at h
theorem at_here {α : Type} (l r : List α) (x y : α) (h : (l ++ y :: r)[l.length]? = some x) : y = x := by
  rw [List.getElem?_append_right (by omega)] at h
  simpa using h

set_option maxHeartbeats 800000 in
theorem at_T (t : Tr SymV) (w : World) (p : Option Addr) (j : Nat) (x : SymV) (ht : LT w t p) (hx : t.list[j]? = some x) (hs : t.size ≤ 900000) :
    Calls Try.prog 28 #[.pointer p, .int .i64 j] w fun e w' => e = .returned (.agg #[.int .i64 x.k, .string x.t, .int .i64 x.n]) ∧ Below w.heap.size w w' := by
  have hB0 : Below w.heap.size w (w.alloc (.cells #[.int .i64 0, .string ⟨#[]⟩, .int .i64 0] 27)) := (Below.refl _ w).alloc (Nat.le_refl _) _
  have ht0 := ht.ext hB0
  have Hx := Lib.hid hx
  clear hx
  go_enter Try.func28, Try.ntmps28
  go_wp2_with fail
  go_loopg [0, 1] t.size (fun k n i wr => ∃ (t' : Tr SymV) (p' : Option Addr) (j' : Nat), n = .pointer p' ∧ i = .int .i64 j' ∧ wr = w.alloc (.cells #[.int .i64 0, .string ⟨#[]⟩, .int .i64 0] 27) ∧ LT wr t' p' ∧ t'.list[j']? = some x ∧ k = t'.size ∧ t'.size ≤ 900000)
  case atStart => exact ⟨t, p, j, rfl, rfl, rfl, ht0, Hx.out, rfl, hs⟩
  case round =>
    obtain ⟨t', p', j', rfl, rfl, rfl, ht', hx', hk, hs'⟩ := hrel
    cases t' with
    | nil => simp [Tr.list] at hx'
    | node l y r =>
      obtain ⟨b, pl, pr, rfl, hb, hl, hr⟩ := ht'
      obtain ⟨c0, c1, c2, -⟩ := node_cells hb
      rw [size_node] at hk hs'
      have hjb : j' ≤ 900000 := by
        have := (List.getElem?_eq_some_iff.1 hx').1
        have := size_node l r y
        unfold Tr.size at *
        omega
      have Hx' := Lib.hid hx'
      have Hk := Lib.hid hk
      clear hb hx' hk
      rcases Nat.lt_trichotomy j' l.size with hlt | heq | hgt
      · go_wp2_with fail
        refine (count_T _ _ _ hl).mono ?_
        rintro e w' ⟨rfl, rfl⟩
        go_wp2_with fail
        go_roundg l.size
        case measure => rw [Hk.out]; omega
        case rel => exact ⟨l, pl, j', rfl, rfl, rfl, hl, at_less _ _ _ _ _ Hx'.out hlt, rfl, by omega⟩
      · have Heq := Lib.hid heq
        have h1 : j' ≤ l.size := by omega
        have h2 : l.size ≤ j' := by omega
        clear heq
        go_wp2_with fail
        refine (count_T _ _ _ hl).mono ?_
        rintro e w' ⟨rfl, rfl⟩
        go_wp2_with fail
        obtain rfl := at_here l.list r.list x y (by rw [show l.list.length = j' from Heq.out.symm]; exact Hx'.out)
        exact bodyPost_ret (v := .agg #[.int .i64 y.k, .string y.t, .int .i64 y.n]) (by simp [results, Try.results28, go_sem]) rfl ⟨rfl, (Below.refl _ w).alloc (Nat.le_refl _) _⟩
      · go_wp2_with fail
        refine (count_T _ _ _ hl).mono ?_
        rintro e w' ⟨rfl, rfl⟩
        go_wp2_with fail
        go_roundg r.size
        case measure => rw [Hk.out]; omega
        case rel => exact ⟨r, pr, j' - l.size - 1, rfl, by rw [show ((j' - l.size - 1 : Nat) : Int) = j' - (l.size + 1) by omega], rfl, hr, at_more _ _ _ _ _ Hx'.out hgt, rfl, by omega⟩
end Go.Proofs.Ytcpgjekkcpfpaaa.S
