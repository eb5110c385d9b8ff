/- What balance, insert and remove of a tree's nodes do, told by the list of its members. Conditions: the trees lie in memory; together at most some 800000 members. -/
import Derived.Test.YtmnpcpgdhaplaaaTreeSV
namespace Go.Proofs.Ytmnpcpgdhaplaaa.V
open Go Go.RowKit

/-- A new tree has the members L; nothing that was there has changed. -/
def Res (w : World) (L : List VarV) (e : Ending) (w' : World) : Prop :=
  ∃ t b, e = .returned (.pointer (some ⟨b, 0, none⟩)) ∧ LT w' t (some ⟨b, 0, none⟩) ∧ t.list = L ∧ Below w.heap.size w w'

theorem turnDown_T (w : World) (l i o : Tr VarV) (pl pr : Option Addr) (x y : VarV) (hl : LT w l pl) (hr : LT w (.node i y o) pr) (hs : l.size + i.size + o.size ≤ 900000) :
    Calls Try.prog 127 #[.pointer pl, .agg #[.string x.name, .int .i64 x.nth], .pointer pr] w (Res w (l.list ++ x :: (i.list ++ y :: o.list))) := by
  obtain ⟨b, pi, po, rfl, hb, hi, ho⟩ := hr
  by_cases hlt : i.size + 1 < 2 * (o.size + 1)
  · refine (turnDown_A w l i o pl pi po b x y hl hb hi ho hs hlt).mono ?_
    rintro e w' ⟨b', rfl, ht, hB⟩
    exact ⟨_, b', rfl, ht, by simp [Tr.list], hB⟩
  · cases i with
    | nil => exact absurd (show (Tr.nil : Tr VarV).size + 1 < 2 * (o.size + 1) by simp [Tr.size, Tr.list]; omega) hlt
    | node ib z ia =>
      rw [size_node] at hlt hs hb
      obtain ⟨bi, pib, pia, rfl, hbi, hib, hia⟩ := hi
      refine (turnDown_B w l ib ia o pl pib pia po b bi x y z hl hb hbi hib hia ho (by omega) hlt).mono ?_
      rintro e w' ⟨b', rfl, ht, hB⟩
      exact ⟨_, b', rfl, ht, by simp [Tr.list], hB⟩

theorem turnUp_T (w : World) (l i o : Tr VarV) (pl pr : Option Addr) (x y : VarV) (hr : LT w l pl) (hl : LT w (.node o y i) pr) (hs : l.size + i.size + o.size ≤ 900000) :
    Calls Try.prog 128 #[.pointer pr, .agg #[.string x.name, .int .i64 x.nth], .pointer pl] w (Res w ((o.list ++ y :: i.list) ++ x :: l.list)) := by
  obtain ⟨b, po, pi, rfl, hb, ho, hi⟩ := hl
  by_cases hlt : i.size + 1 < 2 * (o.size + 1)
  · refine (turnUp_A w l i o pl pi po b x y hr hb hi ho hs hlt).mono ?_
    rintro e w' ⟨b', rfl, ht, hB⟩
    exact ⟨_, b', rfl, ht, by simp [Tr.list], hB⟩
  · cases i with
    | nil => exact absurd (show (Tr.nil : Tr VarV).size + 1 < 2 * (o.size + 1) by simp [Tr.size, Tr.list]; omega) hlt
    | node ib z ia =>
      rw [size_node] at hlt hs hb
      obtain ⟨bi, pib, pia, rfl, hbi, hib, hia⟩ := hi
      refine (turnUp_B w l ib ia o pl pib pia po b bi x y z hr hb hbi hib hia ho (by omega) hlt).mono ?_
      rintro e w' ⟨b', rfl, ht, hB⟩
      exact ⟨_, b', rfl, ht, by simp [Tr.list], hB⟩

set_option maxHeartbeats 800000 in
theorem balance_T (w : World) (l r : Tr VarV) (pl pr : Option Addr) (x : VarV) (hl : LT w l pl) (hr : LT w r pr) (hs : l.size + r.size ≤ 900000) :
    Calls Try.prog 124 #[.pointer pl, .agg #[.string x.name, .int .i64 x.nth], .pointer pr] w (Res w (l.list ++ x :: r.list)) := by
  have hB0 : Below w.heap.size w (w.alloc (.cells #[.string x.name, .int .i64 x.nth] 121)) := (Below.refl _ w).alloc (Nat.le_refl _) _
  have hx0 := mem_new w x
  have hl0 := hl.ext hB0
  have hr0 := hr.ext hB0
  by_cases h1 : 3 * (l.size + 1) < r.size + 1
  · cases r with
    | nil => simp [Tr.size, Tr.list] at h1
    | node i y o =>
      rw [size_node] at hs
      have hsn := size_node i o y
      go_enter Try.func124, Try.ntmps124
      go_wp2_with fail
      generalize (w.alloc (.cells #[.string x.name, .int .i64 x.nth] 121)) = W0 at hB0 hx0 hl0 hr0 ⊢
      refine (weight_T _ _ _ hr0 (by omega)).mono ?_
      rintro e w' ⟨rfl, rfl⟩
      go_wp2_with fail
      refine (weight_T _ _ _ hl0 (by omega)).mono ?_
      rintro e w' ⟨rfl, rfl⟩
      go_wp2_with fail
      refine (turnDown_T _ l i o pl pr x y hl0 hr0 (by omega)).mono ?_
      rintro e w' ⟨t, b, rfl, ht, hL, hB⟩
      go_wp2_with fail
      go_ret
      exact ⟨t, b, rfl, ht, hL, hB0.trans (hB.mono hB0.size)⟩
  · by_cases h2 : 3 * (r.size + 1) < l.size + 1
    · cases l with
      | nil => simp [Tr.size, Tr.list] at h2
      | node o y i =>
        rw [size_node] at hs
        have hsn := size_node o i y
        go_enter Try.func124, Try.ntmps124
        go_wp2_with fail
        generalize (w.alloc (.cells #[.string x.name, .int .i64 x.nth] 121)) = W0 at hB0 hx0 hl0 hr0 ⊢
        refine (weight_T _ _ _ hr0 (by omega)).mono ?_
        rintro e w' ⟨rfl, rfl⟩
        go_wp2_with fail
        refine (weight_T _ _ _ hl0 (by omega)).mono ?_
        rintro e w' ⟨rfl, rfl⟩
        go_wp2_with fail
        refine (weight_T _ _ _ hl0 (by omega)).mono ?_
        rintro e w' ⟨rfl, rfl⟩
        go_wp2_with fail
        refine (weight_T _ _ _ hr0 (by omega)).mono ?_
        rintro e w' ⟨rfl, rfl⟩
        go_wp2_with fail
        refine (turnUp_T _ r i o pr pl x y hr0 hl0 (by omega)).mono ?_
        rintro e w' ⟨t, b, rfl, ht, hL, hB⟩
        go_wp2_with fail
        go_ret
        exact ⟨t, b, rfl, ht, hL, hB0.trans (hB.mono hB0.size)⟩
    · go_enter Try.func124, Try.ntmps124
      go_wp2_with fail
      generalize (w.alloc (.cells #[.string x.name, .int .i64 x.nth] 121)) = W0 at hB0 hx0 hl0 hr0 ⊢
      refine (weight_T _ _ _ hr0 (by omega)).mono ?_
      rintro e w' ⟨rfl, rfl⟩
      go_wp2_with fail
      refine (weight_T _ _ _ hl0 (by omega)).mono ?_
      rintro e w' ⟨rfl, rfl⟩
      go_wp2_with fail
      refine (weight_T _ _ _ hl0 (by omega)).mono ?_
      rintro e w' ⟨rfl, rfl⟩
      go_wp2_with fail
      refine (weight_T _ _ _ hr0 (by omega)).mono ?_
      rintro e w' ⟨rfl, rfl⟩
      go_wp2_with fail
      refine (link_T _ l r pl pr x hl0 hr0 (by omega)).mono ?_
      rintro e w' ⟨b, rfl, ht, hB⟩
      go_wp2_with fail
      go_ret
      exact ⟨_, b, rfl, ht, rfl, hB0.trans (hB.mono hB0.size)⟩

end Go.Proofs.Ytmnpcpgdhaplaaa.V
