/- Plain facts on what Puts one behind the other make of a map's entries. Conditions: none.
What the statements' Elems answers. Conditions: the lists lie in memory; at most 1000000 elements. -/
import Derived.Test.YtfgpkbbbohipcaaRefElm3O
import Derived.Test.YtfgpkbbbohipcaaMapOpsM
import Derived.Test.YtfgpkbbbohipcaaRefElm2O
namespace Go.Proofs.Ytfgpkbbbohipcaa.M
open Go Go.RowKit

theorem Lin.zsymm {α : Type} {cmp : α → α → Int} (h : Lin cmp) {x y : α} (e : cmp x y = 0) : cmp y x = 0 := by
  have := h.swap x y; have := h.swap y x; omega
theorem Lin.ztrans {α : Type} {cmp : α → α → Int} (h : Lin cmp) {x y z : α} (e : cmp x y = 0) (f : cmp y z = 0) : cmp x z = 0 := by
  have a := h.trans x y z (by omega) (by omega)
  have b := h.trans z y x (by have := Lin.zsymm h f; omega) (by have := Lin.zsymm h e; omega)
  have := h.swap x z; have := h.swap z x; omega

def fillM (xs : List ElmV) : List EntM := xs.zipIdx.foldl (fun L p => upd L ⟨p.1, (p.2 : Int)⟩) []
def lst (xs : List ElmV) (x : ElmV) : Nat := xs.zipIdx.foldl (fun a p => if elmCmp p.1 x == 0 then p.2 else a) 0

theorem fillM_snoc (xs : List ElmV) (x : ElmV) : fillM (xs ++ [x]) = upd (fillM xs) ⟨x, (xs.length : Int)⟩ := by
  simp [fillM, List.zipIdx_append]
theorem lst_snoc (xs : List ElmV) (y x : ElmV) : lst (xs ++ [y]) x = if elmCmp y x == 0 then xs.length else lst xs x := by
  simp [lst, List.zipIdx_append]

theorem fillM_nil : fillM [] = [] := rfl

theorem has_keysM (L : List EntM) (x : EntM) : has elmCmp (L.map EntM.key) x.key = has entCmpM L x := by
  unfold has; rw [List.any_map]; rfl
theorem pos_keysM (L : List EntM) (x : EntM) : pos elmCmp (L.map EntM.key) x.key = pos entCmpM L x := by
  unfold pos; rw [List.filter_map, List.length_map]; rfl

theorem upd_keys {L : List EntM} {x : EntM} (hs : Sorted entCmpM L) : (upd L x).map EntM.key = put elmCmp (L.map EntM.key) x.key := by
  unfold upd put
  rw [has_keysM]
  cases h : has entCmpM L x
  · rw [if_neg (by simp), if_neg (by simp), ins, ins, pos_keysM]; simp
  · rw [if_pos rfl, if_pos rfl]
    obtain ⟨y, hy, -⟩ := has_at entCmpM_lin L x hs h
    rw [hy]
    show (L.set (pos entCmpM L x) ⟨y.key, x.v⟩).map EntM.key = _
    rw [List.map_set]
    show (L.map EntM.key).set (pos entCmpM L x) y.key = _
    have : (L.map EntM.key)[pos entCmpM L x]? = some y.key := by simp [hy]
    obtain ⟨h1, h2⟩ := List.getElem?_eq_some_iff.1 this
    rw [← h2]; exact List.set_getElem_self h1

theorem sorted_keysM {L : List EntM} : Sorted entCmpM L ↔ Sorted elmCmp (L.map EntM.key) := by
  unfold Sorted; rw [List.pairwise_map]; rfl

theorem fill_ok (xs : List ElmV) : ∀ n, Sorted entCmpM (fillM (xs.take n)) ∧ (fillM (xs.take n)).map EntM.key = O.srt (xs.take n) ∧ ∀ z ∈ fillM (xs.take n), ∀ x, elmCmp z.key x = 0 → z.v = (lst (xs.take n) x : Int) := by
  intro n
  induction n with
  | zero => simp [fillM, O.srt, Sorted]
  | succ n ih =>
    obtain ⟨hs, hk, hv⟩ := ih
    rcases Nat.lt_or_ge n xs.length with hn | hn
    · have e : xs.take (n + 1) = xs.take n ++ [xs[n]] := by rw [List.take_add_one]; simp [hn]
      have hlen : (xs.take n).length = n := by simp; omega
      generalize xs[n] = y at e
      rw [e]
      generalize xs.take n = ys at hs hk hv hlen
      rw [fillM_snoc, O.srt_snoc, ← hk, ← upd_keys (x := ⟨y, (ys.length : Int)⟩) hs]
      have hs' : Sorted entCmpM (upd (fillM ys) ⟨y, (ys.length : Int)⟩) := by
        rw [sorted_keysM, upd_keys hs]
        exact sorted_put elmCmp_lin _ _ (sorted_keysM.1 hs)
      refine ⟨hs', rfl, fun z hz x hx => ?_⟩
      rw [lst_snoc]
      unfold upd at hz
      cases h : has entCmpM (fillM ys) ⟨y, (ys.length : Int)⟩
      · rw [h, if_neg (by simp), ins] at hz
        have hz' : z = ⟨y, (ys.length : Int)⟩ ∨ z ∈ fillM ys := by
          rcases List.mem_append.1 hz with hz | hz
          · exact .inr (List.mem_of_mem_take hz)
          · rcases List.mem_cons.1 hz with hz | hz
            · exact .inl hz
            · exact .inr (List.mem_of_mem_drop hz)
        rcases hz' with rfl | hz'
        · rw [if_pos (by simpa using hx)]
        · rw [if_neg, hv z hz' x hx]
          intro hyx
          have hyx' : elmCmp y x = 0 := by simpa using hyx
          have : elmCmp y z.key = 0 := Lin.ztrans elmCmp_lin hyx' (Lin.zsymm elmCmp_lin hx)
          have h2 : has entCmpM (fillM ys) ⟨y, (ys.length : Int)⟩ = true := List.any_eq_true.2 ⟨z, hz', by simpa [entCmpM] using this⟩
          rw [h] at h2; cases h2
      · rw [h, if_pos rfl] at hz
        obtain ⟨w, hw, hw0⟩ := has_at entCmpM_lin (fillM ys) _ hs h
        have hw0' : elmCmp y w.key = 0 := hw0
        rw [hw] at hz
        have hz2 : z ∈ (fillM ys).set (pos entCmpM (fillM ys) ⟨y, (ys.length : Int)⟩) ⟨w.key, (ys.length : Int)⟩ := hz
        obtain ⟨q, hq⟩ := List.mem_iff_getElem?.1 hz2
        by_cases hqp : pos entCmpM (fillM ys) ⟨y, (ys.length : Int)⟩ = q
        · rw [List.getElem?_set, if_pos hqp] at hq
          split at hq
          · obtain rfl : (⟨w.key, (ys.length : Int)⟩ : EntM) = z := by simpa using hq
            rw [if_pos]
            have : elmCmp y x = 0 := Lin.ztrans elmCmp_lin hw0' hx
            simpa using this
          · cases hq
        · rw [List.getElem?_set, if_neg hqp] at hq
          rw [if_neg, hv z (List.mem_of_getElem? hq) x hx]
          intro hyx
          have hyx' : elmCmp y x = 0 := by simpa using hyx
          have hzw : elmCmp z.key w.key = 0 := Lin.ztrans elmCmp_lin (Lin.ztrans elmCmp_lin hx (Lin.zsymm elmCmp_lin hyx')) hw0'
          obtain ⟨a1, a2⟩ := List.getElem?_eq_some_iff.1 hw
          obtain ⟨b1, b2⟩ := List.getElem?_eq_some_iff.1 hq
          rcases Nat.lt_or_gt_of_ne hqp with hlt | hlt
          · have := List.pairwise_iff_getElem.1 hs _ _ a1 b1 hlt
            rw [a2, b2] at this
            have h3 : elmCmp w.key z.key < 0 := this
            have := Lin.zsymm elmCmp_lin hzw; omega
          · have := List.pairwise_iff_getElem.1 hs _ _ b1 a1 hlt
            rw [a2, b2] at this
            have h3 : elmCmp z.key w.key < 0 := this
            omega
    · rw [List.take_of_length_le (by omega : xs.length ≤ n + 1)]
      rw [List.take_of_length_le hn] at hs hk hv
      exact ⟨hs, hk, hv⟩

theorem any_symm (ys : List ElmV) (x : ElmV) : (O.fst? ys x).isSome = ys.any (fun y => elmCmp x y == 0) := by
  rw [Bool.eq_iff_iff, List.find?_isSome, List.any_eq_true]
  constructor
  · rintro ⟨y, hy, h⟩; exact ⟨y, hy, by have : elmCmp y x = 0 := by simpa using h
                                        simpa using Lin.zsymm elmCmp_lin this⟩
  · rintro ⟨y, hy, h⟩; exact ⟨y, hy, by have : elmCmp x y = 0 := by simpa using h
                                        simpa using Lin.zsymm elmCmp_lin this⟩

theorem has_putE (l : List ElmV) (x y : ElmV) : has elmCmp (put elmCmp l y) x = (has elmCmp l x || elmCmp x y == 0) := by
  unfold put
  cases h : has elmCmp l y
  · rw [if_neg (by simp), ins]
    conv => rhs; rw [← List.take_append_drop (pos elmCmp l y) l]
    unfold has
    simp only [List.any_append, List.any_cons]
    rw [Bool.eq_iff_iff]; simp only [Bool.or_eq_true]
    constructor
    · rintro (h | h | h)
      · exact .inl (.inl h)
      · exact .inr h
      · exact .inl (.inr h)
    · rintro ((h | h) | h)
      · exact .inl h
      · exact .inr (.inr h)
      · exact .inr (.inl h)
  · rw [if_pos rfl, Bool.eq_iff_iff, Bool.or_eq_true]
    constructor
    · exact .inl
    · rintro (k | k)
      · exact k
      · obtain ⟨z, hz, h0⟩ := List.any_eq_true.1 h
        have k' : elmCmp x y = 0 := by simpa using k
        have h0' : elmCmp y z = 0 := by simpa using h0
        exact List.any_eq_true.2 ⟨z, hz, by simpa using Lin.ztrans elmCmp_lin k' h0'⟩

theorem has_srt (ys : List ElmV) (x : ElmV) : has elmCmp (O.srt ys) x = ys.any (fun y => elmCmp x y == 0) := by
  have key : ∀ (ys l : List ElmV), has elmCmp (ys.foldl (put elmCmp) l) x = (has elmCmp l x || ys.any (fun y => elmCmp x y == 0)) := by
    intro ys
    induction ys with
    | nil => intro l; simp
    | cons y ys ih => intro l; rw [List.foldl_cons, ih, has_putE]; simp [Bool.or_assoc]
  rw [O.srt, key]; simp [has]

/-- Is a key there? Just if an element ahead is one with it. -/
theorem has_fill (xs : List ElmV) (n : Nat) (x : ElmV) (v : Int) : has entCmpM (fillM (xs.take n)) ⟨x, v⟩ = (O.fst? (xs.take n) x).isSome := by
  rw [any_symm, ← has_srt, ← (fill_ok xs n).2.1, ← has_keysM]

theorem fill_length (xs : List ElmV) : (fillM xs).length = (O.srt xs).length := by
  have := (fill_ok xs xs.length).2.1
  rw [List.take_length] at this
  rw [← this, List.length_map]

theorem fill_le (xs : List ElmV) (n : Nat) : (fillM (xs.take n)).length ≤ xs.length := by
  have h1 := (fill_ok xs n).2.1
  have h2 : (fillM (xs.take n)).length = (O.srt (xs.take n)).length := by rw [← h1, List.length_map]
  have h3 := O.srt_length (xs.take n)
  have h4 : (xs.take n).length ≤ xs.length := by simp; omega
  omega

end Go.Proofs.Ytfgpkbbbohipcaa.M

namespace Go.Proofs.Ytfgpkbbbohipcaa.O
open Go Go.RowKit

set_option maxRecDepth 100000 in
set_option maxHeartbeats 1600000 in
theorem elems_T (w : World) (v u : Value) (xs ys : List ElmV) (hv : SliceOf w v xs) (hu : SliceOf w u ys) (hs : xs.length ≤ 1000000) (ht : ys.length ≤ 1000000) :
    Calls Try.prog 34 #[v, u] w fun e w' => (∃ b, e = .returned (.bool b) ∧ (b = true ↔ xs = ys)) ∧ Below w.heap.size w w' := by
  have hse := elm_equal'
  have hsg := elm_guard
  obtain ⟨a, cap, rfl, hc⟩ := hv
  obtain ⟨a', cap', rfl, hc'⟩ := hu
  by_cases hl : xs.length = ys.length
  · have hl1 : ((xs.length : Int) != ys.length) = false := by simp [hl]
    have Hl := Lib.hid hl
    have hl2 : xs.length ≤ ys.length := by omega
    clear hl
    go_enter Try.func34, Try.ntmps34
    go_wp2_with fail
    go_loopg [5] xs.length (fun m i wr => ∃ j : Nat, i = .int .i64 j ∧ j ≤ xs.length ∧ Hid (m = xs.length - j ∧ xs.take j = ys.take j) ∧ Below w.heap.size w wr)
    case atStart => exact ⟨0, rfl, by omega, Lib.hid ⟨rfl, rfl⟩, Below.refl _ _⟩
    case round =>
      obtain ⟨j, rfl, hj, Hm, hB⟩ := hrel
      by_cases hlt : j < xs.length
      · rcases hc with rfl | ⟨b, off, rfl, hel⟩
        · simp at hlt
        · rcases hc' with rfl | ⟨b', off', rfl, hel'⟩
          · have : xs.length = 0 := by simpa using hl2
            omega
          · obtain ⟨x, hx⟩ : ∃ x, xs[j]? = some x := ⟨xs[j], by simp [hlt]⟩
            obtain ⟨y, hy⟩ : ∃ y, ys[j]? = some y := ⟨ys[j]'(by omega), List.getElem?_eq_getElem _⟩
            have hxc := memo_at hel hx hB
            have hyc := memo_at hel' hy hB
            have Hx := Lib.hid hx
            have Hy := Lib.hid hy
            have hltt : j < ys.length := by omega
            clear hx hy hel hel'
            by_cases hxy : x = y
            · have hs1 : sameE ⟨⟨x.id.k, x.id.t, x.id.n⟩, ⟨x.attr.k, x.attr.t, x.attr.n⟩, ⟨x.val.k, x.val.t, x.val.n⟩, x.acc, x.goal, x.tag⟩ ⟨⟨y.id.k, y.id.t, y.id.n⟩, ⟨y.attr.k, y.attr.t, y.attr.n⟩, ⟨y.val.k, y.val.t, y.val.n⟩, y.acc, y.goal, y.tag⟩ = true := sameE_iff.2 (by rw [hxy])
              have Hxy := Lib.hid hxy
              clear hxy
              go_wp2_with fail
              go_quiet (fail)
              go_wp2_with fail
              go_roundg (xs.length - (j + 1))
              case measure => rw [Hm.out.1]; omega
              case rel =>
                exact ⟨j + 1, by go_num, by omega, Lib.hid ⟨rfl, by rw [List.take_add_one, List.take_add_one, Hx.out, Hy.out, Hm.out.2, Hxy.out]⟩, hB.trans (below_drewN _ _ _)⟩
            · have hs1 : sameE ⟨⟨x.id.k, x.id.t, x.id.n⟩, ⟨x.attr.k, x.attr.t, x.attr.n⟩, ⟨x.val.k, x.val.t, x.val.n⟩, x.acc, x.goal, x.tag⟩ ⟨⟨y.id.k, y.id.t, y.id.n⟩, ⟨y.attr.k, y.attr.t, y.attr.n⟩, ⟨y.val.k, y.val.t, y.val.n⟩, y.acc, y.goal, y.tag⟩ = false := by
                have : ¬ sameE x y = true := fun h => hxy (sameE_iff.1 h)
                simpa using this
              have Hxy := Lib.hid hxy
              clear hxy
              go_wp2_with fail
              go_quiet (fail)
              go_wp2_with fail
              go_ret
              refine ⟨⟨false, rfl, ?_⟩, hB.trans (below_drewN _ _ _)⟩
              have : xs ≠ ys := by
                rintro rfl
                have := Hx.out.symm.trans Hy.out
                cases this
                exact Hxy.out rfl
              simp [this]
      · obtain rfl : j = xs.length := by omega
        go_wp2_with fail
        go_ret
        refine ⟨⟨true, rfl, ?_⟩, hB⟩
        have h := Hm.out.2
        have hl := Hl.out
        rw [List.take_length, hl, List.take_length] at h
        simp [h]
  · have hl1 : ((xs.length : Int) != ys.length) = true := by simp; omega
    have Hl := Lib.hid hl
    clear hl
    go_enter Try.func34, Try.ntmps34
    go_wp2_with fail
    go_ret
    refine ⟨⟨false, rfl, ?_⟩, Below.refl _ _⟩
    have : xs ≠ ys := by rintro rfl; exact Hl.out rfl
    simp [this]

end Go.Proofs.Ytfgpkbbbohipcaa.O
