/- What the statements' One, Before, Find, Put, Sort of elements answer, and Elems. Conditions: the lists lie in memory; at most 100000 elements. -/
import Derived.Test.YtcpgjekkcpfpaaaElmEq
import Derived.Test.YtcpgjekkcpfpaaaPartSO
import Derived.Test.YtcpgjekkcpfpaaaRefPutS
namespace Go.Proofs.Ytcpgjekkcpfpaaa.O
open Go Go.RowKit

/-- A slice is not longer than its room. -/
def Fits (v : Value) : Prop := ∀ a n cap, v = .slice a n cap → n ≤ cap ∧ (a = none → cap = 0)

abbrev flat (ys : List ElmV) : List Value := ys.flatMap fun x => [.int .i64 x.id.k, .string x.id.t, .int .i64 x.id.n, .int .i64 x.attr.k, .string x.attr.t, .int .i64 x.attr.n, .int .i64 x.val.k, .string x.val.t, .int .i64 x.val.n, .bool x.acc, .bool x.goal, .int .i64 x.tag]

theorem flat_one : ∀ (ys : List ElmV), ∀ u ∈ flat ys, u.oneCell' = true := by
  intro ys u hu
  obtain ⟨x, -, h⟩ := List.mem_flatMap.1 hu
  simp at h
  rcases h with rfl | rfl | rfl | rfl | rfl | rfl | rfl | rfl | rfl | rfl | rfl | rfl <;> rfl

theorem Elems.cells {w : World} {b off : Nat} {ys : List ElmV} (h : Elems w b off ys) {q : Nat} {y : ElmV} (hy : ys[q]? = some y) : ∀ j u, ([.int .i64 y.id.k, .string y.id.t, .int .i64 y.id.n, .int .i64 y.attr.k, .string y.attr.t, .int .i64 y.attr.n, .int .i64 y.val.k, .string y.val.t, .int .i64 y.val.n, .bool y.acc, .bool y.goal, .int .i64 y.tag] : List Value)[j]? = some u → w.cell? ⟨b, off + q * 12 + j, none⟩ = some u := by
  obtain ⟨e0, e1, e2, e3, e4, e5, e6, e7, e8, e9, e10, e11⟩ := h q y hy
  intro j u hu
  match j, hu with
  | 0, hu => cases hu; exact e0
  | 1, hu => cases hu; exact e1
  | 2, hu => cases hu; exact e2
  | 3, hu => cases hu; exact e3
  | 4, hu => cases hu; exact e4
  | 5, hu => cases hu; exact e5
  | 6, hu => cases hu; exact e6
  | 7, hu => cases hu; exact e7
  | 8, hu => cases hu; exact e8
  | 9, hu => cases hu; exact e9
  | 10, hu => cases hu; exact e10
  | 11, hu => cases hu; exact e11
  | n + 12, hu => simp at hu

theorem Elems.news {w : World} {b off : Nat} {ys : List ElmV} (h : Elems w b off ys) : ∀ p u, (flat ys)[p]? = some u → w.cell? ((⟨b, off, none⟩ : Addr).add p) = some u := by
  intro p u hp
  have hl := (List.getElem?_eq_some_iff.1 hp).1
  have hfl : (flat ys).length = ys.length * 12 := flatk_length ys
  have hql : p / 12 < ys.length := by omega
  obtain ⟨y, hy⟩ : ∃ y, ys[p / 12]? = some y := ⟨ys[p / 12], by simp [hql]⟩
  have hp2 : p = p / 12 * 12 + p % 12 := by omega
  obtain ⟨v, hv⟩ : ∃ v, ([.int .i64 y.id.k, .string y.id.t, .int .i64 y.id.n, .int .i64 y.attr.k, .string y.attr.t, .int .i64 y.attr.n, .int .i64 y.val.k, .string y.val.t, .int .i64 y.val.n, .bool y.acc, .bool y.goal, .int .i64 y.tag] : List Value)[p % 12]? = some v := ⟨([.int .i64 y.id.k, .string y.id.t, .int .i64 y.id.n, .int .i64 y.attr.k, .string y.attr.t, .int .i64 y.attr.n, .int .i64 y.val.k, .string y.val.t, .int .i64 y.val.n, .bool y.acc, .bool y.goal, .int .i64 y.tag] : List Value)[p % 12]'(by simp; omega), List.getElem?_eq_getElem _⟩
  have h1 := flatk ys (p / 12) (p % 12) y v hy hv
  rw [← hp2, hp] at h1
  cases h1
  have h2 := h.cells hy _ _ hv
  rw [Go.WideShapes.add_plain]
  rw [show off + p = off + p / 12 * 12 + p % 12 by omega]
  exact h2

theorem Made.fits {B : Nat} {W : World} {v : Value} {xs : List ElmV} (h : Made B W v xs) : Fits v := by
  rcases h.2 with ⟨rfl, h0⟩ | ⟨g, cap, cur, rfl, hb, hg, hn, hm, hs, ht⟩
  · rintro a n c e; cases e; exact ⟨Nat.le_refl _, fun _ => rfl⟩
  · rintro a n c e; cases e; exact ⟨hn, fun h => by cases h⟩

/-- Where symbols that are appended lie. -/
def From (w : World) (p : Option Addr) (c : Nat) (ys : List ElmV) : Prop :=
  (p = none ∧ c = 0 ∧ ys = []) ∨ ∃ ad, p = some ad ∧ ∀ j u, (flat ys)[j]? = some u → w.cell? (ad.add j) = some u

theorem append_elms {w : World} {ops : Array Oper} {rest : List Oper} {o : Oper} {a : Act} {Q : Exit → Act → World → Prop} (hgd : o.guard = none) (s x : Operand)
    (ho : o.op = .call { callee := .builtin .append, args := #[s, x], argTypes := #[22, 22] })
    (B : Nat) (v : Value) (zs : List ElmV) (hs : a.eval s = v) (hown : Made B w v zs) (p : Option Addr) (m c : Nat) (ys : List ElmV) (hm : ys.length = m) (hx : a.eval x = .slice p m c) (hsrc : From w p c ys)
    (hlen : zs.length + m ≤ 1000000) (hbase : B ≤ w.heap.size)
    (h : ∀ v' w', Made B w' v' (zs ++ ys) → w.grownBy w' v.ownBlock → wpList Try.prog ops Q rest (a.put o.dst v') w') : wpList Try.prog ops Q (o :: rest) a w := by
  obtain ⟨i0, hi, hz0, hz1, hz2⟩ := info_parts infoT
  subst hm
  rcases hsrc with ⟨rfl, rfl, rfl⟩ | ⟨ad, rfl, hn⟩
  · refine wpList_append_own_none hgd s x _ ho B 29 i0 12 Try.underlying22 hi v zs.length (flat zs) hs hown hx ?_
    exact h v w (by simpa using hown) ⟨rfl, rfl, rfl, Nat.le_refl _, fun _ _ _ => rfl⟩
  · refine wpList_append_own w hgd s x _ ho B 29 i0 (.agg #[.int .i64 0, .string ⟨#[]⟩, .int .i64 0, .int .i64 0, .string ⟨#[]⟩, .int .i64 0, .int .i64 0, .string ⟨#[]⟩, .int .i64 0, .bool false, .bool false, .int .i64 0]) 12 112 Try.underlying22 hi hz0 hz1 hz2 rfl (by decide) v zs.length (flat zs) hs hown ad ys.length c (flat ys) hx (flatk_length ys) hn (flat_one ys) (by unfold maxLen; omega) (by omega) hbase ?_
    intro v' w' h1 h2 _
    exact h v' w' (by unfold Made; simpa using h1) h2

theorem made_below {B : Nat} {w w' : World} {v : Value} {zs : List ElmV} (h : Made B w v zs) (hg : w.grownBy w' v.ownBlock) (hB : B ≤ w.heap.size) : Below B w w' :=
  (Below.refl B w).grown hg hB (fun k e => (World.ownsRow.lt h k e).1)

theorem nil_below {B : Nat} {w w' : World} (hg : w.grownBy w' (Value.slice none 0 0).ownBlock) (hB : B ≤ w.heap.size) : Below B w w' :=
  (Below.refl B w).grown hg hB (fun k e => by cases e)

theorem boxes2 (w : World) (x y : ElmV) : Below w.heap.size w ((w.alloc (.cells #[.int .i64 x.id.k, .string x.id.t, .int .i64 x.id.n, .int .i64 x.attr.k, .string x.attr.t, .int .i64 x.attr.n, .int .i64 x.val.k, .string x.val.t, .int .i64 x.val.n, .bool x.acc, .bool x.goal, .int .i64 x.tag] 29)).alloc (.cells #[.int .i64 y.id.k, .string y.id.t, .int .i64 y.id.n, .int .i64 y.attr.k, .string y.attr.t, .int .i64 y.attr.n, .int .i64 y.val.k, .string y.val.t, .int .i64 y.val.n, .bool y.acc, .bool y.goal, .int .i64 y.tag] 29)) := ((Below.refl _ w).alloc (Nat.le_refl _) _).alloc (by simp) _

set_option maxRecDepth 100000 in
set_option maxHeartbeats 1600000 in
theorem one_T (w : World) (x y : ElmV) : Calls Try.prog 24 #[.agg #[.int .i64 x.id.k, .string x.id.t, .int .i64 x.id.n, .int .i64 x.attr.k, .string x.attr.t, .int .i64 x.attr.n, .int .i64 x.val.k, .string x.val.t, .int .i64 x.val.n, .bool x.acc, .bool x.goal, .int .i64 x.tag], .agg #[.int .i64 y.id.k, .string y.id.t, .int .i64 y.id.n, .int .i64 y.attr.k, .string y.attr.t, .int .i64 y.attr.n, .int .i64 y.val.k, .string y.val.t, .int .i64 y.val.n, .bool y.acc, .bool y.goal, .int .i64 y.tag]] w fun e w' => e = .returned (.bool (elmCmp x y == 0)) ∧ Below w.heap.size w w' := by
  have hse := sym_equal'
  have hsg := sym_guard
  have key : (elmCmp x y == 0) = (same x.id y.id && (same x.attr y.attr && (same x.val y.val && (x.acc == y.acc)))) := by
    rw [Bool.eq_iff_iff]
    simp only [beq_iff_eq, elmCmp_zero, Bool.and_eq_true, same_iff]
  rw [key]
  clear key
  cases h1 : same x.id y.id
  · have h1' : same ⟨x.id.k, x.id.t, x.id.n⟩ ⟨y.id.k, y.id.t, y.id.n⟩ = false := h1
    clear h1
    go_enter Try.func24, Try.ntmps24
    go_wp2_with fail
    go_ret
    exact ⟨rfl, boxes2 w x y⟩
  · have h1' : same ⟨x.id.k, x.id.t, x.id.n⟩ ⟨y.id.k, y.id.t, y.id.n⟩ = true := h1
    clear h1
    cases h2 : same x.attr y.attr
    · have h2' : same ⟨x.attr.k, x.attr.t, x.attr.n⟩ ⟨y.attr.k, y.attr.t, y.attr.n⟩ = false := h2
      clear h2
      go_enter Try.func24, Try.ntmps24
      go_wp2_with fail
      go_ret
      exact ⟨rfl, boxes2 w x y⟩
    · have h2' : same ⟨x.attr.k, x.attr.t, x.attr.n⟩ ⟨y.attr.k, y.attr.t, y.attr.n⟩ = true := h2
      clear h2
      cases h3 : same x.val y.val
      · have h3' : same ⟨x.val.k, x.val.t, x.val.n⟩ ⟨y.val.k, y.val.t, y.val.n⟩ = false := h3
        clear h3
        go_enter Try.func24, Try.ntmps24
        go_wp2_with fail
        go_ret
        exact ⟨rfl, boxes2 w x y⟩
      · have h3' : same ⟨x.val.k, x.val.t, x.val.n⟩ ⟨y.val.k, y.val.t, y.val.n⟩ = true := h3
        clear h3
        cases h4 : (x.acc == y.acc)
        all_goals
          go_enter Try.func24, Try.ntmps24
          go_wp2_with fail
          go_ret
          exact ⟨rfl, boxes2 w x y⟩

set_option maxRecDepth 100000 in
set_option maxHeartbeats 1600000 in
theorem beforeE_T (w : World) (x y : ElmV) : Calls Try.prog 31 #[.agg #[.int .i64 x.id.k, .string x.id.t, .int .i64 x.id.n, .int .i64 x.attr.k, .string x.attr.t, .int .i64 x.attr.n, .int .i64 x.val.k, .string x.val.t, .int .i64 x.val.n, .bool x.acc, .bool x.goal, .int .i64 x.tag], .agg #[.int .i64 y.id.k, .string y.id.t, .int .i64 y.id.n, .int .i64 y.attr.k, .string y.attr.t, .int .i64 y.attr.n, .int .i64 y.val.k, .string y.val.t, .int .i64 y.val.n, .bool y.acc, .bool y.goal, .int .i64 y.tag]] w fun e w' => e = .returned (.bool (decide (elmCmp x y < 0))) ∧ Below w.heap.size w w' := by
  have hse := sym_equal'
  have hsg := sym_guard
  have hb2 := boxes2 w x y
  cases h1 : same x.id y.id
  · have h1' : same ⟨x.id.k, x.id.t, x.id.n⟩ ⟨y.id.k, y.id.t, y.id.n⟩ = false := h1
    have hn : ¬ symCmp x.id y.id = 0 := fun h => by rw [(same_iff).2 ((S.symCmp_exact _ _).1 h)] at h1; cases h1
    have key : Hid (elmCmp x y = symCmp x.id y.id) := Lib.hid (by simp [elmCmp, lex, hn])
    clear h1 hn
    go_enter Try.func31, Try.ntmps31
    go_wp2_with fail
    refine (S.before_T _ x.id y.id).mono ?_
    rintro e w1 ⟨rfl, hB1⟩
    go_wp2_with fail
    go_ret
    exact ⟨by rw [key.out]; rfl, hb2.trans (hB1.mono hb2.size)⟩
  · have h1' : same ⟨x.id.k, x.id.t, x.id.n⟩ ⟨y.id.k, y.id.t, y.id.n⟩ = true := h1
    have z1 : symCmp x.id y.id = 0 := (S.symCmp_exact _ _).2 ((same_iff).1 h1)
    clear h1
    cases h2 : same x.attr y.attr
    · have h2' : same ⟨x.attr.k, x.attr.t, x.attr.n⟩ ⟨y.attr.k, y.attr.t, y.attr.n⟩ = false := h2
      have hn : ¬ symCmp x.attr y.attr = 0 := fun h => by rw [(same_iff).2 ((S.symCmp_exact _ _).1 h)] at h2; cases h2
      have key : Hid (elmCmp x y = symCmp x.attr y.attr) := Lib.hid (by simp [elmCmp, lex, hn, z1])
      clear h2 hn z1
      go_enter Try.func31, Try.ntmps31
      go_wp2_with fail
      refine (S.before_T _ x.attr y.attr).mono ?_
      rintro e w1 ⟨rfl, hB1⟩
      go_wp2_with fail
      go_ret
      exact ⟨by rw [key.out]; rfl, hb2.trans (hB1.mono hb2.size)⟩
    · have h2' : same ⟨x.attr.k, x.attr.t, x.attr.n⟩ ⟨y.attr.k, y.attr.t, y.attr.n⟩ = true := h2
      have z2 : symCmp x.attr y.attr = 0 := (S.symCmp_exact _ _).2 ((same_iff).1 h2)
      clear h2
      cases h3 : same x.val y.val
      · have h3' : same ⟨x.val.k, x.val.t, x.val.n⟩ ⟨y.val.k, y.val.t, y.val.n⟩ = false := h3
        have hn : ¬ symCmp x.val y.val = 0 := fun h => by rw [(same_iff).2 ((S.symCmp_exact _ _).1 h)] at h3; cases h3
        have key : Hid (elmCmp x y = symCmp x.val y.val) := Lib.hid (by simp [elmCmp, lex, hn, z1, z2])
        clear h3 hn z1 z2
        go_enter Try.func31, Try.ntmps31
        go_wp2_with fail
        refine (S.before_T _ x.val y.val).mono ?_
        rintro e w1 ⟨rfl, hB1⟩
        go_wp2_with fail
        go_ret
        exact ⟨by rw [key.out]; rfl, hb2.trans (hB1.mono hb2.size)⟩
      · have h3' : same ⟨x.val.k, x.val.t, x.val.n⟩ ⟨y.val.k, y.val.t, y.val.n⟩ = true := h3
        have z3 : symCmp x.val y.val = 0 := (S.symCmp_exact _ _).2 ((same_iff).1 h3)
        clear h3
        have key : elmCmp x y = bcmp x.acc y.acc := by simp [elmCmp, lex, z1, z2, z3]
        clear z1 z2 z3
        cases hx : x.acc <;> cases hy : y.acc
        all_goals
          rw [hx, hy] at key
          have Key := Lib.hid key
          clear key
          go_enter Try.func31, Try.ntmps31
          go_wp2_with fail
          go_ret
          rw [hx, hy] at hb2
          exact ⟨by rw [Key.out]; rfl, hb2⟩

end Go.Proofs.Ytcpgjekkcpfpaaa.O
