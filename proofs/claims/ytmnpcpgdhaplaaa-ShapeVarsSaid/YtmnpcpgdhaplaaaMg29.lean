/- A production in a box: what is told of it at each later world. Conditions: none.
What the statements' own has and met answer. Conditions: what they are given lies in memory; at most 10000 names.
What the statements' Within answers. Conditions: a limit of at least 1. -/
import Derived.Test.YtmnpcpgdhaplaaaMg26
import Derived.Test.YtmnpcpgdhaplaaaHvPl
import Derived.Test.YtmnpcpgdhaplaaaWake
import Derived.Test.YtmnpcpgdhaplaaaRwTy
import Derived.Test.YtmnpcpgdhaplaaaMg1
namespace Go.Proofs.Ytmnpcpgdhaplaaa
open Go Go.RowKit

abbrev prodCells (p : ProdV) : List Value := [.string p.name, .slice p.conds.a p.conds.n p.conds.c, .slice p.acts.a p.acts.n p.acts.c]

/-- A production's box, and what its world keeps. -/
structure PBox (w : World) (p : ProdV) (W0 : World) : Prop where
  below : Below w.heap.size w W0
  box : W0.heap[w.heap.size]? = some (.cells #[.string p.name, .slice p.conds.a p.conds.n p.conds.c, .slice p.acts.a p.acts.n p.acts.c] 25 (0, 0))

theorem pbox (w : World) (p : ProdV) : PBox w p (w.alloc (.cells #[.string p.name, .slice p.conds.a p.conds.n p.conds.c, .slice p.acts.a p.acts.n p.acts.c] 25)) :=
  ⟨(Below.refl w.heap.size w).alloc (Nat.le_refl _) _, heap_alloc_new w _⟩
theorem PBox.next {w W0 W : World} {p : ProdV} (h : PBox w p W0) (hB : Below W0.heap.size W0 W) : PBox w p W := ⟨h.below.trans (hB.mono h.below.size), (hB.block _ (lt_of_block h.box)).trans h.box⟩
theorem PBox.cells {w W0 : World} {p : ProdV} (h : PBox w p W0) : W0.cell? ⟨w.heap.size, 0, none⟩ = some (.string p.name) ∧ W0.cell? ⟨w.heap.size, 1, none⟩ = some (.slice p.conds.a p.conds.n p.conds.c) ∧ W0.cell? ⟨w.heap.size, 2, none⟩ = some (.slice p.acts.a p.acts.n p.acts.c) := prod_cells h.box

end Go.Proofs.Ytmnpcpgdhaplaaa

namespace Go.Proofs.Ytmnpcpgdhaplaaa
open Go Go.RowKit

abbrev strCells (s : ByteArray) : List Value := [.string s]
theorem strTy : RowTy strCells 9 33 1 16 (.string ⟨#[]⟩) :=
  ⟨Try.underlying33, by kernel_rfl, rfl, by decide, fun _ => rfl, fun x u hu => by simp at hu; rcases hu with rfl; rfl, by decide⟩

theorem step_append_mk {α : Type} {cells : α → List Value} {T t : TypeId} {k bytes : Nat} {z : Value} (hT : RowTy cells T t k bytes z) {w : World} {ops : Array Oper} {o : Oper} {a : Act} {K : Act → World → Prop} {Q : Exit → Act → World → Prop} {E : Prop} (hgd : o.guard = none) (s x : Operand)
    (ho : o.op = .call { callee := .builtin .append, args := #[s, x], argTypes := #[t, t] })
    (B : Nat) (v : Value) (xs : List α) (hs : a.eval s = v) (hown : Mk cells T k B w v xs) (lo hi : Nat) (p : Option Addr) (m c : Nat) (ys : List α) (hx : a.eval x = .slice p m c) (hsrc : RowIn lo hi k cells w ⟨p, m, c⟩ ys)
    (hlen : xs.length + ys.length ≤ 100000) (hbase : B ≤ w.heap.size)
    (h : ∀ g cap w', Mk cells T k B w' (.slice g (xs.length + ys.length) cap) (xs ++ ys) → w.grownBy w' v.ownBlock → (∀ g', (Value.slice g (xs.length + ys.length) cap).ownBlock = some g' → v.ownBlock = some g' ∨ w.heap.size ≤ g') → K (a.put o.dst (.slice g (xs.length + ys.length) cap)) w') :
    if Region.wanted o (yielded ops a.tmps) = true then Oper.wp Try.prog o a w K Q else E := by
  have hw : Region.wanted o (yielded ops a.tmps) = true := by simp [Region.wanted, hgd]
  rw [if_pos hw]
  obtain ⟨i0, hi0, hz0, hz1, hz2⟩ := info_parts3 hT.info
  have hm : m = ys.length := hsrc.1
  obtain ⟨hp, hnews⟩ := row_news hT hsrc
  have hb : (xs.length + ys.length) * bytes ≤ 100000 * 1000 := Nat.mul_le_mul hlen hT.small
  obtain ⟨v', w', hrun, h1, h2, h3⟩ := run_append_at (P := Try.prog) w B t o.type T i0 z k bytes hT.under hi0 hz0 hz1 hz2 hT.zero hT.pos v xs.length (flatR cells xs) hown p m c (flatR cells ys) (by rw [flatR_length hT.len, hm]) hp hnews (flatR_one' hT.one ys) (by unfold maxLen; omega) (by rw [hm]; omega) hbase
  rw [← flatR_append, hm] at h1
  have h1' : Mk cells T k B w' v' (xs ++ ys) := by unfold Mk; rwa [List.length_append]
  obtain ⟨s', rfl, hn, hnil⟩ := h1'.head
  rw [List.length_append] at hn
  rw [hn] at h1' h3 hrun
  unfold Oper.wp
  simp [execOp, ho, resolve, invoke, builtin, hs, hx, hrun, Result.andThen]
  exact h s'.a s'.c w' h1' h2 h3

theorem scmp_iff {a b : ByteArray} : scmp a b = 0 ↔ a = b := by
  constructor
  · intro h
    by_cases e : a.toList = b.toList
    · exact toList_inj e
    · cases hl : Op.bytesLess a.toList b.toList
      · have : scmp a b = 1 := scmp_gt hl (by simpa using e)
        omega
      · have : scmp a b = -1 := scmp_lt hl
        omega
  · rintro rfl
    exact scmp_eq rfl
theorem knowsB_iff {K : List ByteArray} {n : ByteArray} : knowsB K n = true ↔ n ∈ K := by
  unfold knowsB
  rw [List.any_eq_true]
  constructor
  · rintro ⟨m, hm, h⟩
    have := scmp_iff.1 (by simpa using h)
    rwa [this]
  · intro h
    exact ⟨n, h, by simp [scmp_eq]⟩

set_option pp.deepTerms true
set_option pp.maxSteps 1000000
set_option maxRecDepth 100000 in
set_option maxHeartbeats 1600000 in
theorem refhas_T (w : World) (lo hi : Nat) (s : SlH) (K : List ByteArray) (n : ByteArray) (h : RowIn lo hi 1 strCells w s K) (hl : K.length ≤ 100000) :
    Calls Try.prog 79 #[.slice s.a s.n s.c, .string n] w fun e w' => e = .returned (.bool (knowsB K n)) ∧ w' = w := by
  obtain ⟨p, m, c⟩ := s
  obtain rfl : m = K.length := h.1
  have Hh := Lib.hid h
  clear h
  go_enter Try.func79, Try.ntmps79
  go_wp2_with fail
  go_loopg [5] K.length (fun k iv wr => ∃ j : Nat, iv = .int .i64 j ∧ j ≤ K.length ∧ Hid (k = K.length - j ∧ n ∉ K.take j) ∧ wr = w)
  case atStart => exact ⟨0, rfl, by omega, Lib.hid ⟨rfl, by simp⟩, rfl⟩
  case round =>
    obtain ⟨j, rfl, hj, Hm, rfl⟩ := hrel
    by_cases hlt : j < K.length
    · obtain ⟨x, hx⟩ : ∃ x, K[j]? = some x := ⟨K[j], by simp [hlt]⟩
      obtain ⟨b1, o1, -, -, hs1, hc1⟩ := Hh.out.at hx
      replace hs1 : p = some ⟨b1, o1, none⟩ := hs1
      subst hs1
      have c0 : wr.cell? ⟨b1, o1 + j, none⟩ = some (.string x) := by have := hc1 0 _ rfl; simpa using this
      have Hx := Lib.hid hx
      clear hc1 hx
      by_cases e : x = n
      · have f1 : (x.toList == n.toList) = true := by simp [e]
        have Hk : Hid (knowsB K n = true) := Lib.hid (knowsB_iff.2 (by rw [← e]; exact List.mem_of_getElem? Hx.out))
        clear e
        go_wp2_with fail
        go_ret
        exact ⟨by rw [Hk.out]; rfl, rfl⟩
      · obtain ⟨f1, f2⟩ := eqB _ _ e
        have He := Lib.hid e
        clear e
        go_wp2_with fail
        go_roundg (K.length - (j + 1))
        case measure => rw [Hm.out.1]; omega
        case rel =>
          refine ⟨j + 1, by go_num, by omega, Lib.hid ⟨rfl, ?_⟩, rfl⟩
          rw [List.take_add_one, Hx.out]
          intro hm
          rcases List.mem_append.1 hm with hm | hm
          · exact Hm.out.2 hm
          · have : n = x := by simpa using hm
            exact He.out this.symm
    · obtain rfl : j = K.length := by omega
      have Hk : Hid (knowsB K n = false) := Lib.hid (by
        have := Hm.out.2
        rw [List.take_length] at this
        rw [← Bool.not_eq_true, knowsB_iff]; exact this)
      go_wp2_with fail
      go_ret
      exact ⟨by rw [Hk.out]; rfl, rfl⟩

end Go.Proofs.Ytmnpcpgdhaplaaa

namespace Go.Proofs.Ytmnpcpgdhaplaaa
open Go Go.RowKit

theorem within_any (w : World) (v n : Int) (hn : 1 ≤ n) (hn2 : n ≤ 1000000) :
    Calls Try.prog 23 #[.int .i64 v, .int .i64 n] w fun e w' => (∃ k : Nat, e = .returned (.int .i64 k) ∧ (k : Int) < n) ∧ w' = w := by
  have h1 : (n < 1) = False := by simp; omega
  have h2 := Int.tmod_lt_of_pos v (show 0 < n by omega)
  have h3 := Int.lt_tmod_of_pos v (show 0 < n by omega)
  have H2 := Lib.hid h2
  have H3 := Lib.hid h3
  clear h2 h3
  go_enter Try.func23, Try.ntmps23
  go_wp2_with fail
  · rename_i h
    have h3 := H3.out
    have e : wrap64 (v.tmod n + n) = v.tmod n + n := by unfold wrap64; omega
    go_ret
    exact ⟨⟨(v.tmod n + n).toNat, by rw [Int.toNat_of_nonneg (by omega)]; exact congrArg (fun z => Ending.returned (.int .i64 z)) e, by rw [Int.toNat_of_nonneg (by omega)]; omega⟩, rfl⟩
  · rename_i h
    go_ret
    exact ⟨⟨(v.tmod n).toNat, by rw [Int.toNat_of_nonneg h]; rfl, by rw [Int.toNat_of_nonneg h]; exact H2.out⟩, rfl⟩

theorem within_T' (w : World) (v n : Int) (hn : 1 ≤ n) (_ : -1000000 ≤ v) (_ : v ≤ 1000000) (hn2 : n ≤ 1000000) :
    Calls Try.prog 23 #[.int .i64 v, .int .i64 n] w fun e w' => (∃ k : Nat, e = .returned (.int .i64 k) ∧ (k : Int) < n) ∧ w' = w := within_any w v n hn hn2

end Go.Proofs.Ytmnpcpgdhaplaaa
