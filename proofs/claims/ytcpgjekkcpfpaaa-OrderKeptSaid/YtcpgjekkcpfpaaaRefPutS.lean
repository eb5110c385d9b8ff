/- What the statements' Put of a list of symbols answers. Conditions: the list lies in memory, in order; at most 100000 symbols. -/
import Derived.Test.YtcpgjekkcpfpaaaMg20
import Derived.Test.YtcpgjekkcpfpaaaPartSS
import Derived.Maps.AppendAt
import Derived.Deep.AppendLies
import Derived.Laws.AppendOwnNone
namespace Go.Proofs.Ytcpgjekkcpfpaaa.S
open Go Go.RowKit

theorem pos_of_split {α : Type} {cmp : α → α → Int} (hc : Lin cmp) {xs : List α} {x : α} {j : Nat} (hs : Sorted cmp xs) (h1 : ∀ y ∈ xs.take j, 0 < cmp x y) (hj : j ≤ xs.length) (h2 : ∀ y, xs[j]? = some y → cmp x y ≤ 0) : pos cmp xs x = j := by
  have e : pos cmp xs x = pos cmp (xs.take j) x + pos cmp (xs.drop j) x := by
    unfold pos
    conv => lhs; rw [← List.take_append_drop j xs, List.filter_append, List.length_append]
  have e1 : pos cmp (xs.take j) x = j := by
    unfold pos
    rw [List.filter_eq_self.2 (fun y hy => by simpa using h1 y hy), List.length_take, Nat.min_eq_left hj]
  have e2 : pos cmp (xs.drop j) x = 0 := by
    unfold pos
    rw [List.length_eq_zero_iff, List.filter_eq_nil_iff]
    intro y hy
    have hsd : Sorted cmp (xs.drop j) := List.Pairwise.sublist (List.drop_sublist _ _) hs
    cases hd : xs.drop j with
    | nil => rw [hd] at hy; simp at hy
    | cons z zs =>
      have hz : xs[j]? = some z := by
        have := congrArg (fun l => l[0]?) hd
        simpa [List.getElem?_drop] using this
      have hz0 := h2 z hz
      rw [hd] at hy hsd
      have hzs := (List.pairwise_cons.1 hsd).1
      rcases List.mem_cons.1 hy with rfl | hy
      · simp; omega
      · have h3 := hc.le_lt hz0 (hzs y hy)
        simp; omega
  omega

/-- A slice is not longer than its room. -/
def Fits (v : Value) : Prop := ∀ a n cap, v = .slice a n cap → n ≤ cap ∧ (a = none → cap = 0)

abbrev flat (ys : List SymV) : List Value := ys.flatMap fun x => [.int .i64 x.k, .string x.t, .int .i64 x.n]

theorem flat_one : ∀ (ys : List SymV), ∀ u ∈ flat ys, u.oneCell' = true := by
  intro ys u hu
  obtain ⟨x, -, h⟩ := List.mem_flatMap.1 hu
  simp at h
  rcases h with rfl | rfl | rfl <;> rfl

theorem Elems.news {w : World} {b off : Nat} {ys : List SymV} (h : Elems w b off ys) : ∀ p u, (flat ys)[p]? = some u → w.cell? ((⟨b, off, none⟩ : Addr).add p) = some u := by
  intro p u hp
  have hl := (List.getElem?_eq_some_iff.1 hp).1
  have hfl : (flat ys).length = ys.length * 3 := flat3_length ys
  obtain ⟨q, hq⟩ : ∃ q, p = q * 3 ∨ p = q * 3 + 1 ∨ p = q * 3 + 2 := ⟨p / 3, by omega⟩
  have hql : q < ys.length := by omega
  obtain ⟨y, hy⟩ : ∃ y, ys[q]? = some y := ⟨ys[q], by simp [hql]⟩
  obtain ⟨f1, f2, f3⟩ := flat3 ys _ y hy
  obtain ⟨e1, e2, e3⟩ := h _ y hy
  rw [Go.WideShapes.add_plain]
  rcases hq with rfl | rfl | rfl
  · exact e1.trans (f1.symm.trans hp)
  · exact e2.trans (f2.symm.trans hp)
  · exact e3.trans (f3.symm.trans hp)

theorem Made.fits {B : Nat} {W : World} {v : Value} {xs : List SymV} (h : Made B W v xs) : Fits v := by
  rcases h.2 with ⟨rfl, h0⟩ | ⟨g, cap, cur, rfl, hb, hg, hn, hm, hs, ht⟩
  · rintro a n c e; cases e; exact ⟨Nat.le_refl _, fun _ => rfl⟩
  · rintro a n c e; cases e; exact ⟨hn, fun h => by cases h⟩

/-- Where symbols that are appended lie. -/
def From (w : World) (p : Option Addr) (c : Nat) (ys : List SymV) : Prop :=
  (p = none ∧ c = 0 ∧ ys = []) ∨ ∃ ad, p = some ad ∧ ∀ j u, (flat ys)[j]? = some u → w.cell? (ad.add j) = some u

theorem append_syms {w : World} {ops : Array Oper} {rest : List Oper} {o : Oper} {a : Act} {Q : Exit → Act → World → Prop} (hgd : o.guard = none) (s x : Operand)
    (ho : o.op = .call { callee := .builtin .append, args := #[s, x], argTypes := #[58, 58] })
    (B : Nat) (v : Value) (zs : List SymV) (hs : a.eval s = v) (hown : Made B w v zs) (p : Option Addr) (m c : Nat) (ys : List SymV) (hm : ys.length = m) (hx : a.eval x = .slice p m c) (hsrc : From w p c ys)
    (hlen : zs.length + m ≤ 1000000) (hbase : B ≤ w.heap.size)
    (h : ∀ v' w', Made B w' v' (zs ++ ys) → w.grownBy w' v.ownBlock → wpList Try.prog ops Q rest (a.put o.dst v') w') : wpList Try.prog ops Q (o :: rest) a w := by
  obtain ⟨i0, hi, hz0, hz1, hz2⟩ := info_parts infoT
  subst hm
  rcases hsrc with ⟨rfl, rfl, rfl⟩ | ⟨ad, rfl, hn⟩
  · refine wpList_append_own_none hgd s x _ ho B 27 i0 3 Try.underlying58 hi v zs.length (flat zs) hs hown hx ?_
    exact h v w (by simpa using hown) ⟨rfl, rfl, rfl, Nat.le_refl _, fun _ _ _ => rfl⟩
  · refine wpList_append_own w hgd s x _ ho B 27 i0 (.agg #[.int .i64 0, .string ⟨#[]⟩, .int .i64 0]) 3 32 Try.underlying58 hi hz0 hz1 hz2 rfl (by decide) v zs.length (flat zs) hs hown ad ys.length c (flat ys) hx (flat3_length ys) hn (flat_one ys) (by unfold maxLen; omega) (by omega) hbase ?_
    intro v' w' h1 h2 _
    exact h v' w' (by unfold Made; simpa using h1) h2

theorem made_below {B : Nat} {w w' : World} {v : Value} {zs : List SymV} (h : Made B w v zs) (hg : w.grownBy w' v.ownBlock) (hB : B ≤ w.heap.size) : Below B w w' :=
  (Below.refl B w).grown hg hB (fun k e => (World.ownsRow.lt h k e).1)

theorem nil_below {B : Nat} {w w' : World} (hg : w.grownBy w' (Value.slice none 0 0).ownBlock) (hB : B ≤ w.heap.size) : Below B w w' :=
  (Below.refl B w).grown hg hB (fun k e => by cases e)

theorem put_ins {xs : List SymV} {x : SymV} {j : Nat} (hp : pos symCmp xs x = j) (hh : has symCmp xs x = false) : put symCmp xs x = xs.take j ++ [x] ++ xs.drop j := by
  rw [put, hh, if_neg (by simp), ins, hp]; simp

theorem has_no {xs : List SymV} {x : SymV} {j : Nat} (hso : Sorted symCmp xs) (hp : pos symCmp xs x = j) (hn : xs[j]? ≠ some x) : has symCmp xs x = false := by
  cases hh : has symCmp xs x
  · rfl
  · obtain ⟨y, hy, h0⟩ := has_at symCmp_lin xs x hso hh
    obtain rfl := (symCmp_exact _ _).1 h0
    rw [hp] at hy; exact absurd hy hn

end Go.Proofs.Ytcpgjekkcpfpaaa.S
