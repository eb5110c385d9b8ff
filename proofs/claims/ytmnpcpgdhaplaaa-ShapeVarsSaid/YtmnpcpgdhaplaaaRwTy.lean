/- Appends to rows of symbols, tests, conditions, actions. Conditions: none. -/
import Derived.Test.YtmnpcpgdhaplaaaRwAt
import Derived.Test.YtmnpcpgdhaplaaaMg10
import Derived.Test.YtmnpcpgdhaplaaaHvPl
namespace Go.Proofs.Ytmnpcpgdhaplaaa
open Go Go.RowKit

theorem info_parts3 {o : Option TypeInfo} {z : Option Value} {s b : Nat} (h : o.map (fun i => (i.zero, i.size, i.bytes)) = some (z, s, b)) : ∃ i, o = some i ∧ i.zero = z ∧ i.size = s ∧ i.bytes = b := by
  cases o with
  | none => cases h
  | some i =>
    simp only [Option.map_some, Option.some.injEq, Prod.mk.injEq] at h
    exact ⟨i, rfl, h.1, h.2.1, h.2.2⟩

/-- A type's row: what the laws on appends ask of it. -/
structure RowTy {α : Type} (cells : α → List Value) (T t : TypeId) (k bytes : Nat) (z : Value) : Prop where
  under : Try.prog.underlying t = some (.slice T)
  info : (Try.prog.info? T).map (fun i => (i.zero, i.size, i.bytes)) = some (some z, k, bytes)
  zero : z.cells.size = k
  pos : 0 < k
  len : ∀ x, (cells x).length = k
  one : ∀ x, ∀ u ∈ cells x, u.oneCell' = true
  small : bytes ≤ 1000

section
variable {α : Type} {cells : α → List Value} {T t : TypeId} {k bytes : Nat} {z : Value}

theorem row_news (hT : RowTy cells T t k bytes z) {w : World} {lo hi : Nat} {p : Option Addr} {m c : Nat} {ys : List α} (h : RowIn lo hi k cells w ⟨p, m, c⟩ ys) :
    (p = none → m = 0) ∧ ∀ ad, p = some ad → ∀ j u, (flatR cells ys)[j]? = some u → w.cell? (ad.add j) = some u := by
  have hn : m = ys.length := h.1
  rcases h.2 with rfl | ⟨b, off, -, -, ha, hc⟩
  · exact ⟨fun _ => by simpa using hn, fun ad _ j u hj => by simp [flatR] at hj⟩
  · have ha : p = some ⟨b, off, none⟩ := ha
    refine ⟨fun e => (by rw [e] at ha; cases ha), fun ad had j u hj => ?_⟩
    rw [had] at ha
    cases ha
    obtain ⟨i, j', x, rfl, hx, hu⟩ := flatR_at hT.pos hT.len ys hj
    have := hc i x hx j' u hu
    rw [Go.WideShapes.add_plain]
    rw [← this, Nat.add_assoc]

theorem append_mk (hT : RowTy cells T t k bytes z) {w : World} {ops : Array Oper} {rest : List Oper} {o : Oper} {a : Act} {Q : Exit → Act → World → Prop} (hgd : o.guard = none) (s x : Operand)
    (ho : o.op = .call { callee := .builtin .append, args := #[s, x], argTypes := #[t, t] })
    (B : Nat) (v : Value) (xs : List α) (hs : a.eval s = v) (hown : Mk cells T k B w v xs) (lo hi : Nat) (p : Option Addr) (m c : Nat) (ys : List α) (hx : a.eval x = .slice p m c) (hsrc : RowIn lo hi k cells w ⟨p, m, c⟩ ys)
    (hlen : xs.length + ys.length ≤ 100000) (hbase : B ≤ w.heap.size)
    (h : ∀ g cap w', Mk cells T k B w' (.slice g (xs.length + ys.length) cap) (xs ++ ys) → (g = none → cap = 0) → w.grownBy w' v.ownBlock → (∀ g', (Value.slice g (xs.length + ys.length) cap).ownBlock = some g' → v.ownBlock = some g' ∨ w.heap.size ≤ g') → wpList Try.prog ops Q rest (a.put o.dst (.slice g (xs.length + ys.length) cap)) w') : wpList Try.prog ops Q (o :: rest) a w := by
  obtain ⟨i0, hi0, hz0, hz1, hz2⟩ := info_parts3 hT.info
  have hm : m = ys.length := hsrc.1
  obtain ⟨hp, hnews⟩ := row_news hT hsrc
  have hb : (xs.length + ys.length) * bytes ≤ 100000 * 1000 := Nat.mul_le_mul hlen hT.small
  refine wpList_append_at w hgd s x t ho B T i0 z k bytes hT.under hi0 hz0 hz1 hz2 hT.zero hT.pos v xs.length (flatR cells xs) hs hown p m c (flatR cells ys) hx (by rw [flatR_length hT.len, hm]) hp hnews (flatR_one' hT.one ys) (by unfold maxLen; omega) (by rw [hm]; omega) hbase ?_
  intro v' w' h1 h2 h3
  rw [← flatR_append, hm] at h1
  have h1' : Mk cells T k B w' v' (xs ++ ys) := by unfold Mk; rwa [List.length_append]
  obtain ⟨s', rfl, hn, hnil⟩ := h1'.head
  rw [List.length_append] at hn
  rw [hn] at h1' h3 ⊢
  exact h s'.a s'.c w' h1' hnil h2 h3

theorem appendIn_mk (hT : RowTy cells T t k bytes z) {F : Fence} {n : Nat} {w : World} {ops : Array Oper} {rest : List Oper} {o : Oper} {a : Act} {Q : Exit → Act → World → Prop} (hgd : o.guard = none) (s x : Operand)
    (ho : o.op = .call { callee := .builtin .append, args := #[s, x], argTypes := #[t, t] })
    (B : Nat) (v : Value) (xs : List α) (hs : a.eval s = v) (hown : Mk cells T k B w v xs) (lo hi : Nat) (p : Option Addr) (m c : Nat) (ys : List α) (hx : a.eval x = .slice p m c) (hsrc : RowIn lo hi k cells w ⟨p, m, c⟩ ys)
    (hlen : xs.length + ys.length ≤ 100000) (hbase : B ≤ w.heap.size)
    (h : ∀ g cap w', Mk cells T k B w' (.slice g (xs.length + ys.length) cap) (xs ++ ys) → (g = none → cap = 0) → w.grownBy w' v.ownBlock → (∀ g', (Value.slice g (xs.length + ys.length) cap).ownBlock = some g' → v.ownBlock = some g' ∨ w.heap.size ≤ g') → wpListIn F n Try.prog ops Q rest (a.put o.dst (.slice g (xs.length + ys.length) cap)) w') : wpListIn F n Try.prog ops Q (o :: rest) a w := by
  obtain ⟨i0, hi0, hz0, hz1, hz2⟩ := info_parts3 hT.info
  have hm : m = ys.length := hsrc.1
  obtain ⟨hp, hnews⟩ := row_news hT hsrc
  have hb : (xs.length + ys.length) * bytes ≤ 100000 * 1000 := Nat.mul_le_mul hlen hT.small
  refine wpListIn_append_at w hgd s x t ho B T i0 z k bytes hT.under hi0 hz0 hz1 hz2 hT.zero hT.pos v xs.length (flatR cells xs) hs hown p m c (flatR cells ys) hx (by rw [flatR_length hT.len, hm]) hp hnews (flatR_one' hT.one ys) (by unfold maxLen; omega) (by rw [hm]; omega) hbase ?_
  intro v' w' h1 h2 h3
  rw [← flatR_append, hm] at h1
  have h1' : Mk cells T k B w' v' (xs ++ ys) := by unfold Mk; rwa [List.length_append]
  obtain ⟨s', rfl, hn, hnil⟩ := h1'.head
  rw [List.length_append] at hn
  rw [hn] at h1' h3 ⊢
  exact h s'.a s'.c w' h1' hnil h2 h3

/-- One thing in a box is a row. -/
theorem rowIn_box {lo b c : Nat} {W : World} {x : α} {T' : TypeId} {f : Nat × Nat} (h : W.heap[b]? = some (.cells (cells x).toArray T' f)) (hlo : lo ≤ b) : RowIn lo W.heap.size k cells W ⟨some ⟨b, 0, none⟩, 1, c⟩ [x] := by
  refine ⟨rfl, .inr ⟨b, 0, hlo, lt_of_block h, rfl, fun i y hy j u hu => ?_⟩⟩
  have h1 := (List.getElem?_eq_some_iff.1 hy).1
  have h0 : i = 0 := by simp at h1; omega
  subst h0
  simp only [List.getElem?_cons_zero, Option.some.injEq] at hy
  subst hy
  simp [World.cell?, h, hu]

theorem Mk.grown_below {B : Nat} {w w' : World} {v : Value} {xs : List α} (h : Mk cells T k B w v xs) (hg : w.grownBy w' v.ownBlock) (hB : B ≤ w.heap.size) : Below B w w' :=
  (Below.refl B w).grown hg hB (fun b e => (ownsRow_block h e).1)
end

theorem symTy : RowTy symCells 47 44 3 32 (.agg #[.int .i64 0, .string ⟨#[]⟩, .int .i64 0]) :=
  ⟨Try.underlying44, by kernel_rfl, rfl, by decide, fun _ => rfl, fun x u hu => by simp at hu; rcases hu with rfl | rfl | rfl <;> rfl, by decide⟩
theorem testTy : RowTy testCells 67 62 6 80 (.agg #[.int .i64 0, .string ⟨#[]⟩, .int .i64 0, .string ⟨#[]⟩, .int .i64 0, .slice none 0 0]) :=
  ⟨Try.underlying62, by kernel_rfl, rfl, by decide, fun _ => rfl, fun x u hu => by simp at hu; rcases hu with rfl | rfl | rfl | rfl | rfl | rfl <;> rfl, by decide⟩
theorem condTy : RowTy condCells 64 22 7 112 (.agg #[.int .i64 0, .bool false, .string ⟨#[]⟩, .slice none 0 0, .slice none 0 0, .bool false, .slice none 0 0]) :=
  ⟨Try.underlying22, by kernel_rfl, rfl, by decide, fun _ => rfl, fun x u hu => by simp at hu; rcases hu with rfl | rfl | rfl | rfl | rfl | rfl | rfl <;> rfl, by decide⟩
def zAct : ActV := ⟨⟨#[]⟩, ⟨⟨#[]⟩, ⟨0, ⟨#[]⟩, 0⟩⟩, ⟨0, ⟨⟨#[]⟩, ⟨0, ⟨#[]⟩, 0⟩⟩, ⟨⟨#[]⟩, ⟨0, ⟨#[]⟩, 0⟩⟩⟩, 0, ⟨⟨#[]⟩, ⟨0, ⟨#[]⟩, 0⟩⟩⟩
theorem actTy : RowTy actCells 59 23 19 224 (.agg #[.string zAct.id, .string zAct.attr.var, .int .i64 zAct.attr.sym.k, .string zAct.attr.sym.t, .int .i64 zAct.attr.sym.n, .int .i64 zAct.value.op, .string zAct.value.a.var, .int .i64 zAct.value.a.sym.k, .string zAct.value.a.sym.t, .int .i64 zAct.value.a.sym.n, .string zAct.value.b.var, .int .i64 zAct.value.b.sym.k, .string zAct.value.b.sym.t, .int .i64 zAct.value.b.sym.n, .int .i64 zAct.pref, .string zAct.other.var, .int .i64 zAct.other.sym.k, .string zAct.other.sym.t, .int .i64 zAct.other.sym.n]) :=
  ⟨Try.underlying23, by kernel_rfl, rfl, by decide, fun _ => rfl, fun x u hu => by simp only [List.mem_cons, List.not_mem_nil, or_false] at hu; rcases hu with rfl | rfl | rfl | rfl | rfl | rfl | rfl | rfl | rfl | rfl | rfl | rfl | rfl | rfl | rfl | rfl | rfl | rfl | rfl <;> rfl, by decide⟩

theorem eqB (a b : ByteArray) (h : a ≠ b) : (a.toList == b.toList) = false ∧ (a.toList = b.toList) = False := by
  have : ¬ a.toList = b.toList := fun e => h (toList_inj e)
  exact ⟨by simpa using this, eq_false this⟩

end Go.Proofs.Ytmnpcpgdhaplaaa
