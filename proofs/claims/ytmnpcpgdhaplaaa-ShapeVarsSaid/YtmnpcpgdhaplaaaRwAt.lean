/- Rows that a function makes of its own: appended to at their end; their elements' own memory lies elsewhere. Conditions: none. -/
import Derived.Test.YtmnpcpgdhaplaaaMg1
import Derived.Laws.AppendOwn
import Derived.Laws.AppendOwnNone
import Derived.Laws.OwnMore
import Derived.RangeFuncBox
import Derived.OwnWalkIn
import Derived.WideShapes
namespace Go.Proofs.Ytmnpcpgdhaplaaa
open Go Go.RowKit

theorem run_append_none {P : Program} {w : World} (base : Nat) (t ty e : TypeId) (i : TypeInfo) (size : Nat) (ht : P.underlying t = some (.slice e)) (hi : P.info? e = some i)
    (v : Value) (n : Nat) (xs : List Value) (hown : w.ownsRow base e size v n xs) (c : Nat) :
    (Builtin.append_ #[t, t] ty #[v, .slice none 0 c]).run P w = .ok v w := by
  rcases hown.2 with ⟨rfl, rfl⟩ | ⟨g, cap, cur, rfl, _, _, hnc, _⟩
  · simp [Builtin.append_, run_underlying ht, sizeOf, typeInfo, hi, Builtin.lenOf, Builtin.firstCells]
  · simp [Builtin.append_, run_underlying ht, sizeOf, typeInfo, hi, Builtin.lenOf, Builtin.firstCells, hnc, storeCells]

theorem ownsRow_base {w : World} {B B' : Nat} {e : TypeId} {k n : Nat} {v : Value} {xs : List Value} (h : w.ownsRow B e k v n xs) (hB : ∀ g, v.ownBlock = some g → B' ≤ g) : w.ownsRow B' e k v n xs := by
  refine ⟨h.1, ?_⟩
  rcases h.2 with h | ⟨g, cap, cur, rfl, h1, h2⟩
  · exact .inl h
  · exact .inr ⟨g, cap, cur, rfl, hB g rfl, h2⟩

theorem ownsRow_block {w : World} {B : Nat} {e : TypeId} {k n : Nat} {v : Value} {xs : List Value} (h : w.ownsRow B e k v n xs) {g : Nat} (hg : v.ownBlock = some g) : B ≤ g ∧ g < w.heap.size := by
  rcases h.2 with ⟨rfl, -⟩ | ⟨g', cap, cur, rfl, h1, h2, -⟩
  · cases hg
  · cases hg
    exact ⟨h1, lt_of_block h2⟩

/-- An append: where the row lies behind it. -/
theorem run_append_at {P : Program} (w : World) (base : Nat) (t ty e : TypeId) (i : TypeInfo) (z : Value) (size bytes : Nat) (ht : P.underlying t = some (.slice e)) (hi : P.info? e = some i) (hz : i.zero = some z)
    (hsize : i.size = size) (hby : i.bytes = bytes) (hzs : z.cells.size = size) (hsz : 0 < size)
    (v : Value) (n : Nat) (xs : List Value) (hown : w.ownsRow base e size v n xs)
    (p : Option Addr) (m c : Nat) (news : List Value) (hl : news.length = m * size) (hp : p = none → m = 0) (hnews : ∀ ad, p = some ad → ∀ j u, news[j]? = some u → w.cell? (ad.add j) = some u) (h1 : ∀ u ∈ news, u.oneCell' = true)
    (h63 : n + m ≤ maxLen) (hbytes : (n + m) * bytes ≤ 140737488355328) (hbase : base ≤ w.heap.size) :
    ∃ v' w', (Builtin.append_ #[t, t] ty #[v, .slice p m c]).run P w = .ok v' w' ∧ w'.ownsRow base e size v' (n + m) (xs ++ news) ∧ w.grownBy w' v.ownBlock ∧
      ∀ g', v'.ownBlock = some g' → v.ownBlock = some g' ∨ w.heap.size ≤ g' := by
  cases p with
  | none =>
    obtain rfl := hp rfl
    obtain rfl : news = [] := List.length_eq_zero_iff.1 (by omega)
    exact ⟨v, w, run_append_none base t ty e i size ht hi v n xs hown c, by simpa using hown, ⟨rfl, rfl, rfl, Nat.le_refl _, fun _ _ _ => rfl⟩, fun g' hg => .inl hg⟩
  | some a =>
    have hnews := hnews a rfl
    rcases hown.2 with ⟨hv, hn0⟩ | ⟨g, cap, cur, hv, hbg, hg, hnc, hcm, hcs, htake⟩
    · have hown' : w.ownsRow w.heap.size e size v n xs := ⟨hown.1, .inl ⟨hv, hn0⟩⟩
      obtain ⟨v', w', h2, h3, h4, -⟩ := run_append_own (P := P) w w.heap.size t ty e i z size bytes ht hi hz hsize hby hzs hsz v n xs hown' a m c news hl hnews h1 h63 hbytes (Nat.le_refl _)
      exact ⟨v', w', h2, ownsRow_base h3 fun g hg => Nat.le_trans hbase (ownsRow_block h3 hg).1, h4, fun g hg => .inr (ownsRow_block h3 hg).1⟩
    · obtain ⟨v', w', h2, h3, h4, -⟩ := run_append_own (P := P) w base t ty e i z size bytes ht hi hz hsize hby hzs hsz v n xs hown a m c news hl hnews h1 h63 hbytes hbase
      refine ⟨v', w', h2, h3, h4, fun g' hg' => ?_⟩
      subst hv
      by_cases hroom : n + m ≤ cap
      · subst hsize
        have hfit : n * i.size + news.length ≤ cur.size := by rw [hl, hcs, ← Nat.add_mul]; exact Nat.mul_le_mul_right _ hroom
        have hr := run_append_room (P := P) (w := w) t ty e i ht hi g n cap cur hg a m c news hl hnews h1 hroom hfit
        rw [hr] at h2
        cases h2
        exact .inl hg'
      · have holds : ∀ j u, xs[j]? = some u → w.cell? ((⟨g, 0, none⟩ : Addr).add j) = some u := hown.cells (g := g) rfl
        subst hsize
        subst hby
        have hr := run_append_grow (P := P) (w := w) t ty e i z ht hi hz ⟨g, 0, none⟩ n cap xs hown.1 holds a m c news hl hnews (by omega) (by simp only [maxLen] at h63; omega) (growslice_fits (by omega) hbytes)
        rw [hr] at h2
        cases h2
        simp only [Value.ownBlock, Option.some.injEq] at hg'
        exact .inr (by omega)

theorem wpList_append_at {P : Program} (w : World) {ops : Array Oper} {rest : List Oper} {o : Oper} {a : Act} {Q : Exit → Act → World → Prop}
    (hg : o.guard = none) (s x : Operand) (t : TypeId) (hop : o.op = Op.call { callee := Callee.builtin Builtin.append, args := #[s, x], argTypes := #[t, t] })
    (base : Nat) (e : TypeId) (i : TypeInfo) (z : Value) (size bytes : Nat) (h1 : P.underlying t = some (.slice e)) (h2 : P.info? e = some i) (h3 : i.zero = some z) (h4 : i.size = size) (h5 : i.bytes = bytes) (h6 : z.cells.size = size) (h7 : 0 < size)
    (v : Value) (k : Nat) (xs : List Value) (hs : a.eval s = v) (hown : w.ownsRow base e size v k xs) (p : Option Addr) (m c : Nat) (news : List Value) (hx : a.eval x = .slice p m c) (hn : news.length = m * size)
    (hp : p = none → m = 0) (hc : ∀ ad, p = some ad → ∀ j u, news[j]? = some u → w.cell? (ad.add j) = some u) (h1c : ∀ u ∈ news, u.oneCell' = true) (b1 : k + m ≤ maxLen) (b2 : (k + m) * bytes ≤ 140737488355328) (b3 : base ≤ w.heap.size)
    (hK : ∀ v' w', w'.ownsRow base e size v' (k + m) (xs ++ news) → w.grownBy w' v.ownBlock → (∀ g', v'.ownBlock = some g' → v.ownBlock = some g' ∨ w.heap.size ≤ g') → wpList P ops Q rest (a.put o.dst v') w') :
    wpList P ops Q (o :: rest) a w := by
  refine wpList_plain hg fun K hK' => ?_
  obtain ⟨v', w', hrun, r1, r2, r3⟩ := run_append_at (P := P) w base t o.type e i z size bytes h1 h2 h3 h4 h5 h6 h7 v k xs hown p m c news hn hp hc h1c b1 b2 b3
  unfold Oper.wp
  simp [execOp, hop, resolve, invoke, builtin, hs, hx, hrun, Result.andThen]
  exact hK' _ _ (hK v' w' r1 r2 r3)

theorem wpListIn_append_at {F : Fence} {n : Nat} {P : Program} (w : World) {ops : Array Oper} {rest : List Oper} {o : Oper} {a : Act} {Q : Exit → Act → World → Prop}
    (hg : o.guard = none) (s x : Operand) (t : TypeId) (hop : o.op = Op.call { callee := Callee.builtin Builtin.append, args := #[s, x], argTypes := #[t, t] })
    (base : Nat) (e : TypeId) (i : TypeInfo) (z : Value) (size bytes : Nat) (h1 : P.underlying t = some (.slice e)) (h2 : P.info? e = some i) (h3 : i.zero = some z) (h4 : i.size = size) (h5 : i.bytes = bytes) (h6 : z.cells.size = size) (h7 : 0 < size)
    (v : Value) (k : Nat) (xs : List Value) (hs : a.eval s = v) (hown : w.ownsRow base e size v k xs) (p : Option Addr) (m c : Nat) (news : List Value) (hx : a.eval x = .slice p m c) (hn : news.length = m * size)
    (hp : p = none → m = 0) (hc : ∀ ad, p = some ad → ∀ j u, news[j]? = some u → w.cell? (ad.add j) = some u) (h1c : ∀ u ∈ news, u.oneCell' = true) (b1 : k + m ≤ maxLen) (b2 : (k + m) * bytes ≤ 140737488355328) (b3 : base ≤ w.heap.size)
    (hK : ∀ v' w', w'.ownsRow base e size v' (k + m) (xs ++ news) → w.grownBy w' v.ownBlock → (∀ g', v'.ownBlock = some g' → v.ownBlock = some g' ∨ w.heap.size ≤ g') → wpListIn F n P ops Q rest (a.put o.dst v') w') :
    wpListIn F n P ops Q (o :: rest) a w := by
  refine wpListIn_plain hg fun K hK' => ?_
  obtain ⟨v', w', hrun, r1, r2, r3⟩ := run_append_at (P := P) w base t o.type e i z size bytes h1 h2 h3 h4 h5 h6 h7 v k xs hown p m c news hn hp hc h1c b1 b2 b3
  unfold Oper.wpIn
  refine ⟨?_, ?_⟩
  · simp [Oper.about, hop, resolve, Target.leads, Sem.run_pure]
  · rw [Oper.semAt_plain F _ _ (by rw [hop]; intro c hc'; cases hc')]
    simp [execOp, hop, resolve, invoke, builtin, hs, hx, hrun, Result.andThen]
    exact hK' _ _ (hK v' w' r1 r2 r3)

/-! ### Rows of things -/

section
variable {α : Type}

def flatR (cells : α → List Value) : List α → List Value
  | [] => []
  | x :: xs => cells x ++ flatR cells xs

theorem flatR_append (cells : α → List Value) (a b : List α) : flatR cells (a ++ b) = flatR cells a ++ flatR cells b := by
  induction a with
  | nil => rfl
  | cons x xs ih => simp [flatR, ih]
theorem flatR_one (cells : α → List Value) (x : α) : flatR cells [x] = cells x := by simp [flatR]
theorem flatR_length {cells : α → List Value} {k : Nat} (hk : ∀ x, (cells x).length = k) (l : List α) : (flatR cells l).length = l.length * k := by
  induction l with
  | nil => simp [flatR]
  | cons x xs ih => simp [flatR, ih, hk, Nat.add_mul]; omega
theorem flatR_get {cells : α → List Value} {k : Nat} (hk : ∀ x, (cells x).length = k) (l : List α) : ∀ (i j : Nat) (x : α) (u : Value), l[i]? = some x → (cells x)[j]? = some u → (flatR cells l)[i * k + j]? = some u := by
  induction l with
  | nil => intro i j x u h; simp at h
  | cons y ys ih =>
    intro i j x u hx hu
    have hj : j < k := by rw [← hk x]; exact (List.getElem?_eq_some_iff.1 hu).1
    cases i with
    | zero =>
      simp at hx
      subst hx
      rw [flatR, List.getElem?_append_left (by rw [hk]; omega)]
      simpa using hu
    | succ i =>
      have hx' : ys[i]? = some x := by simpa using hx
      rw [flatR, List.getElem?_append_right (by rw [hk, Nat.add_mul]; omega), hk]
      have : (i + 1) * k + j - k = i * k + j := by rw [Nat.add_mul]; omega
      rw [this]
      exact ih i j x u hx' hu
/-- An index into a row of rows: which one, and where in it. -/
theorem flatR_at {cells : α → List Value} {k : Nat} (h0 : 0 < k) (hk : ∀ x, (cells x).length = k) (l : List α) {q : Nat} {u : Value} (h : (flatR cells l)[q]? = some u) : ∃ i j x, q = i * k + j ∧ l[i]? = some x ∧ (cells x)[j]? = some u := by
  have hq := (List.getElem?_eq_some_iff.1 h).1
  rw [flatR_length hk] at hq
  have hm := Nat.div_add_mod q k
  have hr := Nat.mod_lt q h0
  have hi : q / k < l.length := by
    rcases Nat.lt_or_ge (q / k) l.length with h | h
    · exact h
    · have := Nat.mul_le_mul_left k h
      rw [Nat.mul_comm] at hq
      omega
  have hx : l[q / k]? = some l[q / k] := List.getElem?_eq_getElem hi
  have hu : (cells l[q / k])[q % k]? = some ((cells l[q / k])[q % k]'(by rw [hk]; exact hr)) := List.getElem?_eq_getElem _
  have e := flatR_get hk l _ _ _ _ hx hu
  rw [Nat.mul_comm] at hm
  rw [hm, h] at e
  refine ⟨q / k, q % k, _, hm.symm, hx, ?_⟩
  rw [hu, ← e]

theorem flatR_one' {cells : α → List Value} (h1 : ∀ x, ∀ u ∈ cells x, u.oneCell' = true) (l : List α) : ∀ u ∈ flatR cells l, u.oneCell' = true := by
  induction l with
  | nil => intro u hu; cases hu
  | cons x xs ih =>
    intro u hu
    rcases List.mem_append.1 hu with hu | hu
    · exact h1 x u hu
    · exact ih u hu

/-- v is a row of a function's own. -/
def Mk (cells : α → List Value) (T : TypeId) (k B : Nat) (w : World) (v : Value) (xs : List α) : Prop := w.ownsRow B T k v xs.length (flatR cells xs)

theorem Mk.nil {cells : α → List Value} {T : TypeId} {k B : Nat} {w : World} : Mk cells T k B w (.slice none 0 0) [] := ⟨by simp [flatR], .inl ⟨rfl, rfl⟩⟩
theorem Mk.below {cells : α → List Value} {T : TypeId} {k B : Nat} {w w' : World} {v : Value} {xs : List α} (h : Mk cells T k B w v xs) (hB : Below w.heap.size w w') : Mk cells T k B w' v xs := by
  refine ⟨h.1, ?_⟩
  rcases h.2 with h | ⟨g, cap, cur, e, h1, h2, h3⟩
  · exact .inl h
  · exact .inr ⟨g, cap, cur, e, h1, (hB.block g (lt_of_block h2)).trans h2, h3⟩
theorem Mk.head {cells : α → List Value} {T : TypeId} {k B : Nat} {w : World} {v : Value} {xs : List α} (h : Mk cells T k B w v xs) : ∃ s : SlH, v = .slice s.a s.n s.c ∧ s.n = xs.length ∧ (s.a = none → s.c = 0) := by
  rcases h.2 with ⟨rfl, h0⟩ | ⟨g, cap, cur, rfl, -⟩
  · exact ⟨⟨none, 0, 0⟩, rfl, h0.symm, fun _ => rfl⟩
  · exact ⟨⟨some ⟨g, 0, none⟩, xs.length, cap⟩, rfl, rfl, fun h => by cases h⟩
theorem Mk.row {cells : α → List Value} {T : TypeId} {k B : Nat} {w : World} {s : SlH} {xs : List α} (hk : ∀ x, (cells x).length = k) (h : Mk cells T k B w (.slice s.a s.n s.c) xs) : RowIn B w.heap.size k cells w s xs := by
  obtain ⟨a, n, c⟩ := s
  rcases h.2 with ⟨e, h0⟩ | ⟨g, cap, cur, e, h1, h2, h3, h4, h5, h6⟩
  · cases e
    exact ⟨h0.symm, .inl (List.length_eq_zero_iff.1 h0)⟩
  · cases e
    refine ⟨rfl, .inr ⟨g, 0, h1, lt_of_block h2, rfl, fun i x hx j u hu => ?_⟩⟩
    have e := flatR_get hk xs i j x u hx hu
    have e2 := World.ownsRow.cells (g := g) h rfl _ _ e
    rw [Go.WideShapes.add_plain] at e2
    simpa [Nat.zero_add] using e2

/-- What its elements need lies between B and here, and not in its own block. -/
def Kids (Q : Nat → Nat → World → α → Prop) (B : Nat) (w : World) (v : Value) (xs : List α) : Prop := ∀ x ∈ xs, ∃ lo hi, B ≤ lo ∧ hi ≤ w.heap.size ∧ Q lo hi w x ∧ ∀ b, v.ownBlock = some b → b < lo ∨ hi ≤ b

theorem Kids.nil {Q : Nat → Nat → World → α → Prop} {B : Nat} {w : World} {v : Value} : Kids Q B w v [] := fun x hx => by cases hx
theorem Kids.below {Q : Nat → Nat → World → α → Prop} (hQ : ∀ lo hi W W' x, Q lo hi W x → KeepIn lo hi W W' → Q lo hi W' x) {B : Nat} {w w' : World} {v : Value} {xs : List α} (h : Kids Q B w v xs) (hB : Below w.heap.size w w') : Kids Q B w' v xs := fun x hx => by
  obtain ⟨lo, hi, h1, h2, h3, h4⟩ := h x hx
  exact ⟨lo, hi, h1, Nat.le_trans h2 hB.size, hQ _ _ _ _ _ h3 (KeepIn.of_below hB h2), h4⟩
theorem Kids.snoc {Q : Nat → Nat → World → α → Prop} {B : Nat} {w : World} {v : Value} {xs : List α} (h : Kids Q B w v xs) {y : α} {lo hi : Nat} (h1 : B ≤ lo) (h2 : hi ≤ w.heap.size) (h3 : Q lo hi w y) (h4 : ∀ b, v.ownBlock = some b → b < lo ∨ hi ≤ b) : Kids Q B w v (xs ++ [y]) := fun x hx => by
  rcases List.mem_append.1 hx with hx | hx
  · exact h x hx
  · obtain rfl : x = y := by simpa using hx
    exact ⟨lo, hi, h1, h2, h3, h4⟩
theorem Kids.grow {Q : Nat → Nat → World → α → Prop} (hQ : ∀ lo hi W W' x, Q lo hi W x → KeepIn lo hi W W' → Q lo hi W' x) {B : Nat} {w w' : World} {v v' : Value} {xs : List α} (h : Kids Q B w v xs) (hg : w.grownBy w' v.ownBlock) (hv : ∀ g', v'.ownBlock = some g' → v.ownBlock = some g' ∨ w.heap.size ≤ g') : Kids Q B w' v' xs := fun x hx => by
  obtain ⟨lo, hi, h1, h2, h3, h4⟩ := h x hx
  refine ⟨lo, hi, h1, Nat.le_trans h2 hg.size, hQ _ _ _ _ _ h3 (fun b c T f b1 b2 hb => ?_), fun b hb => ?_⟩
  · refine (hg.block b (by omega) fun e => ?_).trans hb
    rcases h4 b e.symm with h | h <;> omega
  · rcases hv b hb with h | h
    · exact h4 b h
    · exact .inr (by omega)
end

theorem RowIn.widen {α : Type} {lo hi lo' hi' k : Nat} {cells : α → List Value} {w : World} {s : SlH} {xs : List α} (h : RowIn lo hi k cells w s xs) (h1 : lo' ≤ lo) (h2 : hi ≤ hi') : RowIn lo' hi' k cells w s xs := by
  refine ⟨h.1, ?_⟩
  rcases h.2 with h | ⟨b, off, a1, a2, a3⟩
  · exact .inl h
  · exact .inr ⟨b, off, Nat.le_trans h1 a1, Nat.lt_of_lt_of_le a2 h2, a3⟩
theorem TestsOk.widen {lo hi lo' hi' : Nat} {w : World} {s : SlH} {l : List TestV} (h : TestsOk lo hi w s l) (h1 : lo' ≤ lo) (h2 : hi ≤ hi') : TestsOk lo' hi' w s l := ⟨h.1.widen h1 h2, fun t ht => (h.2 t ht).widen h1 h2⟩
theorem condOkL_widen {lo hi lo' hi' : Nat} {W : World} (h1 : lo' ≤ lo) (h2 : hi ≤ hi') (k : Nat) : ∀ cs, sizeL cs ≤ k → CondOkL lo hi W cs → CondOkL lo' hi' W cs := by
  induction k with
  | zero =>
    intro cs h _
    have := sizeL_le cs
    obtain rfl : cs = [] := List.length_eq_zero_iff.1 (by omega)
    trivial
  | succ k ih =>
    intro cs h hc
    rw [condOkL_iff] at hc ⊢
    intro c hcm
    have hs := sizeL_mem hcm
    obtain ⟨a1, a2, a3, a4⟩ := condOk_iff.1 (hc c hcm)
    exact condOk_iff.2 ⟨a1.widen h1 h2, a2.widen h1 h2, a3.widen h1 h2, ih _ (by omega) a4⟩
theorem CondOk.widen {lo hi lo' hi' : Nat} {W : World} {c : CondV} (h : CondOk lo hi W c) (h1 : lo' ≤ lo) (h2 : hi ≤ hi') : CondOk lo' hi' W c := by
  obtain ⟨a1, a2, a3, a4⟩ := condOk_iff.1 h
  exact condOk_iff.2 ⟨a1.widen h1 h2, a2.widen h1 h2, a3.widen h1 h2, condOkL_widen h1 h2 _ _ (Nat.le_refl _) a4⟩

/-! ### What is the same but for where it lies -/

def bareT (t : TestV) : TestV := ⟨t.rel, t.var, t.sym, ⟨none, 0, 0⟩, t.syms⟩
mutual
def bareC : CondV → CondV
  | .mk h l => .mk ⟨h.kind, h.goal, h.id, ⟨none, 0, 0⟩, h.attrs.map bareT, ⟨none, 0, 0⟩, h.values.map bareT, h.acc, ⟨none, 0, 0⟩⟩ (bareL l)
def bareL : List CondV → List CondV
  | [] => []
  | c :: cs => bareC c :: bareL cs
end
theorem bareL_map (cs : List CondV) : bareL cs = cs.map bareC := by
  induction cs with
  | nil => rfl
  | cons c cs ih => simp [bareL, ih]
theorem bareC_inner (c : CondV) : (bareC c).inner = bareL c.inner := by cases c; rfl
theorem bareC_h (c : CondV) : (bareC c).h = ⟨c.h.kind, c.h.goal, c.h.id, ⟨none, 0, 0⟩, c.h.attrs.map bareT, ⟨none, 0, 0⟩, c.h.values.map bareT, c.h.acc, ⟨none, 0, 0⟩⟩ := by cases c; rfl

end Go.Proofs.Ytmnpcpgdhaplaaa
