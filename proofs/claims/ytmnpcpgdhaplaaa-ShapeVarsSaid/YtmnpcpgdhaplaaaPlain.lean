/- Plain facts on orders and sorted lists. Conditions: none. -/
import Derived.Lib.Hide
namespace Go.Proofs.Ytmnpcpgdhaplaaa

def icmp (a b : Int) : Int := if a < b then -1 else if b < a then 1 else 0
def scmp (a b : ByteArray) : Int := if a.toList < b.toList then -1 else if b.toList < a.toList then 1 else 0

theorem List.lt_trichotomy' (a b : List UInt8) : a < b ∨ a = b ∨ b < a := by
  rcases Classical.em (a < b) with h | h
  · exact .inl h
  · rcases Classical.em (b < a) with h' | h'
    · exact .inr (.inr h')
    · exact .inr (.inl (List.le_antisymm (List.not_lt.1 h') (List.not_lt.1 h)))

/-- A symbol's three fields. -/
structure SymV where
  k : Int
  t : ByteArray
  n : Int

/-- A way to hold things against each other that is an order. -/
structure Lin {α : Type} (cmp : α → α → Int) : Prop where
  refl : ∀ x, cmp x x = 0
  swap : ∀ x y, cmp x y < 0 ↔ 0 < cmp y x
  trans : ∀ x y z, cmp x y ≤ 0 → cmp y z ≤ 0 → cmp x z ≤ 0

theorem Lin.lt_le {α : Type} {cmp : α → α → Int} (h : Lin cmp) {x y z : α} (a : cmp x y < 0) (b : cmp y z ≤ 0) : cmp x z < 0 := by
  have c := h.trans x y z (by omega) b
  rcases Int.lt_or_eq_of_le c with c | c
  · exact c
  · have d : cmp z x ≤ 0 := by
      rcases Int.lt_or_le 0 (cmp z x) with e | e
      · have := (h.swap x z).2 e; omega
      · exact e
    have := h.trans y z x b d
    have := (h.swap x y).1 a
    omega

theorem Lin.le_lt {α : Type} {cmp : α → α → Int} (h : Lin cmp) {x y z : α} (a : cmp x y ≤ 0) (b : cmp y z < 0) : cmp x z < 0 := by
  have c := h.trans x y z a (by omega)
  rcases Int.lt_or_eq_of_le c with c | c
  · exact c
  · have d : cmp z x ≤ 0 := by
      rcases Int.lt_or_le 0 (cmp z x) with e | e
      · have := (h.swap x z).2 e; omega
      · exact e
    have := h.trans z x y d a
    have := (h.swap y z).1 b
    omega

theorem icmp_lin : Lin icmp := by
  refine ⟨fun x => by simp [icmp], fun x y => ?_, fun x y z => ?_⟩
  · unfold icmp; split <;> split <;> omega
  · unfold icmp; split <;> split <;> split <;> omega

theorem scmp_lin : Lin scmp := by
  refine ⟨fun x => by simp [scmp, List.lt_irrefl], fun x y => ?_, fun x y z => ?_⟩
  · unfold scmp
    rcases List.lt_trichotomy' x.toList y.toList with h | h | h
    · simp [h, List.lt_asymm h]
    · simp [h, List.lt_irrefl]
    · simp [h, List.lt_asymm h]
  · have key : ∀ a b : ByteArray, scmp a b ≤ 0 ↔ ¬ b.toList < a.toList := by
      intro a b
      unfold scmp
      rcases List.lt_trichotomy' a.toList b.toList with h | h | h
      · simp [h, List.lt_asymm h]
      · simp [h, List.lt_irrefl]
      · simp [h, List.lt_asymm h]
    rw [key, key, key]
    intro h1 h2
    exact List.not_lt.2 (List.le_trans (List.not_lt.1 h1) (List.not_lt.1 h2))

def lex {α : Type} (c d : α → α → Int) (x y : α) : Int := if c x y ≠ 0 then c x y else d x y

theorem lex_lin {α : Type} {c d : α → α → Int} (hc : Lin c) (hd : Lin d) : Lin (lex c d) := by
  have zero : ∀ x y, c x y = 0 ↔ c y x = 0 := by
    intro x y
    have a := hc.swap x y; have b := hc.swap y x
    omega
  refine ⟨fun x => by simp [lex, hc.refl, hd.refl], fun x y => ?_, fun x y z => ?_⟩
  · unfold lex
    have a := hc.swap x y; have b := hc.swap y x; have e := hd.swap x y
    split <;> split <;> omega
  · have key : ∀ x y, lex c d x y ≤ 0 ↔ c x y < 0 ∨ (c x y = 0 ∧ d x y ≤ 0) := by
      intro x y; unfold lex; split <;> omega
    rw [key, key, key]
    rintro (h1 | ⟨h1, h1'⟩) (h2 | ⟨h2, h2'⟩)
    · exact .inl (hc.lt_le h1 (by omega))
    · exact .inl (hc.lt_le h1 (by omega))
    · exact .inl (hc.le_lt (by omega) h2)
    · refine .inr ⟨?_, hd.trans x y z h1' h2'⟩
      have p := hc.trans x y z (by omega) (by omega)
      have q := hc.trans z y x (by have := (zero y z).1 h2; omega) (by have := (zero x y).1 h1; omega)
      have := hc.swap x z
      omega

theorem comap_lin {α β : Type} {c : β → β → Int} (f : α → β) (hc : Lin c) : Lin (fun x y => c (f x) (f y)) :=
  ⟨fun x => hc.refl _, fun x y => hc.swap _ _, fun x y z => hc.trans _ _ _⟩

def symCmp : SymV → SymV → Int := lex (fun x y => icmp x.k y.k) (lex (fun x y => scmp x.t y.t) (fun x y => icmp x.n y.n))
theorem symCmp_lin : Lin symCmp := lex_lin (comap_lin SymV.k icmp_lin) (lex_lin (comap_lin SymV.t scmp_lin) (comap_lin SymV.n icmp_lin))

/-- Rising, each once. -/
def Sorted {α : Type} (cmp : α → α → Int) (l : List α) : Prop := l.Pairwise (fun a b => cmp a b < 0)
/-- How many are less than x; is one equal to it? -/
def pos {α : Type} (cmp : α → α → Int) (l : List α) (x : α) : Nat := (l.filter (fun y => 0 < cmp x y)).length
def has {α : Type} (cmp : α → α → Int) (l : List α) (x : α) : Bool := l.any (fun y => cmp x y == 0)


theorem all_after {α : Type} {cmp : α → α → Int} (hc : Lin cmp) {l r : List α} {x y : α} (hs : Sorted cmp (l ++ y :: r)) (h : cmp x y ≤ 0) : ∀ z ∈ r, cmp x z < 0 := by
  intro z hz
  have hp := (List.pairwise_append.1 hs).2.1
  exact hc.le_lt h ((List.pairwise_cons.1 hp).1 z hz)

theorem all_before {α : Type} {cmp : α → α → Int} (hc : Lin cmp) {l r : List α} {x y : α} (hs : Sorted cmp (l ++ y :: r)) (h : 0 ≤ cmp x y) : ∀ z ∈ l, 0 < cmp x z := by
  intro z hz
  have hp := (List.pairwise_append.1 hs).2.2 z hz y (by simp)
  have h2 : cmp y x ≤ 0 := by have := hc.swap y x; have := hc.swap x y; omega
  exact (hc.swap z x).1 (hc.lt_le hp h2)

theorem pos_lt {α : Type} {cmp : α → α → Int} (hc : Lin cmp) {l r : List α} {x y : α} (hs : Sorted cmp (l ++ y :: r)) (h : cmp x y < 0) : pos cmp (l ++ y :: r) x = pos cmp l x := by
  have ha := all_after hc hs (Int.le_of_lt h)
  have e : r.filter (fun y => 0 < cmp x y) = [] := by
    rw [List.filter_eq_nil_iff]; intro z hz; have := ha z hz; simp; omega
  unfold pos
  rw [List.filter_append, List.filter_cons, e]
  simp; omega

theorem has_lt {α : Type} {cmp : α → α → Int} (hc : Lin cmp) {l r : List α} {x y : α} (hs : Sorted cmp (l ++ y :: r)) (h : cmp x y < 0) : has cmp (l ++ y :: r) x = has cmp l x := by
  have ha := all_after hc hs (Int.le_of_lt h)
  have e : r.any (fun y => cmp x y == 0) = false := by
    rw [List.any_eq_false]; intro z hz; have := ha z hz; simp; omega
  unfold has
  rw [List.any_append, List.any_cons, e]
  have : (cmp x y == 0) = false := by simp; omega
  simp [this]

theorem pos_gt {α : Type} {cmp : α → α → Int} (hc : Lin cmp) {l r : List α} {x y : α} (hs : Sorted cmp (l ++ y :: r)) (h : 0 < cmp x y) : pos cmp (l ++ y :: r) x = l.length + 1 + pos cmp r x := by
  have ha := all_before hc hs (Int.le_of_lt h)
  have e : l.filter (fun y => 0 < cmp x y) = l := by
    rw [List.filter_eq_self]; intro z hz; have := ha z hz; simpa
  unfold pos
  rw [List.filter_append, List.filter_cons, e, if_pos (by simpa)]
  simp; omega

theorem has_gt {α : Type} {cmp : α → α → Int} (hc : Lin cmp) {l r : List α} {x y : α} (hs : Sorted cmp (l ++ y :: r)) (h : 0 < cmp x y) : has cmp (l ++ y :: r) x = has cmp r x := by
  have ha := all_before hc hs (Int.le_of_lt h)
  have e : l.any (fun y => cmp x y == 0) = false := by
    rw [List.any_eq_false]; intro z hz; have := ha z hz; simp; omega
  unfold has
  rw [List.any_append, List.any_cons, e]
  have : (cmp x y == 0) = false := by simp; omega
  simp [this]

theorem pos_eq {α : Type} {cmp : α → α → Int} (hc : Lin cmp) {l r : List α} {x y : α} (hs : Sorted cmp (l ++ y :: r)) (h : cmp x y = 0) : pos cmp (l ++ y :: r) x = l.length ∧ has cmp (l ++ y :: r) x = true := by
  have ha := all_before hc hs (x := x) (by omega)
  have hb := all_after hc hs (x := x) (by omega)
  have e : l.filter (fun y => 0 < cmp x y) = l := by
    rw [List.filter_eq_self]; intro z hz; have := ha z hz; simpa
  have f : r.filter (fun y => 0 < cmp x y) = [] := by
    rw [List.filter_eq_nil_iff]; intro z hz; have := hb z hz; simp; omega
  refine ⟨?_, ?_⟩
  · unfold pos
    rw [List.filter_append, List.filter_cons, e, f]
    simp [h]
  · unfold has
    simp [h]

theorem sorted_left {α : Type} {cmp : α → α → Int} {l r : List α} {y : α} (hs : Sorted cmp (l ++ y :: r)) : Sorted cmp l := (List.pairwise_append.1 hs).1
theorem sorted_right {α : Type} {cmp : α → α → Int} {l r : List α} {y : α} (hs : Sorted cmp (l ++ y :: r)) : Sorted cmp r := (List.pairwise_cons.1 (List.pairwise_append.1 hs).2.1).2

theorem pos_le {α : Type} {cmp : α → α → Int} (l : List α) (x : α) : pos cmp l x ≤ l.length := List.length_filter_le _ _

/-- l with x in its place. -/
def ins {α : Type} (cmp : α → α → Int) (l : List α) (x : α) : List α := l.take (pos cmp l x) ++ x :: l.drop (pos cmp l x)
/-- l with x, if no member is equal to it. -/
def put {α : Type} (cmp : α → α → Int) (l : List α) (x : α) : List α := if has cmp l x then l else ins cmp l x

theorem length_ins {α : Type} (cmp : α → α → Int) (l : List α) (x : α) : (ins cmp l x).length = l.length + 1 := by
  have := pos_le (cmp := cmp) l x
  simp [ins]; omega

theorem length_put {α : Type} (cmp : α → α → Int) (l : List α) (x : α) : (put cmp l x).length ≤ l.length + 1 := by
  unfold put; split
  · omega
  · rw [length_ins]; omega


/-- A rising list in which x is not: those that are less, then those that are more. -/
theorem split_pos {α : Type} {cmp : α → α → Int} (hc : Lin cmp) : ∀ (l : List α) (x : α), Sorted cmp l → (∀ y ∈ l.take (pos cmp l x), 0 < cmp x y) ∧ (∀ y ∈ l.drop (pos cmp l x), cmp x y ≤ 0)
  | [], x, _ => by simp [pos]
  | a :: l, x, hs => by
    have hs' := (List.pairwise_cons.1 hs)
    rcases Int.lt_or_le 0 (cmp x a) with h | h
    · have ih := split_pos hc l x hs'.2
      have e : pos cmp (a :: l) x = pos cmp l x + 1 := by simp [pos, List.filter_cons, h]
      rw [e]
      simp only [List.take_succ_cons, List.drop_succ_cons, List.mem_cons]
      exact ⟨fun y hy => by rcases hy with rfl | hy; exact h; exact ih.1 y hy, ih.2⟩
    · have hall : ∀ y ∈ l, cmp x y < 0 := fun y hy => hc.le_lt h (hs'.1 y hy)
      have e : pos cmp (a :: l) x = 0 := by
        have : l.filter (fun y => 0 < cmp x y) = [] := by rw [List.filter_eq_nil_iff]; intro z hz; have := hall z hz; simp; omega
        simp [pos, List.filter_cons, this]; omega
      rw [e]
      refine ⟨by simp, fun y hy => ?_⟩
      simp only [List.drop_zero, List.mem_cons] at hy
      rcases hy with rfl | hy
      · exact h
      · exact Int.le_of_lt (hall y hy)

/-- Where a member is equal to x, it stands at x's place. -/
theorem has_at {α : Type} {cmp : α → α → Int} (hc : Lin cmp) : ∀ (l : List α) (x : α), Sorted cmp l → has cmp l x = true → ∃ y, l[pos cmp l x]? = some y ∧ cmp x y = 0
  | [], x, _, h => by simp [has] at h
  | a :: l, x, hs, h => by
    have hs' := List.pairwise_cons.1 hs
    rcases Int.lt_trichotomy (cmp x a) 0 with h1 | h1 | h1
    · have hall : ∀ y ∈ l, cmp x y < 0 := fun y hy => hc.le_lt (Int.le_of_lt h1) (hs'.1 y hy)
      obtain ⟨y, hy, h0⟩ := List.any_eq_true.1 h
      simp only [beq_iff_eq] at h0
      rcases List.mem_cons.1 hy with rfl | hy
      · omega
      · have := hall y hy; omega
    · have hall : ∀ y ∈ l, cmp x y < 0 := fun y hy => hc.le_lt (by omega) (hs'.1 y hy)
      have e : pos cmp (a :: l) x = 0 := by
        have : l.filter (fun y => 0 < cmp x y) = [] := by rw [List.filter_eq_nil_iff]; intro z hz; have := hall z hz; simp; omega
        simp [pos, List.filter_cons, this]; omega
      exact ⟨a, by rw [e]; rfl, h1⟩
    · have e : pos cmp (a :: l) x = pos cmp l x + 1 := by simp [pos, List.filter_cons, h1]
      have h' : has cmp l x = true := by
        have : (cmp x a == 0) = false := by simp; omega
        simpa [has, this] using h
      obtain ⟨y, hy, h0⟩ := has_at hc l x hs'.2 h'
      exact ⟨y, by rw [e]; simpa using hy, h0⟩

theorem sorted_ins {α : Type} {cmp : α → α → Int} (hc : Lin cmp) (l : List α) (x : α) (hs : Sorted cmp l) (hx : has cmp l x = false) : Sorted cmp (ins cmp l x) := by
  obtain ⟨h1, h2⟩ := split_pos hc l x hs
  have hn : ∀ y ∈ l, cmp x y ≠ 0 := by
    intro y hy h0
    have := List.any_eq_false.1 hx y hy
    simp [h0] at this
  have hp : (l.take (pos cmp l x) ++ l.drop (pos cmp l x)).Pairwise (fun a b => cmp a b < 0) := by rw [List.take_append_drop]; exact hs
  have hp := List.pairwise_append.1 hp
  refine List.pairwise_append.2 ⟨hp.1, List.pairwise_cons.2 ⟨fun y hy => ?_, hp.2.1⟩, fun a ha b hb => ?_⟩
  · have := h2 y hy; have := hn y (List.mem_of_mem_drop hy); omega
  · have ha' := (hc.swap a x).2 (h1 a ha)
    rcases List.mem_cons.1 hb with rfl | hb
    · exact ha'
    · exact hc.lt_le ha' (h2 b hb)

theorem pos_get {α : Type} {cmp : α → α → Int} (hc : Lin cmp) {L : List α} {x : α} {i : Nat} (hs : Sorted cmp L) (h : L[i]? = some x) : pos cmp L x = i ∧ has cmp L x = true := by
  obtain ⟨hi, hx⟩ := List.getElem?_eq_some_iff.1 h
  have e : L = L.take i ++ x :: L.drop (i + 1) := by rw [← hx, ← List.drop_eq_getElem_cons hi, List.take_append_drop]
  have hs' := hs
  rw [e] at hs'
  have h2 := pos_eq hc hs' (hc.refl x)
  rw [← e] at h2
  exact ⟨by rw [h2.1]; simp; omega, h2.2⟩

theorem sorted_put {α : Type} {cmp : α → α → Int} (hc : Lin cmp) (l : List α) (x : α) (hs : Sorted cmp l) : Sorted cmp (put cmp l x) := by
  unfold put
  split
  · exact hs
  · rename_i h
    exact sorted_ins hc l x hs (by simpa using h)

theorem icmp_zero {a b : Int} : icmp a b = 0 ↔ a = b := by unfold icmp; split <;> (try split) <;> omega

theorem mem_ins {α : Type} {cmp : α → α → Int} {l : List α} {x a : α} : a ∈ ins cmp l x ↔ a = x ∨ a ∈ l := by
  have : a ∈ l ↔ a ∈ l.take (pos cmp l x) ++ l.drop (pos cmp l x) := by rw [List.take_append_drop]
  rw [this]
  simp only [ins, List.mem_append, List.mem_cons]
  constructor
  · rintro (h | h | h)
    · exact .inr (.inl h)
    · exact .inl h
    · exact .inr (.inr h)
  · rintro (h | h | h)
    · exact .inr (.inl h)
    · exact .inl h
    · exact .inr (.inr h)

/-- A way to hold things against each other by which equal ones are the same. -/
def Exact {α : Type} (cmp : α → α → Int) : Prop := ∀ x y, cmp x y = 0 ↔ x = y

theorem has_iff {α : Type} {cmp : α → α → Int} (he : Exact cmp) {l : List α} {x : α} : has cmp l x = true ↔ x ∈ l := by
  simp only [has, List.any_eq_true, beq_iff_eq]
  constructor
  · rintro ⟨y, hy, h⟩; rw [(he x y).1 h]; exact hy
  · intro h; exact ⟨x, h, (he x x).2 rfl⟩

theorem mem_put {α : Type} {cmp : α → α → Int} (he : Exact cmp) {l : List α} {x a : α} : a ∈ put cmp l x ↔ a = x ∨ a ∈ l := by
  unfold put
  split
  · rename_i h
    have := (has_iff he).1 h
    constructor
    · exact .inr
    · rintro (rfl | h)
      · exact this
      · exact h
  · exact mem_ins

theorem mem_puts {α : Type} {cmp : α → α → Int} (he : Exact cmp) {xs l : List α} {a : α} : a ∈ xs.foldl (put cmp) l ↔ a ∈ xs ∨ a ∈ l := by
  induction xs generalizing l with
  | nil => simp
  | cons x xs ih =>
    rw [List.foldl_cons, ih, mem_put he, List.mem_cons]
    constructor
    · rintro (h | h | h) <;> simp [h]
    · rintro ((h | h) | h) <;> simp [h]

theorem sorted_puts {α : Type} {cmp : α → α → Int} (hc : Lin cmp) {xs l : List α} (hs : Sorted cmp l) : Sorted cmp (xs.foldl (put cmp) l) := by
  induction xs generalizing l with
  | nil => exact hs
  | cons x xs ih => exact ih (sorted_put hc l x hs)

theorem icmp_exact : Exact icmp := fun _ _ => icmp_zero

end Go.Proofs.Ytmnpcpgdhaplaaa
