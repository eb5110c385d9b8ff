/- Plain facts on elements in order, each once; what Copy, and a set's All made a list, answer. Conditions: none but that the lists, the sets lie in memory. -/
import Derived.Test.YtcpgjekkcpfpaaaRefElm3O
import Derived.Test.YtcpgjekkcpfpaaaListLawO
import Derived.Test.YtcpgjekkcpfpaaaMeetSO
import Derived.Test.YtcpgjekkcpfpaaaUnionSO
namespace Go.Proofs.Ytcpgjekkcpfpaaa.O
open Go Go.RowKit

theorem Lin.zsymm {α : Type} {cmp : α → α → Int} (h : Lin cmp) {x y : α} (e : cmp x y = 0) : cmp y x = 0 := by
  have := h.swap x y; have := h.swap y x; omega
theorem Lin.ztrans {α : Type} {cmp : α → α → Int} (h : Lin cmp) {x y z : α} (e : cmp x y = 0) (f : cmp y z = 0) : cmp x z = 0 := by
  have a := h.trans x y z (by omega) (by omega)
  have b := h.trans z y x (by have := Lin.zsymm h f; omega) (by have := Lin.zsymm h e; omega)
  have := h.swap x z; have := h.swap z x; omega

theorem any_symm (ys : List ElmV) (x : ElmV) : (fst? ys x).isSome = ys.any (fun y => elmCmp x y == 0) := by
  rw [Bool.eq_iff_iff, List.find?_isSome, List.any_eq_true]
  constructor
  · rintro ⟨y, hy, h⟩; exact ⟨y, hy, by have : elmCmp y x = 0 := by simpa using h
                                        simpa using Lin.zsymm elmCmp_lin this⟩
  · rintro ⟨y, hy, h⟩; exact ⟨y, hy, by have : elmCmp x y = 0 := by simpa using h
                                        simpa using Lin.zsymm elmCmp_lin this⟩

theorem has_putE (l : List ElmV) (x y : ElmV) : has elmCmp (put elmCmp l y) x = (has elmCmp l x || elmCmp x y == 0) := by
  unfold put
  cases h : has elmCmp l y
  · rw [if_neg (by simp), ins]
    conv => rhs; rw [← List.take_append_drop (pos elmCmp l y) l]
    unfold has
    simp only [List.any_append, List.any_cons]
    rw [Bool.eq_iff_iff]; simp only [Bool.or_eq_true]
    constructor
    · rintro (h | h | h)
      · exact .inl (.inl h)
      · exact .inr h
      · exact .inl (.inr h)
    · rintro ((h | h) | h)
      · exact .inl h
      · exact .inr (.inr h)
      · exact .inr (.inl h)
  · rw [if_pos rfl, Bool.eq_iff_iff, Bool.or_eq_true]
    constructor
    · exact .inl
    · rintro (k | k)
      · exact k
      · obtain ⟨z, hz, h0⟩ := List.any_eq_true.1 h
        have k' : elmCmp x y = 0 := by simpa using k
        have h0' : elmCmp y z = 0 := by simpa using h0
        exact List.any_eq_true.2 ⟨z, hz, by simpa using Lin.ztrans elmCmp_lin k' h0'⟩

theorem has_srt (ys : List ElmV) (x : ElmV) : has elmCmp (srt ys) x = ys.any (fun y => elmCmp x y == 0) := by
  have key : ∀ (ys l : List ElmV), has elmCmp (ys.foldl (put elmCmp) l) x = (has elmCmp l x || ys.any (fun y => elmCmp x y == 0)) := by
    intro ys
    induction ys with
    | nil => intro l; simp
    | cons y ys ih => intro l; rw [List.foldl_cons, ih, has_putE]; simp [Bool.or_assoc]
  rw [srt, key]; simp [has]

theorem srt_sorted (xs : List ElmV) : Sorted elmCmp (srt xs) := by
  have key : ∀ (xs l : List ElmV), Sorted elmCmp l → Sorted elmCmp (xs.foldl (put elmCmp) l) := by
    intro xs
    induction xs with
    | nil => exact fun _ h => h
    | cons x xs ih => exact fun l h => ih _ (sorted_put elmCmp_lin _ _ h)
  exact key xs [] List.Pairwise.nil

theorem put_last {l : List ElmV} {x : ElmV} (h : ∀ y ∈ l, elmCmp y x < 0) : put elmCmp l x = l ++ [x] := by
  have hp : ∀ y ∈ l, 0 < elmCmp x y := fun y hy => (elmCmp_lin.swap y x).1 (h y hy)
  have e1 : pos elmCmp l x = l.length := by unfold pos; rw [List.filter_eq_self.2 (fun y hy => by simpa using hp y hy)]
  have e2 : has elmCmp l x = false := by
    rw [← Bool.not_eq_true]
    intro k
    obtain ⟨y, hy, h0⟩ := List.any_eq_true.1 k
    have h1 : elmCmp x y = 0 := by simpa using h0
    have := hp y hy
    omega
  rw [put, e2, if_neg (by simp), ins, e1]; simp

theorem srt_idem {L : List ElmV} (h : Sorted elmCmp L) : srt L = L := by
  have key : ∀ n, srt (L.take n) = L.take n := by
    intro n
    induction n with
    | zero => rfl
    | succ n ih =>
      rcases Nat.lt_or_ge n L.length with hn | hn
      · rw [List.take_add_one, List.getElem?_eq_getElem hn]
        show srt (L.take n ++ [L[n]]) = _
        rw [srt_snoc, ih, put_last]
        · rfl
        · intro y hy
          obtain ⟨i, hi⟩ := List.mem_iff_getElem?.1 hy
          have hin : i < n := by have := (List.getElem?_eq_some_iff.1 hi).1; simp at this; omega
          rw [List.getElem?_take_of_lt hin] at hi
          obtain ⟨a1, a2⟩ := List.getElem?_eq_some_iff.1 hi
          have := List.pairwise_iff_getElem.1 h i n a1 hn hin
          rwa [a2] at this
      · rw [List.take_of_length_le (by omega : L.length ≤ n + 1)]
        rw [List.take_of_length_le hn] at ih; exact ih
  have := key L.length
  rwa [List.take_length] at this

theorem srt_both (xs ys : List ElmV) : srt (srt xs ++ srt ys) = (srt ys).foldl (put elmCmp) (srt xs) := by
  show (srt xs ++ srt ys).foldl (put elmCmp) [] = _
  rw [List.foldl_append]
  congr 1
  exact srt_idem (srt_sorted xs)

theorem mem_putE {l : List ElmV} {x z : ElmV} (h : z ∈ put elmCmp l x) : z ∈ l ∨ (z = x ∧ has elmCmp l x = false) := by
  unfold put at h
  cases hh : has elmCmp l x
  · rw [hh, if_neg (by simp), ins] at h
    rcases List.mem_append.1 h with h | h
    · exact .inl (List.mem_of_mem_take h)
    · rcases List.mem_cons.1 h with h | h
      · exact .inr ⟨h, rfl⟩
      · exact .inl (List.mem_of_mem_drop h)
  · rw [hh, if_pos rfl] at h; exact .inl h

theorem fst_snoc (ys : List ElmV) (y z : ElmV) : fst? (ys ++ [y]) z = (fst? ys z).or (if elmCmp y z == 0 then some y else none) := by
  rw [fst?, List.find?_append]
  congr 1
  cases h : (elmCmp y z == 0) <;> simp [h]

/-- Of things that are one the first stays. -/
theorem srt_first (xs : List ElmV) : ∀ n, ∀ z ∈ srt (xs.take n), fst? (xs.take n) z = some z := by
  intro n
  induction n with
  | zero => intro z hz; simp [srt] at hz
  | succ n ih =>
    rcases Nat.lt_or_ge n xs.length with hn | hn
    · rw [List.take_add_one, List.getElem?_eq_getElem hn]
      intro z hz
      have hz' : z ∈ put elmCmp (srt (xs.take n)) xs[n] := by rw [← srt_snoc]; exact hz
      show fst? (xs.take n ++ [xs[n]]) z = some z
      rw [fst_snoc]
      rcases mem_putE hz' with h | ⟨h, hno⟩
      · rw [ih z h]; rfl
      · subst h
        have : fst? (xs.take n) xs[n] = none := by
          have h1 := any_symm (xs.take n) xs[n]
          rw [← has_srt, hno] at h1
          cases h2 : fst? (xs.take n) xs[n]
          · rfl
          · rw [h2] at h1; cases h1
        rw [this]
        simp [elmCmp_lin.refl]
    · rw [List.take_of_length_le (by omega : xs.length ≤ n + 1)]
      rw [List.take_of_length_le hn] at ih; exact ih

theorem srt_get {xs : List ElmV} {x y : ElmV} (hh : has elmCmp (srt xs) x = true) (hy : (srt xs)[pos elmCmp (srt xs) x]? = some y) : fst? xs x = some y := by
  obtain ⟨z, hz, h0⟩ := has_at elmCmp_lin (srt xs) x (srt_sorted xs) hh
  rw [hy] at hz; cases hz
  have h1 := srt_first xs xs.length y (by rw [List.take_length]; exact List.mem_of_getElem? hy)
  rw [List.take_length] at h1
  rw [← h1]
  unfold fst?
  congr 1
  funext u
  rw [Bool.eq_iff_iff]
  simp only [beq_iff_eq]
  exact ⟨fun h => Lin.ztrans elmCmp_lin h h0, fun h => Lin.ztrans elmCmp_lin h (Lin.zsymm elmCmp_lin h0)⟩

theorem Own.from {w : World} {a : Option Addr} {n c : Nat} {xs : List ElmV} (h : Own w (.slice a n c) xs) : From w a c xs ∧ n = xs.length := by
  obtain ⟨⟨a', cap, e, hc⟩, hf, -⟩ := h
  simp only [Value.slice.injEq] at e
  obtain ⟨rfl, rfl, rfl⟩ := e
  refine ⟨?_, rfl⟩
  rcases hc with rfl | ⟨b, off, rfl, hel⟩
  · cases a with
    | none => exact Or.inl ⟨rfl, (hf _ _ _ rfl).2 rfl, rfl⟩
    | some ad => exact Or.inr ⟨ad, rfl, by simp⟩
  · exact Or.inr ⟨_, rfl, hel.news⟩

theorem copy_T (w : World) (v : Value) (xs : List ElmV) (h : Own w v xs) (hs : xs.length ≤ 100000) :
    Calls Try.prog 12 #[v] w fun e w' => ∃ v', e = .returned v' ∧ Made w.heap.size w' v' xs ∧ Below w.heap.size w w' := by
  obtain ⟨⟨a, cap, rfl, hc⟩, hf, hso⟩ := h
  obtain ⟨hfr, -⟩ := Own.from (w := w) (a := a) (n := xs.length) (c := cap) ⟨⟨a, cap, rfl, hc⟩, hf, hso⟩
  clear hc hf hso
  go_enter Try.func12, Try.ntmps12
  go_wp2_with (first
    | (at_builtin; refine append_elms rfl _ _ rfl w.heap.size (.slice none 0 0) [] rfl (World.ownsRow_nil _ _ _ _) _ _ _ xs rfl rfl hfr (by simp <;> omega) (Nat.le_refl _) ?_; intro v1 w5 hM1 hg1; have hC5 := nil_below hg1 (Nat.le_refl _)))
  go_ret
  exact ⟨v1, rfl, by simpa using hM1, hC5⟩

theorem setlist_T (w : World) (s : Nat) (L : List ElmV) (hS : SetAt w s L) (hs : L.length ≤ 800000) :
    Calls Try.prog 8 #[.func (.func 20) #[] #[.pointer (some ⟨w.heap.size, 0, none⟩)]] (w.alloc (.cells #[.pointer (some ⟨s, 0, none⟩)] 24)) fun e w' => ∃ v, e = .returned v ∧ SliceGe w.heap.size w' v L ∧ Below w.heap.size w w' := by
  have hb4 : Below w.heap.size w (w.alloc (.cells #[.pointer (some ⟨s, 0, none⟩)] 24)) := (Below.refl _ w).alloc (Nat.le_refl _) _
  have hbx := heap_alloc_new w (.cells #[.pointer (some ⟨s, 0, none⟩)] 24)
  have hS4 := hS.below hb4
  refine (list_T 20 #[.pointer (some ⟨w.heap.size, 0, none⟩)] _ _ _ (enters_of Try.func20 (by kernel_rfl) rfl)
    (all_stops 2 _ w.heap.size s _ _ hbx hS4 hs (Nat.le_refl _)) hs (Nat.le_refl _)).mono ?_
  rintro e w5 ⟨v, rfl, hM, hb5⟩
  exact ⟨v, rfl, (Made.ge hM).mono (by simp), hb4.trans (hb5.mono hb4.size)⟩

end Go.Proofs.Ytcpgjekkcpfpaaa.O
