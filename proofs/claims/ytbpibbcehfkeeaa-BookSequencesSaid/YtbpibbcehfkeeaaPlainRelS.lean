/- The statements' plain map: how it lies in memory, and what leaves it there. Conditions: none. -/
import Derived.Test.YtbpibbcehfkeeaaPlainFindS
import Derived.Test.YtbpibbcehfkeeaaRefPutS
import Derived.Test.YtbpibbcehfkeeaaBkRow
import Derived.Test.YtbpibbcehfkeeaaMapOpsE
namespace Go.Proofs.Ytbpibbcehfkeeaa.S
open Go Go.RowKit

abbrev keysL (L : List EntV) : List SymV := L.map (·.key)
abbrev valsL (L : List EntV) : List Int := L.map (·.v)
abbrev ei : Int → Value := fun z => .int .i64 z

/-- The keys: in a block between lo and hi. -/
def KeysAt (lo hi : Nat) (w : World) (v : Value) (xs : List SymV) : Prop :=
  ∃ a cap, v = .slice a xs.length cap ∧ (xs = [] ∨ ∃ b off, lo < b ∧ b < hi ∧ a = some ⟨b, off, none⟩ ∧ Elems w b off xs)

theorem KeysAt.slice {lo hi : Nat} {w : World} {v : Value} {xs : List SymV} (h : KeysAt lo hi w v xs) : SliceOf w v xs := by
  obtain ⟨a, cap, rfl, h | ⟨b, off, -, -, h⟩⟩ := h
  · exact ⟨a, cap, rfl, .inl h⟩
  · exact ⟨a, cap, rfl, .inr ⟨b, off, h⟩⟩

theorem elems_keep {w w' : World} {b off : Nat} {xs : List SymV} (h : Elems w b off xs) (e : w'.heap[b]? = w.heap[b]?) : Elems w' b off xs := by
  intro i x hx
  have h0 := h i x hx
  have k : ∀ o, w'.cell? ⟨b, o, none⟩ = w.cell? ⟨b, o, none⟩ := fun o => World.cell?_of_block e
  simp only [k]
  exact h0

theorem KeysAt.keep {lo hi : Nat} {w w' : World} {v : Value} {xs : List SymV} (h : KeysAt lo hi w v xs) (hk : ∀ b, lo < b → b < hi → b < w.heap.size → w'.heap[b]? = w.heap[b]?) : KeysAt lo hi w' v xs := by
  obtain ⟨a, cap, rfl, h | ⟨b, off, h1, h2, h3, h⟩⟩ := h
  · exact ⟨a, cap, rfl, .inl h⟩
  · cases xs with
    | nil => exact ⟨a, cap, rfl, .inl rfl⟩
    | cons x xs =>
      exact ⟨a, cap, rfl, .inr ⟨b, off, h1, h2, h3, elems_keep h (hk b h1 h2 (World.block_lt_of_cell? w _ (h 0 x rfl).1))⟩⟩

/-- The plain map in block p has the entries L. -/
def PL (w : World) (p : Nat) (L : List EntV) : Prop :=
  ∃ vk vv K, p < K ∧ K ≤ w.heap.size ∧ PlainAt w p vk vv ∧ KeysAt p K w vk (keysL L) ∧ Fits vk ∧ I.Rw ei 3 K w vv (valsL L)

theorem PL.keep {w w' : World} {p : Nat} {L : List EntV} (h : PL w p L) (hk : ∀ b, p ≤ b → b < w.heap.size → w'.heap[b]? = w.heap[b]?) (hs : w.heap.size ≤ w'.heap.size) : PL w' p L := by
  obtain ⟨vk, vv, K, h1, h2, h3, h4, h5, h6⟩ := h
  exact ⟨vk, vv, K, h1, by omega, (hk p (Nat.le_refl _) (lt_of_block h3)).trans h3, h4.keep fun b hb _ hl => hk b (by omega) hl, h5, h6.keep fun g l e => hk g (by have := (h6.end_ge g l e).1; omega) (h6.end_ge g l e).2.1⟩

theorem PL.below {w w' : World} {p : Nat} {L : List EntV} (h : PL w p L) (hB : Below w.heap.size w w') : PL w' p L := h.keep (fun b _ hb => hB.block b hb) hB.size
theorem PL.but {w w' : World} {p s : Nat} {L : List EntV} (h : PL w p L) (hb : But s w w') (hs : s < p) : PL w' p L := h.keep (fun b hp hl => hb.block b hl (by omega)) hb.size

/-- What put and drop of the plain map change. -/
structure Ch (p : Nat) (w w' : World) : Prop where
  below : Below p w w'
  keep : ∀ (b : Nat) (c : Array Value) (T : TypeId) (f : Nat × Nat), w.heap[b]? = some (.cells c T f) → T ≠ 32 → T ≠ 3 → w'.heap[b]? = some (.cells c T f)

theorem Ch.of_below {p : Nat} {w w' : World} (h : Below w.heap.size w w') (hp : p ≤ w.heap.size) : Ch p w w' := ⟨h.mono hp, fun b _ _ _ hb _ _ => (h.block b (lt_of_block hb)).trans hb⟩
theorem Ch.trans {p : Nat} {a b c : World} (h : Ch p a b) (k : Ch p b c) : Ch p a c := ⟨h.below.trans k.below, fun i x T f hi h1 h2 => k.keep i x T f (h.keep i x T f hi h1 h2) h1 h2⟩

theorem Ch.setCell {p b o : Nat} {w : World} {c : Array Value} {T : TypeId} {f : Nat × Nat} (hb : w.heap[b]? = some (.cells c T f)) (hT : T = 32 ∨ T = 3) (hp : p ≤ b) (v : Value) : Ch p w (w.setCell ⟨b, o, none⟩ v) := by
  refine ⟨(Below.refl p w).setCell hp v, fun i x T' f' hi h1 h2 => (Below.heap_setCell _ _ _ _ ?_).trans hi⟩
  rintro rfl
  rw [hb] at hi
  simp at hi
  obtain ⟨-, e, -⟩ := hi
  rcases hT with h | h
  · exact h1 (e.symm.trans h)
  · exact h2 (e.symm.trans h)

theorem mapat_ch {w w' : World} {m s p : Nat} {L : List EntV} (h : E.MapAt w m s L) (hc : Ch p w w') : E.MapAt w' m s L := by
  obtain ⟨h1, t, q, h2, h3, h4⟩ := h
  exact ⟨hc.keep _ _ _ _ h1 (by decide) (by decide), t, q, hc.keep _ _ _ _ h2 (by decide) (by decide), IsT.keep (fun b c hb => hc.keep _ _ _ _ hb (by decide) (by decide)) t q h3, h4⟩

theorem pos_keys (L : List EntV) (x : EntV) : pos symCmp (keysL L) x.key = pos entCmp L x := by
  unfold pos keysL
  rw [List.filter_map, List.length_map]
  rfl

theorem has_keys (L : List EntV) (x : EntV) : has symCmp (keysL L) x.key = has entCmp L x := by
  unfold has keysL
  rw [List.any_map]
  rfl

theorem sorted_keys {L : List EntV} (h : Sorted entCmp L) : Sorted symCmp (keysL L) := List.pairwise_map.2 h

/-- A new entry. -/
theorem putE_no {L : List EntV} {x : EntV} (hh : has entCmp L x = false) : put entCmp (E.drop entCmp L x) x = L.take (pos entCmp L x) ++ x :: L.drop (pos entCmp L x) := by
  rw [E.drop, hh, if_neg (by simp), put, hh, if_neg (by simp), ins]

/-- A key that is there. -/
theorem putE_yes {L : List EntV} {x : EntV} (hs : Sorted entCmp L) (hh : has entCmp L x = true) : put entCmp (E.drop entCmp L x) x = L.set (pos entCmp L x) x := by
  obtain ⟨y, hy, h0⟩ := has_at entCmp_lin L x hs hh
  obtain ⟨hi, hg⟩ := List.getElem?_eq_some_iff.1 hy
  rw [E.drop, if_pos hh]
  generalize hj : pos entCmp L x = j at hi hg
  have e : L = L.take j ++ y :: L.drop (j + 1) := by
    conv => lhs; rw [← List.take_append_drop j L, List.drop_eq_getElem_cons hi, hg]
  have hs' := hs
  rw [e] at hs'
  obtain ⟨s1, s2, s3⟩ := List.pairwise_append.1 hs'
  have s4 := (List.pairwise_cons.1 s2).1
  have n1 : ∀ b ∈ L.take j, 0 < entCmp x b := fun b hb => (entCmp_lin.swap b x).1 (entCmp_lin.lt_le (s3 b hb y (by simp)) (by have := entCmp_lin.swap x y; have := entCmp_lin.swap y x; omega))
  have n2 : ∀ b ∈ L.drop (j + 1), entCmp x b < 0 := fun b hb => entCmp_lin.le_lt (by omega) (s4 b hb)
  have hlen : (L.take j).length = j := by simp; omega
  have hp : pos entCmp (L.take j ++ L.drop (j + 1)) x = j := by
    unfold pos
    rw [List.filter_append, List.filter_eq_self.2 (fun b hb => by simpa using n1 b hb), List.filter_eq_nil_iff.2 (fun b hb => by have := n2 b hb; simp; omega), List.append_nil, hlen]
  have hn : has entCmp (L.take j ++ L.drop (j + 1)) x = false := by
    rw [← Bool.not_eq_true]
    unfold has
    rw [List.any_eq_true]
    rintro ⟨b, hb, h⟩
    have h' : entCmp x b = 0 := by simpa using h
    rcases List.mem_append.1 hb with hb | hb
    · have := n1 b hb; omega
    · have := n2 b hb; omega
  rw [List.eraseIdx_eq_take_drop_succ, put, hn, if_neg (by simp), ins, hp, List.take_append_of_le_length (by omega), List.take_of_length_le (by omega), List.drop_append_of_le_length (by omega), List.drop_of_length_le (by omega), List.nil_append, List.set_eq_take_append_cons_drop, if_pos hi]

end Go.Proofs.Ytbpibbcehfkeeaa.S
