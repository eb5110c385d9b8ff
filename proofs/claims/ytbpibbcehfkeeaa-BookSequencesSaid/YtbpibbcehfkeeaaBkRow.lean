/- Rows of values that lie in memory of the call's own, at any place of a block, and what an append does to them. Conditions: values of one cell. -/
import Derived.Test.YtbpibbcehfkeeaaProg
import Derived.WalkKit
import Derived.Below
import Derived.OneCell
import Derived.Lib.Hide
import Derived.Deep.RegionHeld3
import Derived.Deep.QuietTactic
import Derived.BigQuiet
import Derived.Deep.RegionWith
import Derived.Outline
import Derived.Deep.AppendSrc
import Derived.Deep.AppendLies
import Derived.OwnWalkIn
namespace Go.Proofs.Ytbpibbcehfkeeaa.I
open Go Go.RowKit

def Rw {α : Type} (enc : α → Value) (T : TypeId) (B : Nat) (W : World) (v : Value) (xs : List α) : Prop :=
  (v = .slice none 0 0 ∧ xs = []) ∨ ∃ g off cap cur, v = .slice (some ⟨g, off, none⟩) xs.length cap ∧ B ≤ g ∧ W.heap[g]? = some (.cells cur T (0, 0)) ∧ xs.length ≤ cap ∧ off + cap ≤ cur.size ∧ ∀ i x, xs[i]? = some x → cur[off + i]? = some (enc x)

/-- The block in which a slice lies, and the first cell behind it. -/
def endOf : Value → Option (Nat × Nat)
  | .slice (some a) n _ => some (a.block, a.off + n)
  | _ => none

/-- All that was there is as it was, but for cells from r on. -/
structure Fr (r : Option (Nat × Nat)) (w w' : World) : Prop where
  os : w'.os = w.os
  tape : w'.tape = w.tape
  output : w'.output = w.output
  size : w.heap.size ≤ w'.heap.size
  block : ∀ k, k < w.heap.size → (∀ g l, r = some (g, l) → k ≠ g) → w'.heap[k]? = w.heap[k]?
  cell : ∀ g l, r = some (g, l) → ∀ i v, i < l → w.cell? ⟨g, i, none⟩ = some v → w'.cell? ⟨g, i, none⟩ = some v

theorem Fr.below {B : Nat} {r : Option (Nat × Nat)} {w w' : World} (h : Fr r w w') (hr : ∀ g l, r = some (g, l) → B ≤ g) (hB : B ≤ w.heap.size) : Below B w w' :=
  ⟨h.os, h.tape, h.output, h.size, fun k hk => h.block k (by omega) fun g l e => by have := hr g l e; omega⟩

theorem Fr.keep {r : Option (Nat × Nat)} {w w' : World} (h : Fr r w w') {b i : Nat} {v : Value} (hc : w.cell? ⟨b, i, none⟩ = some v) (hb : ∀ g l, r = some (g, l) → b = g → i < l) : w'.cell? ⟨b, i, none⟩ = some v := by
  by_cases e : ∃ g l, r = some (g, l) ∧ b = g
  · obtain ⟨g, l, e, rfl⟩ := e
    exact h.cell _ _ e i v (hb _ _ e rfl) hc
  · refine (World.cell?_of_block (h.block b (World.block_lt_of_cell? w _ hc) fun g l e' e2 => e ⟨g, l, e', e2⟩)).trans hc

theorem heap_setCells_other (b : Nat) : ∀ (vs : List Value) (o : Nat) (w : World) (k : Nat), k ≠ b → (w.setCells b o vs).heap[k]? = w.heap[k]?
  | [], _, _, _, _ => rfl
  | v :: r, o, w, k, h => (heap_setCells_other b r (o + 1) _ k h).trans (Below.heap_setCell _ _ _ _ h)

theorem setCells_same (b : Nat) : ∀ (vs : List Value) (o : Nat) (w : World), (w.setCells b o vs).os = w.os ∧ (w.setCells b o vs).tape = w.tape ∧ (w.setCells b o vs).output = w.output ∧ (w.setCells b o vs).heap.size = w.heap.size
  | [], _, _ => ⟨rfl, rfl, rfl, rfl⟩
  | v :: r, o, w => by
    obtain ⟨h1, h2, h3, h4⟩ := setCells_same b r (o + 1) (w.setCell ⟨b, o, none⟩ v)
    exact ⟨h1, h2, h3, h4.trans (by simp [World.setCell])⟩

theorem heap_setCells (b : Nat) : ∀ (vs : List Value) (o : Nat) (w : World) (cur : Array Value) (T : TypeId) (fr : Nat × Nat), w.heap[b]? = some (.cells cur T fr) →
    ∃ cur', (w.setCells b o vs).heap[b]? = some (.cells cur' T fr) ∧ cur'.size = cur.size ∧ (∀ i, i < o ∨ o + vs.length ≤ i → cur'[i]? = cur[i]?) ∧ (∀ j v, vs[j]? = some v → o + j < cur.size → cur'[o + j]? = some v)
  | [], o, w, cur, T, fr, h => ⟨cur, h, rfl, fun _ _ => rfl, fun j v hv => by simp at hv⟩
  | v :: r, o, w, cur, T, fr, h => by
    have h1 : (w.setCell ⟨b, o, none⟩ v).heap[b]? = some (.cells (cur.setIfInBounds o v) T fr) := by
      have hl := lt_of_block h
      have he := (Array.getElem?_eq_some_iff.1 h).2
      simp [World.setCell, hl, Array.getElem_modify, he]
    obtain ⟨cur', h2, h3, h4, h5⟩ := heap_setCells b r (o + 1) _ _ T fr h1
    refine ⟨cur', h2, by simpa using h3, fun i hi => ?_, fun j u hj hlt => ?_⟩
    · rw [h4 i (by simp at hi; omega), Array.getElem?_setIfInBounds_ne (by simp at hi; omega)]
    · cases j with
      | zero =>
        simp at hj; subst hj
        rw [h4 (o + 0) (by omega)]
        rw [Nat.add_zero] at hlt ⊢
        simp [hlt]
      | succ j =>
        have := h5 j u (by simpa using hj) (by simp; omega)
        rw [show o + (j + 1) = o + 1 + j by omega]; exact this

section
variable {α : Type} {enc : α → Value} {T : TypeId} {B : Nat}

theorem Rw.end_ge {W : World} {v : Value} {xs : List α} (h : Rw enc T B W v xs) : ∀ g l, endOf v = some (g, l) → B ≤ g ∧ g < W.heap.size ∧ xs.length ≤ l := by
  intro g l e
  rcases h with ⟨rfl, -⟩ | ⟨g', off, cap, cur, rfl, h1, h2, -⟩
  · cases e
  · simp [endOf] at e
    obtain ⟨rfl, rfl⟩ := e
    exact ⟨h1, lt_of_block h2, by omega⟩

theorem Rw.nil (W : World) : Rw enc T B W (.slice none 0 0) [] := .inl ⟨rfl, rfl⟩

/-- A row stays as long as its block does. -/
theorem Rw.keep {W W' : World} {v : Value} {xs : List α} (h : Rw enc T B W v xs) (hk : ∀ g l, endOf v = some (g, l) → W'.heap[g]? = W.heap[g]?) : Rw enc T B W' v xs := by
  rcases h with h | ⟨g, off, cap, cur, rfl, h1, h2, h3⟩
  · exact .inl h
  · exact .inr ⟨g, off, cap, cur, rfl, h1, (hk _ _ rfl).trans h2, h3⟩

theorem Rw.below {W W' : World} {v : Value} {xs : List α} (h : Rw enc T B W v xs) (hB : Below W.heap.size W W') : Rw enc T B W' v xs :=
  h.keep fun g l e => hB.block g (h.end_ge g l e).2.1

theorem Rw.mono {B' : Nat} {W : World} {v : Value} {xs : List α} (h : Rw enc T B W v xs) (hB : B' ≤ B) : Rw enc T B' W v xs := by
  rcases h with h | ⟨g, off, cap, cur, h0, h1, h2⟩
  · exact .inl h
  · exact .inr ⟨g, off, cap, cur, h0, by omega, h2⟩

/-- Where values that are read lie. -/
def Src1 (enc : α → Value) (w : World) (p : Option Addr) (c : Nat) (ys : List α) : Prop :=
  (p = none ∧ ys = []) ∨ ∃ ad, p = some ad ∧ ∀ j y, ys[j]? = some y → w.cell? (ad.add j) = some (enc y)

theorem Rw.src {W : World} {v : Value} {xs : List α} (h : Rw enc T B W v xs) : ∃ a cap, v = .slice a xs.length cap ∧ Src1 enc W a cap xs ∧ (a = none → xs = []) ∧ xs.length ≤ cap := by
  rcases h with ⟨rfl, rfl⟩ | ⟨g, off, cap, cur, rfl, h1, h2, h3, h4, h5⟩
  · exact ⟨none, 0, rfl, .inl ⟨rfl, rfl⟩, fun _ => rfl, Nat.le_refl _⟩
  · refine ⟨_, cap, rfl, .inr ⟨_, rfl, fun j y hy => ?_⟩, (fun h => by cases h), h3⟩
    rw [Addr.add_lit]
    simp [World.cell?, h2, h5 j y hy]

theorem Rw.cellAt {W : World} {v : Value} {xs : List α} (h : Rw enc T B W v xs) (i : Nat) (x : α) (hx : xs[i]? = some x) : ∃ g off cap, v = .slice (some ⟨g, off, none⟩) xs.length cap ∧ W.cell? ⟨g, off + i, none⟩ = some (enc x) := by
  rcases h with ⟨rfl, rfl⟩ | ⟨g, off, cap, cur, rfl, h1, h2, h3, h4, h5⟩
  · simp at hx
  · exact ⟨g, off, cap, rfl, by simp [World.cell?, h2, h5 i x hx]⟩

theorem map_get {xs : List α} (f : α → Value) {j : Nat} {u : Value} (h : (xs.map f)[j]? = some u) : ∃ y, xs[j]? = some y ∧ u = f y := by
  rw [List.getElem?_map] at h
  cases hx : xs[j]? with
  | none => rw [hx] at h; cases h
  | some y => rw [hx] at h; cases h; exact ⟨y, rfl, rfl⟩

/-- append. -/
theorem run_append_rw {P : Program} (h1c : ∀ x, (enc x).oneCell' = true) (w : World) (t ty : TypeId) (i : TypeInfo) (z : Value) (bytes : Nat) (ht : P.underlying t = some (.slice T)) (hi : P.info? T = some i) (hz : i.zero = some z)
    (hsize : i.size = 1) (hby : i.bytes = bytes) (hzs : z.cells.size = 1) (v : Value) (xs : List α) (hv : Rw enc T B w v xs) (p : Option Addr) (m c : Nat) (ys : List α) (hm : ys.length = m) (hs : Src1 enc w p c ys)
    (hlen : (xs.length + ys.length) * bytes ≤ 140737488355328) (hl2 : xs.length + ys.length ≤ 1000000000) (hB : B ≤ w.heap.size) :
    ∃ v' w', (Builtin.append_ #[t, t] ty #[v, .slice p m c]).run P w = .ok v' w' ∧ Rw enc T B w' v' (xs ++ ys) ∧ Fr (endOf v) w w' ∧ (∀ g l, endOf v' = some (g, l) → (∃ l0, endOf v = some (g, l0) ∧ l0 ≤ l) ∨ w.heap.size ≤ g) ∧ (v' = .slice none 0 0 ↔ v = .slice none 0 0 ∧ ys = []) := by
  subst hm
  have src : Src P i.size t (.slice p ys.length c) ys.length (ys.map enc) w := by
    rw [hsize]
    rcases hs with ⟨rfl, rfl⟩ | ⟨ad, rfl, hc⟩
    · exact Src.ofNil w ht c
    · refine Src.ofSlice w ht ad ys.length c (ys.map enc) (by simp) (fun j u hj => ?_) (fun u hu => ?_)
      · obtain ⟨y, hy, rfl⟩ := map_get enc hj
        exact hc j y hy
      · obtain ⟨x, -, rfl⟩ := List.mem_map.1 hu
        exact h1c x
  have grow : ∀ base sCap, v = .slice base xs.length sCap → (base = none → xs = []) → (∀ a, base = some a → ∀ j x, xs[j]? = some x → w.cell? (a.add j) = some (enc x)) → sCap < xs.length + ys.length →
      ∃ v' w', (Builtin.append_ #[t, t] ty #[v, .slice p ys.length c]).run P w = .ok v' w' ∧ Rw enc T B w' v' (xs ++ ys) ∧ Fr (endOf v) w w' ∧ (∀ g l, endOf v' = some (g, l) → (∃ l0, endOf v = some (g, l0) ∧ l0 ≤ l) ∨ w.heap.size ≤ g) ∧ (v' = .slice none 0 0 ↔ v = .slice none 0 0 ∧ ys = []) := by
    rintro base sCap rfl hn hold hg
    have hold' : (Builtin.firstCells i.size xs.length (.slice base xs.length sCap)).run P w.drew = .ok (xs.map enc).toArray w.drew := by
      cases base with
      | none =>
        obtain rfl := hn rfl
        exact run_firstCells_none w.drew _ _ _ _
      | some a =>
        refine run_firstCells_some w.drew i.size xs.length a _ _ _ (by simp [hsize]) (fun j u hj => ?_)
        obtain ⟨y, hy, rfl⟩ := map_get enc hj
        exact hold a rfl j y hy
    have hr := run_append_grow_src (P := P) w t t ty T i z ht hi hz base xs.length sCap (xs.map enc) hold' _ ys.length (ys.map enc) src hg (by omega) (by rw [hby]; exact growslice_fits hg hlen)
    refine ⟨_, _, hr, ?_, ?_, ?_, ?_⟩
    · have hge := grownCap_ge w (xs.length + ys.length) sCap T
      have hn := heap_alloc_new w.drew (.cells ((xs.map enc ++ ys.map enc).toArray ++ Builtin.zeroCells z.cells (grownCap w (xs.length + ys.length) sCap T - (xs.length + ys.length))) T)
      refine .inr ⟨_, 0, _, _, by rw [List.length_append], hB, hn, by rw [List.length_append]; exact hge, ?_, fun j x hx => ?_⟩
      · simp [Builtin.zeroCells, hzs]; omega
      · have hj := (List.getElem?_eq_some_iff.1 hx).1
        rw [Nat.zero_add, Array.getElem?_append_left (by simpa using hj)]
        simp only [List.getElem?_toArray, ← List.map_append, List.getElem?_map, hx]
        rfl
    · refine ⟨rfl, rfl, rfl, by simp, fun k hk _ => Below.heap_alloc w.drew _ k hk, fun g l e i v hi hc => ?_⟩
      exact (World.cell?_of_block (Below.heap_alloc w.drew _ g (World.block_lt_of_cell? w _ hc))).trans hc
    · intro g l e
      simp [endOf] at e
      exact .inr (by omega)
    · constructor
      · intro h; cases h
      · rintro ⟨h, rfl⟩
        simp only [Value.slice.injEq] at h
        obtain ⟨-, h2, h3⟩ := h
        simp at hg
        omega
  rcases hv with ⟨rfl, rfl⟩ | ⟨g, off, cap, cur, rfl, h1, h2, h3, h4, h5⟩
  · by_cases h0 : ys = []
    · subst h0
      refine ⟨.slice none 0 0, w, ?_, .inl ⟨rfl, rfl⟩, ⟨rfl, rfl, rfl, Nat.le_refl _, fun _ _ _ => rfl, fun _ _ e => by simp [endOf] at e⟩, fun _ _ e => by simp [endOf] at e, by simp⟩
      have hs0 := src.cells
      have hsl := src.len
      simp at hs0 hsl
      rcases src.kind with ⟨e', hk⟩ | hk <;> simp [Builtin.append_, run_underlying ht, run_underlying hk, sizeOf, typeInfo, hi, hsl, hs0]
    · exact grow none 0 rfl (fun _ => rfl) (fun a e => by cases e) (by have := List.length_pos_iff.2 h0; simp; omega)
  · by_cases hroom : xs.length + ys.length ≤ cap
    · have hcell : ∀ j, j < cur.size → (w.cell? ⟨g, j, none⟩).isSome = true := fun j hj => by simp [World.cell?, h2, hj]
      have hr := run_append_room_src (P := P) w t t ty T i ht hi g off xs.length cap _ ys.length (ys.map enc) src hroom (fun j hj => hcell _ (by simp at hj; rw [hsize]; omega)) (fun j hj => by simp [World.frozen?, h2])
      rw [hsize, Nat.mul_one] at hr
      obtain ⟨cur', k1, k2, k3, k4⟩ := heap_setCells g (ys.map enc) (off + xs.length) w cur T (0, 0) h2
      obtain ⟨q1, q2, q3, q4⟩ := setCells_same g (ys.map enc) (off + xs.length) w
      refine ⟨_, _, hr, .inr ⟨g, off, cap, cur', by rw [List.length_append], h1, k1, by rw [List.length_append]; exact hroom, by omega, fun j x hx => ?_⟩, ⟨q1, q2, q3, by omega, fun k _ hk => heap_setCells_other g _ _ w k (hk _ _ rfl), fun g' l e i v hi hc => ?_⟩, fun g' l e => ?_, by simp⟩
      · rcases Nat.lt_or_ge j xs.length with hj | hj
        · rw [List.getElem?_append_left hj] at hx
          rw [k3 _ (by omega)]; exact h5 j x hx
        · rw [List.getElem?_append_right hj] at hx
          have hj2 := (List.getElem?_eq_some_iff.1 hx).1
          have := k4 (j - xs.length) (enc x) (by rw [List.getElem?_map, hx]; rfl) (by omega)
          rw [show off + xs.length + (j - xs.length) = off + j by omega] at this
          exact this
      · simp [endOf] at e
        obtain ⟨rfl, rfl⟩ := e
        rw [World.cell?_setCells_out g _ _ _ _ (fun _ _ => .inl hi)]
        exact hc
      · simp [endOf] at e
        obtain ⟨rfl, rfl⟩ := e
        exact .inl ⟨off + xs.length, rfl, by omega⟩
    · refine grow _ cap rfl (fun h => by cases h) (fun a e j x hx => ?_) (by omega)
      cases e
      rw [Addr.add_lit]
      simp [World.cell?, h2, h5 j x hx]

theorem wpList_append_rw {P : Program} (h1c : ∀ x, (enc x).oneCell' = true) {w : World} {ops : Array Oper} {rest : List Oper} {o : Oper} {a : Act} {Q : Exit → Act → World → Prop} (hgd : o.guard = none) (s x : Operand) (t : TypeId)
    (ho : o.op = .call { callee := .builtin .append, args := #[s, x], argTypes := #[t, t] }) {i : TypeInfo} {z : Value} {bytes : Nat} (ht : P.underlying t = some (.slice T)) (hi : P.info? T = some i) (hz : i.zero = some z)
    (hsize : i.size = 1) (hby : i.bytes = bytes) (hzs : z.cells.size = 1) (v : Value) (xs : List α) (hs : a.eval s = v) (hv : Rw enc T B w v xs) (p : Option Addr) (m c : Nat) (ys : List α) (hm : ys.length = m) (hx : a.eval x = .slice p m c) (hsrc : Src1 enc w p c ys)
    (hlen : (xs.length + ys.length) * bytes ≤ 140737488355328) (hl2 : xs.length + ys.length ≤ 1000000000) (hB : B ≤ w.heap.size)
    (h : ∀ v' w', Rw enc T B w' v' (xs ++ ys) → Fr (endOf v) w w' → (∀ g l, endOf v' = some (g, l) → (∃ l0, endOf v = some (g, l0) ∧ l0 ≤ l) ∨ w.heap.size ≤ g) → (v' = .slice none 0 0 ↔ v = .slice none 0 0 ∧ ys = []) → wpList P ops Q rest (a.put o.dst v') w') : wpList P ops Q (o :: rest) a w := by
  refine wpList_plain hgd fun K hK' => ?_
  obtain ⟨v', w', hrun, r1, r2, r3, r4⟩ := run_append_rw (P := P) h1c w t o.type i z bytes ht hi hz hsize hby hzs v xs hv p m c ys hm hsrc hlen hl2 hB
  unfold Oper.wp
  simp [execOp, ho, resolve, invoke, builtin, hs, hx, hrun, Result.andThen]
  exact hK' _ _ (h v' w' r1 r2 r3 r4)

theorem wpListIn_append_rw {F : Fence} {n : Nat} {P : Program} (h1c : ∀ x, (enc x).oneCell' = true) {w : World} {ops : Array Oper} {rest : List Oper} {o : Oper} {a : Act} {Q : Exit → Act → World → Prop} (hgd : o.guard = none) (s x : Operand) (t : TypeId)
    (ho : o.op = .call { callee := .builtin .append, args := #[s, x], argTypes := #[t, t] }) {i : TypeInfo} {z : Value} {bytes : Nat} (ht : P.underlying t = some (.slice T)) (hi : P.info? T = some i) (hz : i.zero = some z)
    (hsize : i.size = 1) (hby : i.bytes = bytes) (hzs : z.cells.size = 1) (v : Value) (xs : List α) (hs : a.eval s = v) (hv : Rw enc T B w v xs) (p : Option Addr) (m c : Nat) (ys : List α) (hm : ys.length = m) (hx : a.eval x = .slice p m c) (hsrc : Src1 enc w p c ys)
    (hlen : (xs.length + ys.length) * bytes ≤ 140737488355328) (hl2 : xs.length + ys.length ≤ 1000000000) (hB : B ≤ w.heap.size)
    (h : ∀ v' w', Rw enc T B w' v' (xs ++ ys) → Fr (endOf v) w w' → (∀ g l, endOf v' = some (g, l) → (∃ l0, endOf v = some (g, l0) ∧ l0 ≤ l) ∨ w.heap.size ≤ g) → (v' = .slice none 0 0 ↔ v = .slice none 0 0 ∧ ys = []) → wpListIn F n P ops Q rest (a.put o.dst v') w') : wpListIn F n P ops Q (o :: rest) a w := by
  refine wpListIn_plain hgd fun K hK' => ?_
  obtain ⟨v', w', hrun, r1, r2, r3, r4⟩ := run_append_rw (P := P) h1c w t o.type i z bytes ht hi hz hsize hby hzs v xs hv p m c ys hm hsrc hlen hl2 hB
  unfold Oper.wpIn
  refine ⟨?_, ?_⟩
  · simp [Oper.about, ho, resolve, Target.leads, Sem.run_pure]
  · rw [Oper.semAt_plain F _ _ (by rw [ho]; intro c hc'; cases hc')]
    simp [execOp, ho, resolve, invoke, builtin, hs, hx, hrun, Result.andThen]
    exact hK' _ _ (h v' w' r1 r2 r3 r4)

end

theorem below_drewN (B : Nat) (w : World) (n : Nat) : Below B w (w.drewN n) := ⟨rfl, rfl, rfl, Nat.le_refl _, fun _ _ => rfl⟩

theorem cell_of_heap {w : World} {b i : Nat} {c : Array Value} {T : TypeId} {f : Nat × Nat} (h : w.heap[b]? = some (.cells c T f)) {v : Value} (hv : c[i]? = some v) : w.cell? ⟨b, i, none⟩ = some v := by simp [World.cell?, h, hv]
theorem frozen_of_heap {w : World} {b : Nat} {c : Array Value} {T : TypeId} (h : w.heap[b]? = some (.cells c T (0, 0))) (i : Nat) : w.frozen? ⟨b, i, none⟩ = false := by simp [World.frozen?, h]

theorem setCell_heap {w : World} {b i : Nat} {c : Array Value} {T : TypeId} {f : Nat × Nat} (h : w.heap[b]? = some (.cells c T f)) (u : Value) : (w.setCell ⟨b, i, none⟩ u).heap[b]? = some (.cells (c.setIfInBounds i u) T f) := by
  have hl := lt_of_block h
  have he := (Array.getElem?_eq_some_iff.1 h).2
  simp [World.setCell, hl, Array.getElem_modify, he]

theorem info_parts' {o : Option TypeInfo} {z : Option Value} {s b : Nat} (h : o.map (fun i => (i.zero, i.size, i.bytes)) = some (z, s, b)) : ∃ i, o = some i ∧ i.zero = z ∧ i.size = s ∧ i.bytes = b := by
  cases o with
  | none => cases h
  | some i => simp at h; exact ⟨i, rfl, h.1, h.2.1, h.2.2⟩

end Go.Proofs.Ytbpibbcehfkeeaa.I
