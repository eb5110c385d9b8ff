/- The statements' plain map, by its entries: what find answers, what its rows hold. Conditions: at most 10000 entries, in order. -/
import Derived.Test.YtbpibbcehfkeeaaBookKit
namespace Go.Proofs.Ytbpibbcehfkeeaa.S
open Go Go.RowKit

theorem plfind_T (w : World) (p : Nat) (L : List EntV) (x : SymV) (hp : PL w p L) (hso : Sorted entCmp L) (hs : L.length ≤ 10000) :
    Calls Try.prog 12 #[.pointer (some ⟨p, 0, none⟩), .agg #[.int .i64 x.k, .string x.t, .int .i64 x.n]] w fun e w' => e = .returned (.int .i64 (if has entCmp L ⟨x, 0⟩ then (pos entCmp L ⟨x, 0⟩ : Int) else -1)) ∧ Below w.heap.size w w' := by
  obtain ⟨vk, vv, K, -, -, hpl, hk, -, -⟩ := hp
  have hfind := plainfind_T w p vk vv (keysL L) x hpl hk.slice (sorted_keys hso) (by simp; omega)
  rw [show has symCmp (keysL L) x = has entCmp L ⟨x, 0⟩ from has_keys L ⟨x, 0⟩, show pos symCmp (keysL L) x = pos entCmp L ⟨x, 0⟩ from pos_keys L ⟨x, 0⟩] at hfind
  exact hfind

/-- The rows of a plain map: where they lie, and what stands at a place. -/
theorem PL.rows {w : World} {p : Nat} {L : List EntV} (h : PL w p L) : ∃ ak ck av cv, PlainAt w p (.slice ak L.length ck) (.slice av L.length cv) ∧ ∀ j y, L[j]? = some y → ∃ b off g o, ak = some ⟨b, off, none⟩ ∧ av = some ⟨g, o, none⟩ ∧
    (w.cell? ⟨b, off + j * 3, none⟩ = some (.int .i64 y.key.k) ∧ w.cell? ⟨b, off + j * 3 + 1, none⟩ = some (.string y.key.t) ∧ w.cell? ⟨b, off + j * 3 + 2, none⟩ = some (.int .i64 y.key.n)) ∧ w.cell? ⟨g, o + j, none⟩ = some (.int .i64 y.v) := by
  obtain ⟨vk, vv, K, -, -, hpl, hk, -, hv⟩ := h
  obtain ⟨ak, ck, rfl, hkc⟩ := hk.slice
  obtain ⟨av, cv, rfl, -⟩ := hv.src
  simp only [List.length_map] at hpl
  refine ⟨ak, ck, av, cv, hpl, fun j y hy => ?_⟩
  have hk1 : (keysL L)[j]? = some y.key := by simp [keysL, hy]
  have hv1 : (valsL L)[j]? = some y.v := by simp [valsL, hy]
  obtain ⟨g, o, c', e, hc⟩ := hv.cellAt j y.v hv1
  simp only [Value.slice.injEq] at e
  obtain ⟨rfl, -, -⟩ := e
  rcases hkc with h | ⟨b, off, rfl, hel⟩
  · rw [h] at hk1; simp at hk1
  · exact ⟨b, off, g, o, rfl, rfl, hel j y.key hk1, hc⟩

theorem valOf_get {L : List EntV} {x : SymV} {y : EntV} (hh : has entCmp L ⟨x, 0⟩ = true) (hy : L[pos entCmp L ⟨x, 0⟩]? = some y) : E.valOf L x = y.v := by
  unfold E.valOf
  rw [if_pos hh, hy]

theorem valOf_no {L : List EntV} {x : SymV} (hh : has entCmp L ⟨x, 0⟩ = false) : E.valOf L x = 0 := by
  unfold E.valOf
  rw [hh, if_neg (by simp)]

theorem box_ch {w W : World} {p n : Nat} {x : SymV} (hbx : w.heap[n]? = some (.cells #[.int .i64 x.k, .string x.t, .int .i64 x.n] 26 (0, 0))) (h : Ch p w.drew W) :
    W.cell? ⟨n, 0, none⟩ = some (.int .i64 x.k) ∧ W.cell? ⟨n, 1, none⟩ = some (.string x.t) ∧ W.cell? ⟨n, 2, none⟩ = some (.int .i64 x.n) := by
  have e := h.keep n _ _ _ (show w.drew.heap[n]? = _ from hbx) (by decide) (by decide)
  exact ⟨I.cell_of_heap e (i := 0) rfl, I.cell_of_heap e (i := 1) rfl, I.cell_of_heap e (i := 2) rfl⟩

theorem has_val {L : List EntV} (x : SymV) (v : Int) : has entCmp L ⟨x, v⟩ = has entCmp L ⟨x, 0⟩ := rfl

end Go.Proofs.Ytbpibbcehfkeeaa.S
