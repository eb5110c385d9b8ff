/- RowCollects returns true, whatever it is given. Conditions: none but that the list lies in memory. -/
import Derived.Test.YtckdojneogeblaaQGather
import Derived.Test.YtckdojneogeblaaRowClones
namespace Go.Proofs.Ytckdojneogeblaa
open Go Go.RowKit QI

set_option maxRecDepth 100000 in
set_option maxHeartbeats 4000000 in
theorem collect_T (Bl Ba : Nat) (most : Int) (w : World) (a : Option Addr) (cap : Nat) (xs : List Int) (hA : Asked Ba [] w) (hlb : Bl ≠ Ba) (h : w.cell? ⟨Bl, 0, none⟩ = some (.slice a xs.length cap)) (h5 : xs.length ≤ 65536)
    (hx : ∀ j x, xs[j]? = some x → ∃ g off, a = some ⟨g, off, none⟩ ∧ g ≠ Ba ∧ w.cell? ⟨g, off + j, none⟩ = some (.int .i64 x)) :
    Calls Try.prog 24 #[.func (.func 23) #[] #[.pointer (some ⟨Bl, 0, none⟩), .pointer (some ⟨Ba, 0, none⟩)], .int .i64 most] w fun e w' => ∃ v, e = .returned v ∧ IntsOf w' v (xs.take most.toNat) ∧ Asked Ba (xs.take most.toNat) w' ∧ FrQ Ba none w w' := by
  have hmf : ∀ (fn : Fn) (first cap : Array Value) (w : World), (Instr.makeFunc fn first cap).run Try.prog w = .ok (.func fn first cap) w := fun _ _ _ _ => rfl
  by_cases hm : most < 1
  · have f1 : (most < 1) = True := eq_true hm
    have e0 : most.toNat = 0 := by omega
    rw [e0]
    go_enter Try.func24, Try.ntmps24
    go_wp2_with fail
    go_ret
    exact ⟨_, rfl, IntsOf.nil w, hA, FrQ.of_below (Below.refl _ _)⟩
  · obtain ⟨k, rfl⟩ : ∃ k : Nat, most = k := ⟨most.toNat, by omega⟩
    have f1 : ((k : Int) < 1) = False := eq_false hm
    have hk1 : 1 ≤ k := by omega
    clear hm
    simp only [Int.toNat_natCast]
    go_enter Try.func24, Try.ntmps24
    go_wp2_with fail
    have hB1 : Below w.heap.size w (w.alloc (.cells #[.slice none 0 0] 28)) := (Below.refl _ w).alloc (Nat.le_refl _) _
    have hn := heap_alloc_new w (.cells #[.slice none 0 0] 28)
    have hbl := World.block_lt_of_cell? w _ h
    have hAl := lt_of_block hA
    have hg := gather_T w.heap.size Bl Ba k (w.alloc (.cells #[.slice none 0 0] 28)) a cap xs hk1 hn ((hB1.block _ hAl).trans hA) (by omega) hlb (by have : Bl < w.heap.size := hbl; omega) ((hB1.cell (p := ⟨Bl, 0, none⟩) hbl).trans h) h5 (fun j x hj => by
      obtain ⟨g, off, e, h1, hc⟩ := hx j x hj
      have hb := World.block_lt_of_cell? w _ hc
      exact ⟨g, off, e, h1, by have : g < w.heap.size := hb; omega, (hB1.cell (p := ⟨g, off + j, none⟩) hb).trans hc⟩)
    have hsz : (w.alloc (.cells #[.slice none 0 0] 28)).heap.size = w.heap.size + 1 := by simp
    obtain ⟨Gp, hGp⟩ : ∃ Gp, w.heap.size = Gp := ⟨_, rfl⟩
    rw [hGp] at hg hB1 hn hsz hAl ⊢
    generalize w.alloc (.cells #[.slice none 0 0] 28) = W1 at hg hB1 hn hsz ⊢
    have Hsz := Lib.hid hsz
    clear hx h hn hsz hA
    refine hg.mono ?_
    clear hg
    rintro e W2 ⟨⟨u, rfl⟩, v, h1, h2, h3, h4, h6, h7, h8, h9⟩
    have hs := Hsz.out
    obtain ⟨av, cv, rfl, -, -, -⟩ := h2.src
    have hc : W2.cell? ⟨Gp, 0, none⟩ = some (.slice av (xs.take k).length cv) := cell_of_heap h1 (i := 0) rfl
    go_wp2_with fail
    go_ret
    have h2' := h2.ints
    rw [List.length_take] at h2'
    exact ⟨_, rfl, h2', h3, h7.trans hB1.os, h8.trans hB1.tape, h9.trans hB1.output, by omega, fun b hb hne _ => (h4 b (by omega) hne (by omega)).trans (hB1.block b (by omega)), fun g l e => by cases e⟩

theorem IntsOf.form2 {w : World} {v : Value} {xs : List Int} (h : IntsOf w v xs) : ∃ a cap, v = .slice a xs.length cap ∧ xs.length ≤ cap := by
  obtain ⟨a, cap, rfl, hc, -⟩ := h
  exact ⟨a, cap, rfl, hc⟩

theorem IntsOf.cell {w : World} {a : Option Addr} {n cap : Nat} {xs : List Int} (h : IntsOf w (.slice a n cap) xs) : ∀ j x, xs[j]? = some x → ∃ g off, a = some ⟨g, off, none⟩ ∧ w.cell? ⟨g, off + j, none⟩ = some (.int .i64 x) := by
  obtain ⟨a', cap', e, -, hno, h⟩ := h
  simp only [Value.slice.injEq] at e
  obtain ⟨rfl, -, rfl⟩ := e
  exact h

set_option maxRecDepth 100000 in
set_option maxHeartbeats 4000000 in
theorem collects_walk (w : World) (v : Value) (xs : List Int) (z : Int) (hv : IntsOf w v xs) (hx : xs.length ≤ 100) :
    Calls Try.prog 6 #[v, .int .i64 z] w fun e w' => e = .returned (.bool true) ∧ Below w.heap.size w w' := by
  have hmf : ∀ (fn : Fn) (first cap : Array Value) (w : World), (Instr.makeFunc fn first cap).run Try.prog w = .ok (.func fn first cap) w := fun _ _ _ _ => rfl
  obtain ⟨a, cap, rfl, hxc⟩ := hv.form2
  have Hv := Lib.hid hv
  clear hv
  by_cases h1 : z < 0
  · have f1 : (z < 0) = True := eq_true h1
    have f2 : ((xs.length : Int) < 0) = False := eq_false (by omega)
    have Hz := Lib.hid h1
    clear h1
    go_enter Try.func6, Try.ntmps6
    go_wp2_with fail
    have hB0 : Below w.heap.size w ((w.alloc (.cells #[.slice a xs.length cap] 28)).alloc (.cells #[.int .i64 0] 3)) := ((Below.refl _ w).alloc (Nat.le_refl _) _).alloc (by simp) _
    have bL : ((w.alloc (.cells #[.slice a xs.length cap] 28)).alloc (.cells #[.int .i64 0] 3)).heap[w.heap.size]? = some (.cells #[.slice a xs.length cap] 28 (0, 0)) := (Below.heap_alloc _ _ _ (by simp)).trans (heap_alloc_new w (.cells #[.slice a xs.length cap] 28))
    have bA : ((w.alloc (.cells #[.slice a xs.length cap] 28)).alloc (.cells #[.int .i64 0] 3)).heap[w.heap.size + 1]? = some (.cells #[.int .i64 0] 3 (0, 0)) := by
      have := heap_alloc_new (w.alloc (.cells #[.slice a xs.length cap] 28)) (.cells #[.int .i64 0] 3)
      simpa only [World.size_alloc] using this
    have hsz : ((w.alloc (.cells #[.slice a xs.length cap] 28)).alloc (.cells #[.int .i64 0] 3)).heap.size = w.heap.size + 2 := by simp
    generalize (w.alloc (.cells #[.slice a xs.length cap] 28)).alloc (.cells #[.int .i64 0] 3) = W0 at hB0 bL bA hsz ⊢
    have hcol := collect_T w.heap.size (w.heap.size + 1) (z) W0 a cap xs bA (by omega) (cell_of_heap bL (i := 0) rfl) (by omega) (fun j x hj => by
      obtain ⟨g, off, e, hc⟩ := Hv.out.cell j x hj
      have hb : g < w.heap.size := World.block_lt_of_cell? w _ hc
      exact ⟨g, off, e, by omega, (hB0.cell (p := ⟨g, off + j, none⟩) hb).trans hc⟩)
    have Hsz := Lib.hid hsz
    have HbL := Lib.hid bL
    clear bL bA hsz
    refine hcol.mono ?_
    clear hcol
    rintro e W1 ⟨v1, rfl, h1, h2, h3⟩
    have htq : xs.take (z).toNat = xs.take (0) := by rw [show z.toNat = 0 by have := Hz.out; omega]
    rw [htq] at h1 h2
    have hs := Hsz.out
    have hbl : W1.heap[w.heap.size]? = some (.cells #[.slice a xs.length cap] 28 (0, 0)) := (h3.block _ (by omega) (by omega) (fun g l e => by cases e)).trans HbL.out
    have hba : W1.heap[w.heap.size + 1]? = some (.cells #[.int .i64 (0)] 3 (0, 0)) := by
      have := h2
      unfold Asked at this
      rwa [List.length_take, Nat.min_eq_left (by omega)] at this
    have hB1 : Below w.heap.size w W1 := hB0.trans (h3.below (by omega) (fun g l e => by cases e) (by omega))
    have hcl : W1.cell? ⟨w.heap.size, 0, none⟩ = some (.slice a xs.length cap) := cell_of_heap hbl (i := 0) rfl
    have hca := cell_of_heap hba (i := 0) rfl
    have hqc : (0) ≤ cap := by omega
    have hin := ints_T W1 v1 (.slice a (0) cap) (xs.take (0)) h1 ((Hv.out.below hB1).take (by omega)) (by simp <;> omega)
    clear h1 h2 h3
    go_wp2_with fail
    refine hin.mono ?_
    clear hin hcl hca
    rintro e W2 ⟨rfl, hB2⟩
    have hca : W2.cell? ⟨w.heap.size + 1, 0, none⟩ = some (.int .i64 (0)) := cell_of_heap ((hB2.block _ (lt_of_block hba)).trans hba) (i := 0) rfl
    go_wp2_with fail
    refine (wakes_T W2).mono ?_
    rintro e W3 ⟨rfl, hB3⟩
    go_wp2_with fail
    go_ret
    exact ⟨rfl, (hB1.trans (hB2.mono hB1.size)).trans (hB3.mono (Nat.le_trans hB1.size hB2.size))⟩
  · have f1 : (z < 0) = False := eq_false h1
    by_cases h2 : (xs.length : Int) < z
    · have f2 : ((xs.length : Int) < z) = True := eq_true h2
      have Hz := Lib.hid h2
      clear h1 h2
      go_enter Try.func6, Try.ntmps6
      go_wp2_with fail
      have hB0 : Below w.heap.size w ((w.alloc (.cells #[.slice a xs.length cap] 28)).alloc (.cells #[.int .i64 0] 3)) := ((Below.refl _ w).alloc (Nat.le_refl _) _).alloc (by simp) _
      have bL : ((w.alloc (.cells #[.slice a xs.length cap] 28)).alloc (.cells #[.int .i64 0] 3)).heap[w.heap.size]? = some (.cells #[.slice a xs.length cap] 28 (0, 0)) := (Below.heap_alloc _ _ _ (by simp)).trans (heap_alloc_new w (.cells #[.slice a xs.length cap] 28))
      have bA : ((w.alloc (.cells #[.slice a xs.length cap] 28)).alloc (.cells #[.int .i64 0] 3)).heap[w.heap.size + 1]? = some (.cells #[.int .i64 0] 3 (0, 0)) := by
        have := heap_alloc_new (w.alloc (.cells #[.slice a xs.length cap] 28)) (.cells #[.int .i64 0] 3)
        simpa only [World.size_alloc] using this
      have hsz : ((w.alloc (.cells #[.slice a xs.length cap] 28)).alloc (.cells #[.int .i64 0] 3)).heap.size = w.heap.size + 2 := by simp
      generalize (w.alloc (.cells #[.slice a xs.length cap] 28)).alloc (.cells #[.int .i64 0] 3) = W0 at hB0 bL bA hsz ⊢
      have hcol := collect_T w.heap.size (w.heap.size + 1) (z) W0 a cap xs bA (by omega) (cell_of_heap bL (i := 0) rfl) (by omega) (fun j x hj => by
        obtain ⟨g, off, e, hc⟩ := Hv.out.cell j x hj
        have hb : g < w.heap.size := World.block_lt_of_cell? w _ hc
        exact ⟨g, off, e, by omega, (hB0.cell (p := ⟨g, off + j, none⟩) hb).trans hc⟩)
      have Hsz := Lib.hid hsz
      have HbL := Lib.hid bL
      clear bL bA hsz
      refine hcol.mono ?_
      clear hcol
      rintro e W1 ⟨v1, rfl, h1, h2, h3⟩
      have htq : xs.take (z).toNat = xs.take (xs.length) := by rw [List.take_length, List.take_of_length_le (by have := Hz.out; omega)]
      rw [htq] at h1 h2
      have hs := Hsz.out
      have hbl : W1.heap[w.heap.size]? = some (.cells #[.slice a xs.length cap] 28 (0, 0)) := (h3.block _ (by omega) (by omega) (fun g l e => by cases e)).trans HbL.out
      have hba : W1.heap[w.heap.size + 1]? = some (.cells #[.int .i64 (xs.length)] 3 (0, 0)) := by
        have := h2
        unfold Asked at this
        rwa [List.length_take, Nat.min_eq_left (by omega)] at this
      have hB1 : Below w.heap.size w W1 := hB0.trans (h3.below (by omega) (fun g l e => by cases e) (by omega))
      have hcl : W1.cell? ⟨w.heap.size, 0, none⟩ = some (.slice a xs.length cap) := cell_of_heap hbl (i := 0) rfl
      have hca := cell_of_heap hba (i := 0) rfl
      have hqc : (xs.length) ≤ cap := by omega
      have hin := ints_T W1 v1 (.slice a (xs.length) cap) (xs.take (xs.length)) h1 ((Hv.out.below hB1).take (by omega)) (by simp <;> omega)
      clear h1 h2 h3
      go_wp2_with fail
      refine hin.mono ?_
      clear hin hcl hca
      rintro e W2 ⟨rfl, hB2⟩
      have hca : W2.cell? ⟨w.heap.size + 1, 0, none⟩ = some (.int .i64 (xs.length)) := cell_of_heap ((hB2.block _ (lt_of_block hba)).trans hba) (i := 0) rfl
      go_wp2_with fail
      refine (wakes_T W2).mono ?_
      rintro e W3 ⟨rfl, hB3⟩
      go_wp2_with fail
      go_ret
      exact ⟨rfl, (hB1.trans (hB2.mono hB1.size)).trans (hB3.mono (Nat.le_trans hB1.size hB2.size))⟩
    · obtain ⟨q, rfl⟩ : ∃ q : Nat, z = q := ⟨z.toNat, by omega⟩
      have f2 : ((xs.length : Int) < (q : Int)) = False := eq_false h2
      have hq : q ≤ xs.length := by omega
      clear h1 h2
      go_enter Try.func6, Try.ntmps6
      go_wp2_with fail
      have hB0 : Below w.heap.size w ((w.alloc (.cells #[.slice a xs.length cap] 28)).alloc (.cells #[.int .i64 0] 3)) := ((Below.refl _ w).alloc (Nat.le_refl _) _).alloc (by simp) _
      have bL : ((w.alloc (.cells #[.slice a xs.length cap] 28)).alloc (.cells #[.int .i64 0] 3)).heap[w.heap.size]? = some (.cells #[.slice a xs.length cap] 28 (0, 0)) := (Below.heap_alloc _ _ _ (by simp)).trans (heap_alloc_new w (.cells #[.slice a xs.length cap] 28))
      have bA : ((w.alloc (.cells #[.slice a xs.length cap] 28)).alloc (.cells #[.int .i64 0] 3)).heap[w.heap.size + 1]? = some (.cells #[.int .i64 0] 3 (0, 0)) := by
        have := heap_alloc_new (w.alloc (.cells #[.slice a xs.length cap] 28)) (.cells #[.int .i64 0] 3)
        simpa only [World.size_alloc] using this
      have hsz : ((w.alloc (.cells #[.slice a xs.length cap] 28)).alloc (.cells #[.int .i64 0] 3)).heap.size = w.heap.size + 2 := by simp
      generalize (w.alloc (.cells #[.slice a xs.length cap] 28)).alloc (.cells #[.int .i64 0] 3) = W0 at hB0 bL bA hsz ⊢
      have hcol := collect_T w.heap.size (w.heap.size + 1) ((q : Int)) W0 a cap xs bA (by omega) (cell_of_heap bL (i := 0) rfl) (by omega) (fun j x hj => by
        obtain ⟨g, off, e, hc⟩ := Hv.out.cell j x hj
        have hb : g < w.heap.size := World.block_lt_of_cell? w _ hc
        exact ⟨g, off, e, by omega, (hB0.cell (p := ⟨g, off + j, none⟩) hb).trans hc⟩)
      have Hsz := Lib.hid hsz
      have HbL := Lib.hid bL
      clear bL bA hsz
      refine hcol.mono ?_
      clear hcol
      rintro e W1 ⟨v1, rfl, h1, h2, h3⟩
      have htq : xs.take ((q : Int)).toNat = xs.take (q) := by rfl
      rw [htq] at h1 h2
      have hs := Hsz.out
      have hbl : W1.heap[w.heap.size]? = some (.cells #[.slice a xs.length cap] 28 (0, 0)) := (h3.block _ (by omega) (by omega) (fun g l e => by cases e)).trans HbL.out
      have hba : W1.heap[w.heap.size + 1]? = some (.cells #[.int .i64 (q)] 3 (0, 0)) := by
        have := h2
        unfold Asked at this
        rwa [List.length_take, Nat.min_eq_left (by omega)] at this
      have hB1 : Below w.heap.size w W1 := hB0.trans (h3.below (by omega) (fun g l e => by cases e) (by omega))
      have hcl : W1.cell? ⟨w.heap.size, 0, none⟩ = some (.slice a xs.length cap) := cell_of_heap hbl (i := 0) rfl
      have hca := cell_of_heap hba (i := 0) rfl
      have hqc : (q) ≤ cap := by omega
      have hin := ints_T W1 v1 (.slice a (q) cap) (xs.take (q)) h1 ((Hv.out.below hB1).take (by omega)) (by simp <;> omega)
      clear h1 h2 h3
      go_wp2_with fail
      refine hin.mono ?_
      clear hin hcl hca
      rintro e W2 ⟨rfl, hB2⟩
      have hca : W2.cell? ⟨w.heap.size + 1, 0, none⟩ = some (.int .i64 (q)) := cell_of_heap ((hB2.block _ (lt_of_block hba)).trans hba) (i := 0) rfl
      go_wp2_with fail
      refine (wakes_T W2).mono ?_
      rintro e W3 ⟨rfl, hB3⟩
      go_wp2_with fail
      go_ret
      exact ⟨rfl, (hB1.trans (hB2.mono hB1.size)).trans (hB3.mono (Nat.le_trans hB1.size hB2.size))⟩

theorem collects_any (w : World) (v : Value) (xs : List Int) (hv : IntsOf w v xs) (z : Int) :
    Calls Try.prog 6 #[v, .int .i64 z] w fun e w' => e = .returned (.bool true) ∧ Below w.heap.size w w' := by
  by_cases h : xs.length ≤ 100
  · exact collects_walk w v xs z hv h
  · obtain ⟨a, cap, rfl⟩ := hv.form
    clear hv
    have f1 : ((100 : Int) < (xs.length : Int)) = True := eq_true (by omega)
    clear h
    go_enter Try.func6, Try.ntmps6
    go_wp2_with fail
    refine (wakes_T _).mono ?_
    rintro e w1 ⟨rfl, hb⟩
    go_wp2_with fail
    go_ret
    exact ⟨rfl, ((Below.refl _ w).alloc (Nat.le_refl _) _).trans (hb.mono (by simp))⟩

end Go.Proofs.Ytckdojneogeblaa
