/- What the statements' filled map and plain map hold. Conditions: at most 60 keys. -/
import Derived.Test.YtbpibbcehfkeeaaPlainPutS
import Derived.Test.YtbpibbcehfkeeaaMapOpsE
namespace Go.Proofs.Ytbpibbcehfkeeaa.S
open Go Go.RowKit

/-- A map's entries once a key has a value. -/
abbrev putE (L : List EntV) (x : EntV) : List EntV := put entCmp (E.drop entCmp L x) x

/-- The entries of keys with their places as values. -/
def fillE (xs : List SymV) : List EntV := xs.zipIdx.foldl (fun L p => putE L ⟨p.1, (p.2 : Int)⟩) []

theorem fillE_succ {xs : List SymV} {q : Nat} {x : SymV} (h : xs[q]? = some x) : fillE (xs.take (q + 1)) = putE (fillE (xs.take q)) ⟨x, (q : Int)⟩ := by
  have hl : (xs.take q).length = q := by have := (List.getElem?_eq_some_iff.1 h).1; simp; omega
  unfold fillE
  rw [take_one h, List.zipIdx_append, List.foldl_append, hl]
  simp

theorem sorted_putE {L : List EntV} (x : EntV) (h : Sorted entCmp L) : Sorted entCmp (putE L x) := sorted_put entCmp_lin _ _ (E.sorted_drop _ _ h)

theorem length_putE (L : List EntV) (x : EntV) : (putE L x).length ≤ L.length + 1 := by
  have h1 := E.length_drop entCmp L x
  unfold putE put
  split
  · omega
  · rw [length_ins]; omega

theorem fillE_ok (xs : List SymV) : Sorted entCmp (fillE xs) ∧ (fillE xs).length ≤ xs.length := by
  have h : ∀ (ys : List (SymV × Nat)) (L : List EntV), Sorted entCmp L → Sorted entCmp (ys.foldl (fun L p => putE L ⟨p.1, (p.2 : Int)⟩) L) ∧ (ys.foldl (fun L p => putE L ⟨p.1, (p.2 : Int)⟩) L).length ≤ L.length + ys.length := by
    intro ys
    induction ys with
    | nil => intro L hL; exact ⟨hL, by simp⟩
    | cons y ys ih =>
      intro L hL
      obtain ⟨h1, h2⟩ := ih _ (sorted_putE ⟨y.1, (y.2 : Int)⟩ hL)
      refine ⟨h1, ?_⟩
      have := length_putE L ⟨y.1, (y.2 : Int)⟩
      rw [List.foldl_cons, List.length_cons]
      omega
  have := h xs.zipIdx [] List.Pairwise.nil
  simpa [fillE] using this

set_option pp.deepTerms true
set_option pp.maxSteps 1000000
set_option maxRecDepth 100000 in
set_option maxHeartbeats 2000000 in
theorem filled_T (w : World) (v : Value) (xs : List SymV) (hv : SliceOf w v xs) (hs : xs.length ≤ 60) :
    Calls Try.prog 24 #[v] w fun e w' => ∃ m s p, e = .returned (.tuple #[.pointer (some ⟨m, 0, none⟩), .pointer (some ⟨p, 0, none⟩)]) ∧ w.heap.size ≤ m ∧ w.heap.size ≤ s ∧ m < p ∧ s < p ∧ E.MapAt w' m s (fillE xs) ∧ PL w' p (fillE xs) ∧ Below w.heap.size w w' := by
  obtain ⟨a, cap, rfl, hc⟩ := hv
  have Hc := Lib.hid hc
  clear hc
  go_enter Try.func24, Try.ntmps24
  go_wp2_with fail
  refine (E.mapnew_T w).mono ?_
  rintro e w1 ⟨m, s, rfl, hm, hs', hM, hB1⟩
  have hp0 := heap_alloc_new w1 (.cells #[.slice none 0 0, .slice none 0 0] 32)
  have hBp : Below w1.heap.size w1 (w1.alloc (.cells #[.slice none 0 0, .slice none 0 0] 32)) := (Below.refl _ w1).alloc (Nat.le_refl _) _
  have hm1 := lt_of_block hM.1
  have hs1 := hM.2.lt
  have hsz2 : (w1.alloc (.cells #[.slice none 0 0, .slice none 0 0] 32)).heap.size = w1.heap.size + 1 := by simp
  go_wp2_with fail
  generalize w1.alloc (.cells #[.slice none 0 0, .slice none 0 0] 32) = w2 at hp0 hBp hsz2 ⊢
  have hM2 := hM.below hBp
  have hB2 := hB1.trans (hBp.mono hB1.size)
  have hP2 : PL w2 w1.heap.size [] := ⟨_, _, w2.heap.size, by omega, Nat.le_refl _, hp0, ⟨none, 0, rfl, .inl rfl⟩, by rintro a n c e; cases e; exact ⟨Nat.le_refl _, fun _ => rfl⟩, I.Rw.nil _⟩
  obtain ⟨p, hp⟩ : ∃ p, w1.heap.size = p := ⟨_, rfl⟩
  rw [hp] at hP2 hm1 hs1 hp0 ⊢
  clear hp0 hM hsz2
  go_loopg [6] (xs.length - 0) (fun mm i wr => ∃ q : Nat, i = .int .i64 q ∧ q ≤ xs.length ∧ Hid (mm = xs.length - q) ∧ E.MapAt wr m s (fillE (xs.take q)) ∧ Hid (PL wr p (fillE (xs.take q))) ∧ Below w.heap.size w wr)
  case atStart => exact ⟨0, rfl, by omega, Lib.hid rfl, hM2, Lib.hid hP2, hB2⟩
  case round =>
    obtain ⟨q, rfl, hq, Hm, hMr, HPr, hB⟩ := hrel
    by_cases hlt : q < xs.length
    · obtain ⟨b, off, rfl, hel⟩ : ∃ b off, a = some ⟨b, off, none⟩ ∧ Elems w b off xs := by
        rcases Hc.out with h | h
        · rw [h] at hlt; simp at hlt
        · exact h
      obtain ⟨x, hx⟩ : ∃ x, xs[q]? = some x := ⟨xs[q], by simp [hlt]⟩
      have hbl := World.block_lt_of_cell? w _ (hel q x hx).1
      obtain ⟨e0, e1, e2⟩ := (hel.below hB hbl) q x hx
      have HX := Lib.hid hx
      have Hel := Lib.hid hel
      clear hx hel
      have hlen : (fillE (xs.take q)).length ≤ 60 := by have := (fillE_ok (xs.take q)).2; simp at this; omega
      go_wp2_with fail
      refine (E.mapput_T wr m s _ ⟨x, (q : Int)⟩ hMr (by omega)).mono ?_
      rintro e w3 ⟨rfl, hM3, hb3⟩
      have hB3 := But.below hB hb3 hs' hB.size
      obtain ⟨i0, i1, i2⟩ := (Hel.out.below hB3 hbl) q x HX.out
      clear e0 e1 e2
      go_wp2_with fail
      refine (plainput_T w3 p _ ⟨x, (q : Int)⟩ (HPr.out.but hb3 hs1) (fillE_ok _).1 (by omega)).mono ?_
      rintro e w4 ⟨⟨u, rfl⟩, hP4, hC4⟩
      go_wp2_with fail
      go_roundg (xs.length - (q + 1))
      case measure => rw [Hm.out]; omega
      case rel =>
        refine ⟨q + 1, by go_num, by omega, Lib.hid rfl, ?_, Lib.hid ?_, ?_⟩
        · rw [fillE_succ HX.out]; exact mapat_ch hM3 hC4
        · rw [fillE_succ HX.out]; exact hP4
        · exact hB3.trans (hC4.below.mono (by omega))
    · obtain rfl : q = xs.length := by omega
      go_wp2_with fail
      go_ret2
      rw [List.take_length] at hMr HPr
      exact ⟨m, s, p, rfl, hm, hs', hm1, hs1, hMr, HPr.out, hB⟩

end Go.Proofs.Ytbpibbcehfkeeaa.S
