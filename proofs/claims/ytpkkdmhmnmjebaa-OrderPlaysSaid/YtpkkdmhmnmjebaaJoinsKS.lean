/- When two sets of symbols are the same; what the statements' Put leaves of a list. Conditions: the sets, the lists are in order. -/
import Derived.Test.YtpkkdmhmnmjebaaMeetSS
import Derived.Test.YtpkkdmhmnmjebaaRefPutS
namespace Go.Proofs.Ytpkkdmhmnmjebaa.S
open Go Go.RowKit

theorem sorted_le {α : Type} {cmp : α → α → Int} (hc : Lin cmp) (he : Exact cmp) : ∀ {R L : List α}, Sorted cmp L → Sorted cmp R → (∀ a ∈ L, a ∈ R) → L.length ≤ R.length
  | [], [], _, _, _ => Nat.le_refl _
  | [], l :: L, _, _, h => by have := h l (by simp); simp at this
  | r :: R, [], _, _, _ => by simp
  | r :: R, l :: L, hL, hR, h => by
    obtain ⟨l1, l2⟩ := List.pairwise_cons.1 hL
    obtain ⟨r1, r2⟩ := List.pairwise_cons.1 hR
    have hz : ∀ z, cmp z z = 0 := fun z => (he z z).2 rfl
    rcases List.mem_cons.1 (h l (by simp)) with rfl | hl
    · have := sorted_le hc he l2 r2 (fun a ha => by
        rcases List.mem_cons.1 (h a (by simp [ha])) with rfl | k
        · have := l1 a ha; rw [hz] at this; omega
        · exact k)
      simp; exact this
    · have hrl := r1 l hl
      have := sorted_le hc he (L := l :: L) hL r2 (fun a ha => by
        rcases List.mem_cons.1 (h a ha) with rfl | k
        · rcases List.mem_cons.1 ha with rfl | k
          · rw [hz] at hrl; omega
          · have := hc.lt_le hrl (Int.le_of_lt (l1 a k)); rw [hz] at this; omega
        · exact k)
      simp at this ⊢; omega

theorem same_eq {w : World} {s r : Nat} {L R : List SymV} (hS : SetAt w s L) (hR : SetAt w r R) : (L.length == R.length && L.all (has symCmp R)) = true ↔ L = R := by
  obtain ⟨-, -, -, -, -, h1⟩ := hS
  obtain ⟨-, -, -, -, -, h2⟩ := hR
  constructor
  · intro h
    simp only [Bool.and_eq_true, beq_iff_eq, List.all_eq_true] at h
    obtain ⟨hl, ha⟩ := h
    have hsub : ∀ a ∈ L, a ∈ R := fun a k => (has_iff symCmp_exact).1 (ha a k)
    refine sorted_ext symCmp_lin symCmp_exact h1 h2 fun a => ⟨hsub a, fun k => Classical.byContradiction fun hn => ?_⟩
    have hh : has symCmp L a = false := by
      cases e : has symCmp L a
      · rfl
      · exact absurd ((has_iff symCmp_exact).1 e) hn
    have := sorted_le symCmp_lin symCmp_exact (sorted_ins symCmp_lin L a h1 hh) h2 (fun b hb => by
      rcases mem_ins.1 hb with rfl | hb
      · exact k
      · exact hsub b hb)
    rw [length_ins] at this
    omega
  · rintro rfl
    simp only [beq_self_eq_true, Bool.true_and, List.all_eq_true]
    exact fun x hx => (has_iff symCmp_exact).2 hx

/-- A list of the law's own, in order. -/
def Own (w : World) (v : Value) (xs : List SymV) : Prop := SliceOf w v xs ∧ Fits v ∧ Sorted symCmp xs

theorem Own.below {w w' : World} {v : Value} {xs : List SymV} (h : Own w v xs) (hB : Below w.heap.size w w') : Own w' v xs := ⟨h.1.below hB, h.2⟩

theorem Own.nil (w : World) : Own w (.slice none 0 0) [] := ⟨⟨none, 0, rfl, .inl rfl⟩, by rintro a n c e; cases e; exact ⟨Nat.le_refl _, fun _ => rfl⟩, List.Pairwise.nil⟩

theorem ownput_T (w : World) (v : Value) (xs : List SymV) (x : SymV) (h : Own w v xs) (hs : xs.length ≤ 100000) :
    Calls Try.prog 14 #[v, .agg #[.int .i64 x.k, .string x.t, .int .i64 x.n]] w fun e w' => ∃ v', e = .returned v' ∧ Own w' v' (put symCmp xs x) ∧ Below w.heap.size w w' := by
  refine (refput_T w v xs x h.1 h.2.1 h.2.2 hs).mono ?_
  rintro e w' ⟨v', rfl, hf, hv, hB⟩
  refine ⟨v', rfl, ⟨?_, hf, sorted_put symCmp_lin _ _ h.2.2⟩, hB⟩
  rcases hv with ⟨rfl, e⟩ | hv
  · rw [e]; exact h.1.below hB
  · exact hv.slice

theorem Own.len {w : World} {v : Value} {xs : List SymV} (h : Own w v xs) : ∃ a cap, v = .slice a xs.length cap := by
  obtain ⟨⟨a, cap, rfl, -⟩, -⟩ := h
  exact ⟨a, cap, rfl⟩

end Go.Proofs.Ytpkkdmhmnmjebaa.S
