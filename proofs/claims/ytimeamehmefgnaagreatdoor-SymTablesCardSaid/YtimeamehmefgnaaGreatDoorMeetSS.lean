/- What Meet and Less of two sets make, and when two sets are the same. Conditions: the sets lie in memory; at most 300000 members. -/
import Derived.Test.YtimeamehmefgnaaGreatDoorPartSS
import Derived.Test.YtimeamehmefgnaaGreatDoorRefAS
namespace Go.Proofs.YtimeamehmefgnaaGreatDoor.S
open Go Go.RowKit

theorem less_T (w : World) (s r : Nat) (L R : List SymV) (hS : SetAt w s L) (hR : SetAt w r R) (hs : L.length ≤ 300000) (hr : R.length ≤ 300000) :
    Calls Tryz.prog 28 #[.pointer (some ⟨s, 0, none⟩), .pointer (some ⟨r, 0, none⟩)] w fun e w' => ∃ c, e = .returned (.pointer (some ⟨c, 0, none⟩)) ∧ w.heap.size ≤ c ∧ SetAt w' c (L.filter (fun x => has symCmp R x == false)) ∧ Below w.heap.size w w' := by
  go_enter Tryz.func28, Tryz.ntmps28
  go_wp2_with fail
  refine (part_T w s r false L R hS hR hs hr).mono ?_
  rintro e w1 ⟨c, rfl, h1, h2, h3⟩
  go_wp2_with fail
  go_ret
  exact ⟨c, rfl, h1, h2, h3⟩

theorem sorted_ext {α : Type} {cmp : α → α → Int} (hc : Lin cmp) (he : Exact cmp) : ∀ {L M : List α}, Sorted cmp L → Sorted cmp M → (∀ a, a ∈ L ↔ a ∈ M) → L = M
  | [], [], _, _, _ => rfl
  | [], m :: M, _, _, h => by have := (h m).2 (by simp); simp at this
  | l :: L, [], _, _, h => by have := (h l).1 (by simp); simp at this
  | l :: L, m :: M, hL, hM, h => by
    obtain ⟨l1, l2⟩ := List.pairwise_cons.1 hL
    obtain ⟨m1, m2⟩ := List.pairwise_cons.1 hM
    have hlm : l = m := by
      rcases List.mem_cons.1 ((h l).1 (by simp)) with e | e
      · exact e
      · rcases List.mem_cons.1 ((h m).2 (by simp)) with e' | e'
        · exact e'.symm
        · have h1 := m1 l e
          have h2 := l1 m e'
          have h3 := hc.lt_le h1 (Int.le_of_lt h2)
          rw [(he m m).2 rfl] at h3
          omega
    subst hlm
    congr 1
    refine sorted_ext hc he l2 m2 fun a => ?_
    have ha := h a
    simp only [List.mem_cons] at ha
    constructor
    · intro k
      rcases ha.1 (.inr k) with e | e
      · have := l1 a k; rw [e, (he l l).2 rfl] at this; omega
      · exact e
    · intro k
      rcases ha.2 (.inr k) with e | e
      · have := m1 a k; rw [e, (he l l).2 rfl] at this; omega
      · exact e

theorem same_true {w : World} {s r : Nat} {L R : List SymV} (hS : SetAt w s L) (hR : SetAt w r R) (hm : ∀ a, a ∈ L ↔ a ∈ R) : (L.length == R.length && L.all (has symCmp R)) = true := by
  obtain ⟨-, -, -, -, -, h1⟩ := hS
  obtain ⟨-, -, -, -, -, h2⟩ := hR
  obtain rfl := sorted_ext symCmp_lin symCmp_exact h1 h2 hm
  simp only [beq_self_eq_true, Bool.true_and, List.all_eq_true]
  exact fun x hx => (has_iff symCmp_exact).2 hx

/-- The members of a union, of a meeting, of what is left. -/
theorem mem_union {L R : List SymV} {a : SymV} : a ∈ R.foldl (put symCmp) L ↔ a ∈ R ∨ a ∈ L := mem_puts symCmp_exact
theorem mem_meet {L R : List SymV} {a : SymV} : a ∈ L.filter (fun x => has symCmp R x == true) ↔ a ∈ L ∧ a ∈ R := by
  rw [List.mem_filter, beq_iff_eq, has_iff symCmp_exact]
theorem mem_less {L R : List SymV} {a : SymV} : a ∈ L.filter (fun x => has symCmp R x == false) ↔ a ∈ L ∧ ¬ a ∈ R := by
  rw [List.mem_filter, beq_iff_eq, ← Bool.not_eq_true, has_iff symCmp_exact]

end Go.Proofs.YtimeamehmefgnaaGreatDoor.S
