/- The greatest number of a letter's identifiers in a set of symbols. Conditions: none. -/
import Derived.Test.YtimeamehmefgnaaGreatDoorMgGround
import Derived.Test.YtimeamehmefgnaaGreatDoorRefAS
namespace Go.Proofs.YtimeamehmefgnaaGreatDoor

/-- Is it an identifier with this letter? -/
def isId (c : Int) (x : SymV) : Bool := x.k == 1 && hd x.t == c

/-- The greatest number of a letter's identifiers; 0 where there is none. -/
def maxN (L : List SymV) (c : Int) : Int := L.foldl (fun a x => if isId c x then max a x.n else a) 0

def IsMax (L : List SymV) (c g : Int) : Prop := 0 ≤ g ∧ (∀ x ∈ L, isId c x = true → x.n ≤ g) ∧ (g = 0 ∨ ∃ x ∈ L, isId c x = true ∧ x.n = g)

theorem IsMax.uniq {L : List SymV} {c g h : Int} (a : IsMax L c g) (b : IsMax L c h) : g = h := by
  obtain ⟨a0, a1, a2⟩ := a
  obtain ⟨b0, b1, b2⟩ := b
  rcases a2 with rfl | ⟨x, hx, ix, rfl⟩
  · rcases b2 with rfl | ⟨y, hy, iy, rfl⟩
    · rfl
    · have := a1 y hy iy; omega
  · rcases b2 with rfl | ⟨y, hy, iy, rfl⟩
    · have := b1 x hx ix; omega
    · have := a1 y hy iy; have := b1 x hx ix; omega

theorem IsMax.nil (c : Int) : IsMax [] c 0 := ⟨by omega, by simp, .inl rfl⟩

theorem IsMax.add {L L' : List SymV} {c g : Int} {x : SymV} (h : IsMax L c g) (hm : ∀ y, y ∈ L' ↔ y = x ∨ y ∈ L) : IsMax L' c (if isId c x then max g x.n else g) := by
  obtain ⟨h0, h1, h2⟩ := h
  split
  · rename_i hi
    refine ⟨by omega, fun y hy iy => ?_, ?_⟩
    · rcases (hm y).1 hy with rfl | hy
      · omega
      · have := h1 y hy iy; omega
    · by_cases hc : g ≤ x.n
      · exact .inr ⟨x, (hm x).2 (.inl rfl), hi, by omega⟩
      · rcases h2 with rfl | ⟨y, hy, iy, rfl⟩
        · exact .inl (by omega)
        · exact .inr ⟨y, (hm y).2 (.inr hy), iy, by omega⟩
  · rename_i hi
    refine ⟨h0, fun y hy iy => ?_, ?_⟩
    · rcases (hm y).1 hy with rfl | hy
      · exact absurd iy hi
      · exact h1 y hy iy
    · rcases h2 with rfl | ⟨y, hy, iy, rfl⟩
      · exact .inl rfl
      · exact .inr ⟨y, (hm y).2 (.inr hy), iy, rfl⟩

theorem maxN_is (L : List SymV) (c : Int) : IsMax L c (maxN L c) := by
  have key : ∀ (R P : List SymV) (g : Int), IsMax P c g → IsMax (P ++ R) c (R.foldl (fun a x => if isId c x then max a x.n else a) g) := by
    intro R
    induction R with
    | nil => intro P g h; simpa using h
    | cons x R ih =>
      intro P g h
      have h1 : IsMax (P ++ [x]) c (if isId c x then max g x.n else g) := h.add (by simp [or_comm])
      have := ih (P ++ [x]) _ h1
      simpa using this
  simpa [maxN] using key L [] 0 (IsMax.nil c)

theorem maxN_nonneg (L : List SymV) (c : Int) : 0 ≤ maxN L c := (maxN_is L c).1

/-- The greatest number once a symbol is put. -/
theorem maxN_put (L : List SymV) (c : Int) (x : SymV) : maxN (put symCmp L x) c = if isId c x then max (maxN L c) x.n else maxN L c :=
  (maxN_is _ c).uniq ((maxN_is L c).add (fun y => mem_put S.symCmp_exact))

theorem maxN_le {L : List SymV} (h : ∀ x ∈ L, validB x = true) (c : Int) : maxN L c ≤ 1048576 := by
  obtain ⟨-, -, h2⟩ := maxN_is L c
  rcases h2 with h2 | ⟨x, hx, ix, h2⟩
  · omega
  · have hv := h x hx
    have hk : x.k = 1 := by simp [isId] at ix; exact ix.1
    unfold validB at hv
    rw [if_pos hk] at hv
    simp only [Bool.and_eq_true, decide_eq_true_eq] at hv
    omega

/-- The number that a new identifier gets. -/
def nextV (L : List SymV) (c : Int) : Int := if capI c then maxN L c + 1 else 0

end Go.Proofs.YtimeamehmefgnaaGreatDoor
