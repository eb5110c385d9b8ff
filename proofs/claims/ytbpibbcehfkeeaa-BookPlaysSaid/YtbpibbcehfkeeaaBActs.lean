/- Calls that a law is given, and where they lie. Conditions: none. -/
import Derived.Test.YtbpibbcehfkeeaaBase
namespace Go.Proofs.Ytbpibbcehfkeeaa
open Go Go.RowKit

/-- A call that the law is given. -/
structure ActV where
  d : Int
  n : Int
  s : SymV

def ActAt (w : World) (b o : Nat) (x : ActV) : Prop :=
  w.cell? ⟨b, o, none⟩ = some (.int .i64 x.d) ∧ w.cell? ⟨b, o + 1, none⟩ = some (.int .i64 x.n) ∧ w.cell? ⟨b, o + 2, none⟩ = some (.int .i64 x.s.k) ∧ w.cell? ⟨b, o + 3, none⟩ = some (.string x.s.t) ∧ w.cell? ⟨b, o + 4, none⟩ = some (.int .i64 x.s.n)

/-- v is a slice of the calls l. -/
def ActsOf (w : World) (v : Value) (l : List ActV) : Prop :=
  ∃ a cap, v = .slice a l.length cap ∧ (l = [] ∨ ∃ b off, a = some ⟨b, off, none⟩ ∧ ∀ i x, l[i]? = some x → ActAt w b (off + i * 5) x)

theorem ActAt.below {w w' : World} {B b o : Nat} {x : ActV} (hB : Below B w w') (hb : b < B) (h : ActAt w b o x) : ActAt w' b o x := by
  unfold ActAt at *
  simp only [← hB.cell (p := ⟨b, _, none⟩) hb] at h
  exact h

end Go.Proofs.Ytbpibbcehfkeeaa
