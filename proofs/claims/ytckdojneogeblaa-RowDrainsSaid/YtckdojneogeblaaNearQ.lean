/- What is known behind a region, whatever order it drew. Conditions: none. -/
import Derived.Test.YtckdojneogeblaaQFirst
namespace Go.Proofs.Ytckdojneogeblaa
open Go Go.RowKit

/-- Behind a region: by the normal way, and what is known of frame and world. -/
def Near (T : Act → World → Prop) : Exit → Act → World → Prop
  | .normal, a, w => T a w
  | _, _, _ => False

theorem wpIn_near {F : Fence} {n : Nat} {P : Program} {c : Code} {Q : Exit → Act → World → Prop} {a : Act} {w : World} (T : Act → World → Prop) (h : c.wpIn F n P (Near T) a w) (k : ∀ a' w', T a' w' → Q .normal a' w') : c.wpIn F n P Q a w :=
  wpIn_mono h fun e a' w' h' => by cases e <;> first | exact k a' w' h' | exact (h' : False).elim

end Go.Proofs.Ytckdojneogeblaa
