/- Entries of a map, a key and a value, and what it means that two are held against each other. Conditions: none. -/
import Derived.Test.YtbpibbcehfkeeaaBase
namespace Go.Proofs.Ytbpibbcehfkeeaa
open Go Go.RowKit

/-- An entry: a key and a value. -/
structure EntV where
  key : SymV
  v : Int

def entCmp (x y : EntV) : Int := symCmp x.key y.key
theorem entCmp_lin : Lin entCmp := comap_lin EntV.key symCmp_lin

end Go.Proofs.Ytbpibbcehfkeeaa
