/- Entries of a map, a key and a value, and what it means that two are held against each other. Conditions: none. -/
import Derived.Test.YtbpibbcehfkeeaaBase
namespace Go.Proofs.Ytbpibbcehfkeeaa
open Go Go.RowKit

/-- An entry: a key and a value. -/
structure SlV where
  a : Option Addr
  n : Nat
  c : Nat

structure EntL where
  key : SymV
  v : SlV

def entCmpL (x y : EntL) : Int := symCmp x.key y.key
theorem entCmpL_lin : Lin entCmpL := comap_lin EntL.key symCmp_lin

end Go.Proofs.Ytbpibbcehfkeeaa
