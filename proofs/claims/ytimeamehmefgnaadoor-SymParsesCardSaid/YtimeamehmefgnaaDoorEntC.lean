/- Entries of a map by letters, a key and a value, and what it means that two are held against each other. Conditions: none. -/
import Derived.Test.YtimeamehmefgnaaDoorBase
namespace Go.Proofs.YtimeamehmefgnaaDoor
open Go Go.RowKit

/-- An entry: a letter and a number. -/
structure EntC where
  key : Int
  v : Int

def entCmpC (x y : EntC) : Int := icmp x.key y.key
theorem entCmpC_lin : Lin entCmpC := comap_lin EntC.key icmp_lin

end Go.Proofs.YtimeamehmefgnaaDoor
