/- Entries of a map whose keys are elements. Conditions: none. -/
import Derived.Test.YtfgpkbbbohipcaaMg2
namespace Go.Proofs.Ytfgpkbbbohipcaa
open Go Go.RowKit

/-- An entry: an element and a value. -/
structure EntM where
  key : ElmV
  v : Int

def entCmpM (x y : EntM) : Int := elmCmp x.key y.key
theorem entCmpM_lin : Lin entCmpM := comap_lin EntM.key elmCmp_lin

end Go.Proofs.Ytfgpkbbbohipcaa
