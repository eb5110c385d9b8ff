/- What At of a set answers. Conditions: the set lies in memory; at most 800000 members; the index is in range. -/
import Derived.Test.YtimeamehmefgnaaDoorGetSS
namespace Go.Proofs.YtimeamehmefgnaaDoor.S
open Go Go.RowKit

end Go.Proofs.YtimeamehmefgnaaDoor.S
