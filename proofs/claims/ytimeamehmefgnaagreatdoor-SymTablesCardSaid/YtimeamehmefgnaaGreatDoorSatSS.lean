/- What At of a set answers. Conditions: the set lies in memory; at most 800000 members; the index is in range. -/
import Derived.Test.YtimeamehmefgnaaGreatDoorGetSS
namespace Go.Proofs.YtimeamehmefgnaaGreatDoor.S
open Go Go.RowKit

end Go.Proofs.YtimeamehmefgnaaGreatDoor.S
