/- A box: what is stored is there. Conditions: none. -/
import Derived.Test.YtcpgjekkcpfpaaaGetSO
namespace Go.Proofs.Ytcpgjekkcpfpaaa
end Go.Proofs.Ytcpgjekkcpfpaaa
