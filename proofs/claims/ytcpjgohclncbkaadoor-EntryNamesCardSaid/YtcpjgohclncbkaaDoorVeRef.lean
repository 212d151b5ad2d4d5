/-
  The document's lists of versions: Heads, Sweep, Unseen, has, Data, Same, Fine; fits.
-/
import Derived.Test.YtcpjgohclncbkaaDoorVeThose
import Derived.Test.YtcpjgohclncbkaaDoorVeFind
import Derived.Test.YtcpjgohclncbkaaDoorVecAll
namespace Go.Proofs.YtcpjgohclncbkaaDoor
open Go.RowKit
set_option maxRecDepth 100000

end Go.Proofs.YtcpjgohclncbkaaDoor
