/-
  The document's Same at equal lists of versions; Fine; fits.
-/
import Derived.Test.YtcpjgohclncbkaaDoorVeRef
namespace Go.Proofs.YtcpjgohclncbkaaDoor
open Go.RowKit
set_option maxRecDepth 100000

end Go.Proofs.YtcpjgohclncbkaaDoor
