/-
  Versions with one more, in the place of some: mathematics; slices.Insert at any place.
-/
import Derived.Test.YtcpjgohclncbkaaDoorVeInsert
import Derived.Test.YtcpjgohclncbkaaDoorVeFind
namespace Go.Proofs.YtcpjgohclncbkaaDoor
open Go.RowKit
set_option maxRecDepth 100000

end Go.Proofs.YtcpjgohclncbkaaDoor
