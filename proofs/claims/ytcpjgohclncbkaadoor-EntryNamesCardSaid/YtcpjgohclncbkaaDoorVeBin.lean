/-
  slices.BinarySearchFunc at versions; version.find.
-/
import Derived.Test.YtcpjgohclncbkaaDoorVeFind
namespace Go.Proofs.YtcpjgohclncbkaaDoor
open Go.RowKit
set_option maxRecDepth 100000

end Go.Proofs.YtcpjgohclncbkaaDoor
