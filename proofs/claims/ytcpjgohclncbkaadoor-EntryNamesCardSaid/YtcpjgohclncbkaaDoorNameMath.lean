/-
  Names: which texts are some. Mathematics alone.
-/
import Derived.WalkKit
namespace Go.Proofs.YtcpjgohclncbkaaDoor

end Go.Proofs.YtcpjgohclncbkaaDoor
