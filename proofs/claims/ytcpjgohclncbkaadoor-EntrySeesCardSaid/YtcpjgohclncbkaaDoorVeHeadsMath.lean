/-
  What VersionHeads asks of lists of versions, as mathematics: one that comes in the place of all latest ones; two of them, in either order.
-/
import Derived.Test.YtcpjgohclncbkaaDoorVeInsert
import Derived.Test.YtcpjgohclncbkaaDoorVeFind
namespace Go.Proofs.YtcpjgohclncbkaaDoor
open Go.RowKit
set_option maxRecDepth 100000

theorem lessV_self (r : Int) (s : Nat) : lessV r s r s = false := by unfold lessV; simp
end Go.Proofs.YtcpjgohclncbkaaDoor
