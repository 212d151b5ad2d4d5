/-
  slices.BinarySearchFunc at versions; version.find.
-/
import Derived.Test.YtcpjgohclncbkaaDoorVeFind
namespace Go.Proofs.YtcpjgohclncbkaaDoor
open Go.RowKit
set_option maxRecDepth 100000

theorem info_list {n : Nat} {A : Array Value} {t : TypeId} (h : (Tryd.prog.info? t).map (·.size) = some n) (hA : A.size = n) : (Tryd.prog.info? t).map (·.size) = some A.toList.length := by rw [h, Array.length_toList, hA]

end Go.Proofs.YtcpjgohclncbkaaDoor
