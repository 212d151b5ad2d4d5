/-
  A region that draws its order, the frame behind it written out.
-/
import Derived.Test.YtcpjgohclncbkaaDoorRegions
namespace Go.Proofs.YtcpjgohclncbkaaDoor
open Go.RowKit
set_option maxRecDepth 100000

section
variable {d : Nat → Bool}
theorem also_ne {i j : Nat} (h : j ≠ i) : also d i j = d j := by unfold also; rw [if_neg h]
theorem also_same (i : Nat) : also d i i = true := by unfold also; rw [if_pos rfl]
theorem also_up {i j : Nat} (h : d j = true) : also d i j = true := by unfold also; split <;> trivial
end
end Go.Proofs.YtcpjgohclncbkaaDoor
