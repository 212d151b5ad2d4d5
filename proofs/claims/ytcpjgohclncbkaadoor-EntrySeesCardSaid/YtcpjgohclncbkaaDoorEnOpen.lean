/-
  Versions, lists of them and of numbers, vectors among the arguments, opened.
-/
import Derived.Test.YtcpjgohclncbkaaDoorVeOpen
import Derived.Test.YtcpjgohclncbkaaDoorLawKit
import Derived.Test.YtcpjgohclncbkaaDoorVeBase
import Derived.Test.YtcpjgohclncbkaaDoorEnBase
namespace Go.Proofs.YtcpjgohclncbkaaDoor
open Go.ChangeShapes Go.WideShapes Go.ChangeAt Go.RowKit
section
variable {H : Type} {enc : TypeId × Value → H} {w : World} {r : Reach} {b0 base : Nat} {sp : Nat → Bool} {held : Bool} {v : Value} {d : DataW H} {ps : List MemPlace}
theorem open_ents (hval : Value.okWide Tryd.prog w r b0 22 v) (hd : DataW.Trod enc Tryd.prog w base sp held 22 v d ps) : ∃ L, IsL kEnt w (fun _ => True) v L := by
  obtain ⟨fuel, hf⟩ := hd
  obtain ⟨a, len, cap, rfl⟩ := okWide_slice Tryd.underlying22 hval
  obtain ⟨L, hL⟩ := opens_ents hf
  exact ⟨L, kSlice_iff.1 hL⟩
end
end Go.Proofs.YtcpjgohclncbkaaDoor
