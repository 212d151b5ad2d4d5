/-
  One version: strings.Clone, version.copied, version.Head, the document's Head, Gone of either side.
-/
import Derived.Test.YtcpjgohclncbkaaDoorVeBase
import Derived.Test.YtcpjgohclncbkaaDoorVeKit
import Derived.Test.YtcpjgohclncbkaaDoorShelf
import Derived.Deep.Cut
import Derived.Deep.DeepCutAuto
import Derived.Deep.DeepMust
namespace Go.Proofs.YtcpjgohclncbkaaDoor
open Go.RowKit
set_option maxRecDepth 100000

theorem strclone_any (s : List UInt8) (hs : s.length ≤ 1000) (w : World) : Calls Tryd.prog 52 #[.string ⟨s.toArray⟩] w fun e w' => e = .returned (.string ⟨s.toArray⟩) ∧ Below w.heap.size w w' := by
  have hsz : (⟨s.toArray⟩ : ByteArray).size ≤ 1000 := by show s.toArray.size ≤ _; simp; omega
  have hc := fun z => Tryd.stringslite_Clone ⟨s.toArray⟩ z (by omega)
  have Hc := Lib.hid hc
  clear hc hsz
  go_enter Tryd.func52, Tryd.ntmps52
  go_wp2_with fail
  refine (Hc.out _).mono ?_
  rintro e w1 ⟨rfl, hb1⟩
  go_wp2_with fail
  go_ret
  exact ⟨rfl, hb1⟩

end Go.Proofs.YtcpjgohclncbkaaDoor
