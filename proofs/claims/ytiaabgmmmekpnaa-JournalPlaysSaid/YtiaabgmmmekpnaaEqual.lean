/-
  bytes.Equal.
-/
import Derived.Test.YtiaabgmmmekpnaaBytes
import Derived.Test.YtiaabgmmmekpnaaShelf
namespace Go.Proofs.Ytiaabgmmmekpnaa
open Go.RowKit Go.Shelf

theorem equal_any (ok1 ok2 : Nat → Prop) (v1 v2 : Value) (l1 l2 : List UInt8) (w : World) (h1 : IsB w ok1 v1 l1) (h2 : IsB w ok2 v2 l2) :
    Calls Try.prog 71 #[v1, v2] w fun e w' => e = .returned (.bool (l1 == l2)) ∧ w = w' := by
  obtain ⟨A1, c1, rfl, _, _, hr1⟩ := h1
  obtain ⟨A2, c2, rfl, _, _, hr2⟩ := h2
  have e1 := run_bytes_str (P := Try.prog) (c := c1) 48 9 5 Try.underlying48 Try.underlying5 Try.underlying9 hr1
  have e2 := run_bytes_str (P := Try.prog) (c := c2) 48 9 5 Try.underlying48 Try.underlying5 Try.underlying9 hr2
  refine (Try.bytes_Equal_strs _ _ _ _ w e1 e2).mono ?_
  rintro e w' ⟨rfl, hw⟩
  refine ⟨?_, hw.symm⟩
  rw [ByteArray.toList_eq, ByteArray.toList_eq]
end Go.Proofs.Ytiaabgmmmekpnaa
