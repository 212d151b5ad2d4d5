/-
  The document's lists of versions: Heads, Sweep, Unseen, has, Data, Same, Fine; fits.
-/
import Derived.Test.YtcpjgohclncbkaaDoorVeThose
import Derived.Test.YtcpjgohclncbkaaDoorVeFind
import Derived.Test.YtcpjgohclncbkaaDoorVecAll
namespace Go.Proofs.YtcpjgohclncbkaaDoor
open Go.RowKit
set_option maxRecDepth 100000

/-- What is at hand of one version of a list, in whatever world has come of this one. -/
theorem ver_here {w : World} {A : Option Addr} {L : List Ver} {ok : Nat → Prop} (hL : L ≠ [] → ∃ b off, A = some ⟨b, off, none⟩ ∧ ok b ∧ b < w.heap.size ∧ ∀ (i : Nat) (hi : i < L.length), w.rangeAt b (off + i * 11) (verC L[i]).toList ∧ VerOk L[i]) {k : Nat} (hk : k < L.length) {wr : World} (hb : Below w.heap.size w wr) :
    ∃ b off, A = some ⟨b, off, none⟩ ∧ VerOk L[k] ∧ VerCells wr b (off + k * 11) L[k] := by
  obtain ⟨b, off, hA, _, _, hel⟩ := hL (by intro e; subst e; simp at hk)
  exact ⟨b, off, hA, (hel k hk).2, verCells (range_ext (hel k hk).1 hb)⟩

end Go.Proofs.YtcpjgohclncbkaaDoor
