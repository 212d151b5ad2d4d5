/-
  The walk of JournalAtomic.
-/
import Derived.Test.YtjobkmcbindhmaaJAtomAdd
import Derived.Test.YtjobkmcbindhmaaJAtomRep
namespace Go.Proofs.Ytjobkmcbindhmaa
open Go.RowKit
set_option maxRecDepth 100000

theorem journalatomic_walk (v1 : Value) (F : List (List UInt8)) (v2 : Value) (T : List (List UInt8)) (vc : Value) (c : CutM) (w : World) (hF : IsBB w (fun _ => True) v1 F) (hT : IsBB w (fun _ => True) v2 T) (hc : IsCut w (fun _ => True) vc c) :
    Calls Try.prog 4 #[v1, v2, vc] w fun e w' => e = .returned (.bool true) ∧ Below w.heap.size w w' := by
  obtain ⟨Ak, nk, rfl, hk, _, htw, hhw⟩ := hc
  obtain ⟨rep, after, ch⟩ := c
  cases rep with
  | true => exact journalatomic_rep v1 F v2 T after ch Ak nk w hF hT hk htw hhw
  | false => exact journalatomic_add v1 F v2 T after ch Ak nk w hF hT hk htw hhw
end Go.Proofs.Ytjobkmcbindhmaa
