/-
  DERIVED. GIVEN WITH THE SEED: THE CARDS: each row of YtjakgmidhpddoabDoorRows.lean that lists a variable, with what it lists TIED to the program's text (the seventh form; the later family's looks); each row that meets fmt, with fmt's text TOLD by the authors' own Lean function (tested against real Go, not proved from fmt's source: count such statements apart). THE CARD IS WHAT COUNTS. Prove the row's statement (the work); the ties are given (YtjakgmidhpddoabDoorTie.lean); close each card by the builder's one call (the guide's Derived/Test/ToyasCard.lean, 'card_holds'). Laid BY PROGRAM, IN A SANDBOX (cutbox-door.mjs). By AI agents, Wed Nov 11 2026. No macro, syntax, notation, axiom, sorry.
-/
import Derived.Test.YtjakgmidhpddoabDoorRows
import GoSem.ClaimSeven
namespace Go.Proofs.YtjakgmidhpddoabDoor
namespace Rows

/-- THE TIED CARD OF 'wardshiplaw06.VecMeans'. -/
def vecMeansCard : Claim7 := { stood := { row := vecMeansRow, standIns := [], harness := (true, "94060b13ae9e847c4d28f7e14d25c2d521ae699cad1456067f8a8421b1b76cd6"), looks := false }, kinds := [], alts := [], laidByText := true, laidKinds := [.data, .data, .data], laidTests := true, laidLooks := .later }
def VecMeansCardSaid : Prop := Claim7.holds Tryd.pinned (.plain (OpenSpec.ofChange vecMeansSpec)) vecMeansCard

/-- THE SECOND FORM's CARD OF 'wardshiplaw06.VecMeans'. -/
def vecMeansUptoCard : Claim7 := { stood := { row := vecMeansUptoRow, standIns := [], harness := (true, "94060b13ae9e847c4d28f7e14d25c2d521ae699cad1456067f8a8421b1b76cd6"), looks := false }, kinds := [], alts := [], laidByText := true, laidKinds := [.data, .data, .data], laidTests := true, laidLooks := .later }
def VecMeansUptoCardSaid : Prop := Claim7.holds Tryd.pinned (.plain (OpenSpec.upto vecMeansSpec)) vecMeansUptoCard
end Rows
end Go.Proofs.YtjakgmidhpddoabDoor
