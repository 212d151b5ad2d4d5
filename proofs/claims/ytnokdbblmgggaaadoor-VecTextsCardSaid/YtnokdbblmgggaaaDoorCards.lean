/-
  DERIVED. GIVEN WITH THE SEED: THE CARDS: each row of YtnokdbblmgggaaaDoorRows.lean that lists a variable, with what it lists TIED to the program's text (the seventh form; the later family's looks); each row that meets fmt, with fmt's text TOLD by the authors' own Lean function (tested against real Go, not proved from fmt's source: count such statements apart). THE CARD IS WHAT COUNTS. Prove the row's statement (the work); the ties are given (YtnokdbblmgggaaaDoorTie.lean); close each card by the builder's one call (the guide's Derived/Test/ToyasCard.lean, 'card_holds'). Laid BY PROGRAM, IN A SANDBOX (cutbox-door.mjs). By AI agents, Wed Nov 11 2026. No macro, syntax, notation, axiom, sorry.
-/
import Derived.Test.YtnokdbblmgggaaaDoorRows
import GoSem.ClaimSeven
namespace Go.Proofs.YtnokdbblmgggaaaDoor
namespace Rows

/-- THE TIED CARD OF 'wardshiplaw06.VecTexts'. -/
def vecTextsCard : Claim7 := { stood := { row := vecTextsRow, standIns := [], harness := (true, "66237b41a89e429f31f340bd4f06ff04c56a3e601d0bf0709a0e132d61a32355"), looks := true }, kinds := [], alts := [], laidByText := true, laidKinds := [.data, .data, .data, .sentinel, .sentinel], laidTests := true, laidLooks := .later }
def VecTextsCardSaid : Prop := Claim7.holds Tryd.pinned (.plain (OpenSpec.ofChange vecTextsSpec)) vecTextsCard

/-- THE SECOND FORM's CARD OF 'wardshiplaw06.VecTexts'. -/
def vecTextsUptoCard : Claim7 := { stood := { row := vecTextsUptoRow, standIns := [], harness := (true, "66237b41a89e429f31f340bd4f06ff04c56a3e601d0bf0709a0e132d61a32355"), looks := true }, kinds := [], alts := [], laidByText := true, laidKinds := [.data, .data, .data, .sentinel, .sentinel], laidTests := true, laidLooks := .later }
def VecTextsUptoCardSaid : Prop := Claim7.holds Tryd.pinned (.plain (OpenSpec.upto vecTextsSpec)) vecTextsUptoCard
end Rows
end Go.Proofs.YtnokdbblmgggaaaDoor
