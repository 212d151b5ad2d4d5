/-
  DERIVED. GIVEN WITH THE SEED: THE CARDS: each row of YtgebodibamgipaaGreatDoorRows.lean that lists a variable, with what it lists TIED to the program's text (the seventh form; the later family's looks); each row that meets fmt, with fmt's text TOLD by the authors' own Lean function (tested against real Go, not proved from fmt's source: count such statements apart). THE CARD IS WHAT COUNTS. Prove the row's statement (the work); the ties are given (YtgebodibamgipaaGreatDoorTie.lean); close each card by the builder's one call (the guide's Derived/Test/ToyasCard.lean, 'card_holds'). Laid BY PROGRAM, IN A SANDBOX (cutbox-door.mjs). By AI agents, Wed Nov 11 2026. No macro, syntax, notation, axiom, sorry.
-/
import Derived.Test.YtgebodibamgipaaGreatDoorRows
import GoSem.ClaimSeven
namespace Go.Proofs.YtgebodibamgipaaGreatDoor
namespace Rows

/-- THE TIED CARD OF 'wardshiplaw14.ChooseCleans'. -/
def chooseCleansCard : Claim7 := { stood := { row := chooseCleansRow, standIns := [], harness := (true, "dcbe64981a97dfc849df83fd41c720bfbf249f1d5d7e70ca1cbe08e26865befd"), looks := true }, kinds := [], alts := [], laidByText := true, laidKinds := [.data, .data, .data, .data, .sentinel, .sentinel, .pinned], laidTests := true, laidLooks := .later }
def ChooseCleansCardSaid : Prop := Claim7.holds Tryz.pinned (.plain (OpenSpec.ofChange chooseCleansSpec)) chooseCleansCard

/-- THE SECOND FORM's CARD OF 'wardshiplaw14.ChooseCleans'. -/
def chooseCleansUptoCard : Claim7 := { stood := { row := chooseCleansUptoRow, standIns := [], harness := (true, "dcbe64981a97dfc849df83fd41c720bfbf249f1d5d7e70ca1cbe08e26865befd"), looks := true }, kinds := [], alts := [], laidByText := true, laidKinds := [.data, .data, .data, .data, .sentinel, .sentinel, .pinned], laidTests := true, laidLooks := .later }
def ChooseCleansUptoCardSaid : Prop := Claim7.holds Tryz.pinned (.plain (OpenSpec.upto chooseCleansSpec)) chooseCleansUptoCard
end Rows
end Go.Proofs.YtgebodibamgipaaGreatDoor
