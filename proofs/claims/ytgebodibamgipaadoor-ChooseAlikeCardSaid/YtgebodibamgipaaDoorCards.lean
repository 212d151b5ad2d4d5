/-
  DERIVED. GIVEN WITH THE SEED: THE CARDS: each row of YtgebodibamgipaaDoorRows.lean that lists a variable, with what it lists TIED to the program's text (the seventh form; the later family's looks); each row that meets fmt, with fmt's text TOLD by the authors' own Lean function (tested against real Go, not proved from fmt's source: count such statements apart). THE CARD IS WHAT COUNTS. Prove the row's statement (the work); the ties are given (YtgebodibamgipaaDoorTie.lean); close each card by the builder's one call (the guide's Derived/Test/ToyasCard.lean, 'card_holds'). Laid BY PROGRAM, IN A SANDBOX (cutbox-door.mjs). By AI agents, Wed Nov 11 2026. No macro, syntax, notation, axiom, sorry.
-/
import Derived.Test.YtgebodibamgipaaDoorRows
import GoSem.ClaimSeven
namespace Go.Proofs.YtgebodibamgipaaDoor
namespace Rows

/-- THE TIED CARD OF 'wardshiplaw14.ChooseAlike'. -/
def chooseAlikeCard : Claim7 := { stood := { row := chooseAlikeRow, standIns := [], harness := (true, "da8503d9cf165d05637b9667e5b2a3f5b232d8c39e94c81c2a92009a0cbf3187"), looks := true }, kinds := [], alts := [], laidByText := true, laidKinds := [.data, .data, .data, .data, .sentinel, .sentinel, .pinned], laidTests := true, laidLooks := .later }
def ChooseAlikeCardSaid : Prop := Claim7.holds Tryd.pinned (.plain (OpenSpec.ofChange chooseAlikeSpec)) chooseAlikeCard

/-- THE TIED CARD OF 'wardshiplaw14.ChooseUp'. -/
def chooseUpCard : Claim7 := { stood := { row := chooseUpRow, standIns := [], harness := (true, "da8503d9cf165d05637b9667e5b2a3f5b232d8c39e94c81c2a92009a0cbf3187"), looks := true }, kinds := [], alts := [], laidByText := true, laidKinds := [.data, .data, .data, .data, .sentinel, .sentinel, .pinned], laidTests := true, laidLooks := .later }
def ChooseUpCardSaid : Prop := Claim7.holds Tryd.pinned (.plain (OpenSpec.ofChange chooseUpSpec)) chooseUpCard

/-- THE TIED CARD OF 'wardshiplaw14.ChooseTwice'. -/
def chooseTwiceCard : Claim7 := { stood := { row := chooseTwiceRow, standIns := [], harness := (true, "da8503d9cf165d05637b9667e5b2a3f5b232d8c39e94c81c2a92009a0cbf3187"), looks := true }, kinds := [], alts := [], laidByText := true, laidKinds := [.data, .data, .data, .data, .sentinel, .sentinel, .pinned], laidTests := true, laidLooks := .later }
def ChooseTwiceCardSaid : Prop := Claim7.holds Tryd.pinned (.plain (OpenSpec.ofChange chooseTwiceSpec)) chooseTwiceCard

/-- THE SECOND FORM's CARD OF 'wardshiplaw14.ChooseAlike'. -/
def chooseAlikeUptoCard : Claim7 := { stood := { row := chooseAlikeUptoRow, standIns := [], harness := (true, "da8503d9cf165d05637b9667e5b2a3f5b232d8c39e94c81c2a92009a0cbf3187"), looks := true }, kinds := [], alts := [], laidByText := true, laidKinds := [.data, .data, .data, .data, .sentinel, .sentinel, .pinned], laidTests := true, laidLooks := .later }
def ChooseAlikeUptoCardSaid : Prop := Claim7.holds Tryd.pinned (.plain (OpenSpec.upto chooseAlikeSpec)) chooseAlikeUptoCard

/-- THE SECOND FORM's CARD OF 'wardshiplaw14.ChooseUp'. -/
def chooseUpUptoCard : Claim7 := { stood := { row := chooseUpUptoRow, standIns := [], harness := (true, "da8503d9cf165d05637b9667e5b2a3f5b232d8c39e94c81c2a92009a0cbf3187"), looks := true }, kinds := [], alts := [], laidByText := true, laidKinds := [.data, .data, .data, .data, .sentinel, .sentinel, .pinned], laidTests := true, laidLooks := .later }
def ChooseUpUptoCardSaid : Prop := Claim7.holds Tryd.pinned (.plain (OpenSpec.upto chooseUpSpec)) chooseUpUptoCard

/-- THE SECOND FORM's CARD OF 'wardshiplaw14.ChooseTwice'. -/
def chooseTwiceUptoCard : Claim7 := { stood := { row := chooseTwiceUptoRow, standIns := [], harness := (true, "da8503d9cf165d05637b9667e5b2a3f5b232d8c39e94c81c2a92009a0cbf3187"), looks := true }, kinds := [], alts := [], laidByText := true, laidKinds := [.data, .data, .data, .data, .sentinel, .sentinel, .pinned], laidTests := true, laidLooks := .later }
def ChooseTwiceUptoCardSaid : Prop := Claim7.holds Tryd.pinned (.plain (OpenSpec.upto chooseTwiceSpec)) chooseTwiceUptoCard
end Rows
end Go.Proofs.YtgebodibamgipaaDoor
