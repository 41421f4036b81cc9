/-
  DERIVED. GIVEN WITH THE SEED: THE CARDS: each row of YtnfojonmohijpabGreatDoorRows.lean that lists a variable, with what it lists TIED to the program's text (the seventh form; the later family's looks); each row that meets fmt, with fmt's text TOLD by the authors' own Lean function (tested against real Go, not proved from fmt's source: count such statements apart). THE CARD IS WHAT COUNTS. Prove the row's statement (the work); the ties are given (YtnfojonmohijpabGreatDoorTie.lean); close each card by the builder's one call (the guide's Derived/Test/ToyasCard.lean, 'card_holds'). Laid BY PROGRAM, IN A SANDBOX (cutbox-door.mjs). By AI agents, Wed Nov 11 2026. No macro, syntax, notation, axiom, sorry.
-/
import Derived.Test.YtnfojonmohijpabGreatDoorRows
import GoSem.ClaimSeven
namespace Go.Proofs.YtnfojonmohijpabGreatDoor
namespace Rows

/-- THE TIED CARD OF 'yarrowkeep.Munched'. -/
def munchedCard : Claim7 := { stood := { row := munchedRow, standIns := [], harness := (true, "800661e012b56fe53915191adfc0628d15bb71f5813f9b752b910074bac104bc"), looks := true }, kinds := [], alts := [], laidByText := true, laidKinds := [.data, .data, .data, .data], laidTests := true, laidLooks := .later }
def MunchedCardSaid : Prop := Claim7.holds Tryz.pinned (.plain (OpenSpec.ofChange munchedSpec)) munchedCard

/-- THE TIED CARD OF 'yarrowkeep.Selected'. -/
def selectedCard : Claim7 := { stood := { row := selectedRow, standIns := [], harness := (true, "800661e012b56fe53915191adfc0628d15bb71f5813f9b752b910074bac104bc"), looks := true }, kinds := [], alts := [], laidByText := true, laidKinds := [.data, .data, .data, .data, .data, .pinned], laidTests := true, laidLooks := .later }
def SelectedCardSaid : Prop := Claim7.holds Tryz.pinned (.plain (OpenSpec.ofChange selectedSpec)) selectedCard

/-- THE TIED CARD OF 'yarrowkeep.Known'. -/
def knownCard : Claim7 := { stood := { row := knownRow, standIns := [], harness := (true, "800661e012b56fe53915191adfc0628d15bb71f5813f9b752b910074bac104bc"), looks := true }, kinds := [], alts := [], laidByText := true, laidKinds := [.data, .data, .data, .data, .data, .pinned], laidTests := true, laidLooks := .later }
def KnownCardSaid : Prop := Claim7.holds Tryz.pinned (.plain (OpenSpec.ofChange knownSpec)) knownCard

/-- THE SECOND FORM's CARD OF 'yarrowkeep.Munched'. -/
def munchedUptoCard : Claim7 := { stood := { row := munchedUptoRow, standIns := [], harness := (true, "800661e012b56fe53915191adfc0628d15bb71f5813f9b752b910074bac104bc"), looks := true }, kinds := [], alts := [], laidByText := true, laidKinds := [.data, .data, .data, .data], laidTests := true, laidLooks := .later }
def MunchedUptoCardSaid : Prop := Claim7.holds Tryz.pinned (.plain (OpenSpec.upto munchedSpec)) munchedUptoCard

/-- THE SECOND FORM's CARD OF 'yarrowkeep.Selected'. -/
def selectedUptoCard : Claim7 := { stood := { row := selectedUptoRow, standIns := [], harness := (true, "800661e012b56fe53915191adfc0628d15bb71f5813f9b752b910074bac104bc"), looks := true }, kinds := [], alts := [], laidByText := true, laidKinds := [.data, .data, .data, .data, .data, .pinned], laidTests := true, laidLooks := .later }
def SelectedUptoCardSaid : Prop := Claim7.holds Tryz.pinned (.plain (OpenSpec.upto selectedSpec)) selectedUptoCard

/-- THE SECOND FORM's CARD OF 'yarrowkeep.Known'. -/
def knownUptoCard : Claim7 := { stood := { row := knownUptoRow, standIns := [], harness := (true, "800661e012b56fe53915191adfc0628d15bb71f5813f9b752b910074bac104bc"), looks := true }, kinds := [], alts := [], laidByText := true, laidKinds := [.data, .data, .data, .data, .data, .pinned], laidTests := true, laidLooks := .later }
def KnownUptoCardSaid : Prop := Claim7.holds Tryz.pinned (.plain (OpenSpec.upto knownSpec)) knownUptoCard
end Rows
end Go.Proofs.YtnfojonmohijpabGreatDoor
