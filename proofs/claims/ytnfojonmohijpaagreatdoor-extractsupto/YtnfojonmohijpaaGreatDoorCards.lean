/-
  DERIVED. GIVEN WITH THE SEED: THE CARDS: each row of YtnfojonmohijpaaGreatDoorRows.lean that lists a variable, with what it lists TIED to the program's text (the seventh form; the later family's looks); each row that meets fmt, with fmt's text TOLD by the authors' own Lean function (tested against real Go, not proved from fmt's source: count such statements apart). THE CARD IS WHAT COUNTS. Prove the row's statement (the work); the ties are given (YtnfojonmohijpaaGreatDoorTie.lean); close each card by the builder's one call (the guide's Derived/Test/ToyasCard.lean, 'card_holds'). Laid BY PROGRAM, IN A SANDBOX (cutbox-door.mjs). By AI agents, Wed Nov 11 2026. No macro, syntax, notation, axiom, sorry.
-/
import Derived.Test.YtnfojonmohijpaaGreatDoorRows
import GoSem.ClaimSeven
namespace Go.Proofs.YtnfojonmohijpaaGreatDoor
namespace Rows

/-- THE TIED CARD OF 'yarrowlaw.Plains'. -/
def plainsCard : Claim7 := { stood := { row := plainsRow, standIns := [], harness := (true, "3969d867ba051e7378f48f06f4102c5b58184871ad748235cb29629b5e458aca"), looks := true }, kinds := [], alts := [], laidByText := true, laidKinds := [.data, .data, .data, .data], laidTests := true, laidLooks := .later }
def PlainsCardSaid : Prop := Claim7.holds Tryz.pinned (.plain (OpenSpec.ofChange plainsSpec)) plainsCard

/-- THE TIED CARD OF 'yarrowlaw.Matches'. -/
def matchesCard : Claim7 := { stood := { row := matchesRow, standIns := [], harness := (true, "3969d867ba051e7378f48f06f4102c5b58184871ad748235cb29629b5e458aca"), looks := true }, kinds := [], alts := [], laidByText := true, laidKinds := [.data, .data, .data, .data], laidTests := true, laidLooks := .later }
def MatchesCardSaid : Prop := Claim7.holds Tryz.pinned (.plain (OpenSpec.ofChange matchesSpec)) matchesCard

/-- THE TIED CARD OF 'yarrowlaw.Trees'. -/
def treesCard : Claim7 := { stood := { row := treesRow, standIns := [], harness := (true, "3969d867ba051e7378f48f06f4102c5b58184871ad748235cb29629b5e458aca"), looks := true }, kinds := [], alts := [], laidByText := true, laidKinds := [.data], laidTests := true, laidLooks := .later }
def TreesCardSaid : Prop := Claim7.holds Tryz.pinned (.plain (OpenSpec.ofChange treesSpec)) treesCard

/-- THE TIED CARD OF 'yarrowlaw.Searches'. -/
def searchesCard : Claim7 := { stood := { row := searchesRow, standIns := [], harness := (true, "3969d867ba051e7378f48f06f4102c5b58184871ad748235cb29629b5e458aca"), looks := true }, kinds := [], alts := [], laidByText := true, laidKinds := [.data], laidTests := true, laidLooks := .later }
def SearchesCardSaid : Prop := Claim7.holds Tryz.pinned (.plain (OpenSpec.ofChange searchesSpec)) searchesCard

/-- THE TIED CARD OF 'yarrowlaw.Tokened'. -/
def tokenedCard : Claim7 := { stood := { row := tokenedRow, standIns := [], harness := (true, "3969d867ba051e7378f48f06f4102c5b58184871ad748235cb29629b5e458aca"), looks := true }, kinds := [], alts := [], laidByText := true, laidKinds := [.data], laidTests := true, laidLooks := .later }
def TokenedCardSaid : Prop := Claim7.holds Tryz.pinned (.plain (OpenSpec.ofChange tokenedSpec)) tokenedCard

/-- THE TIED CARD OF 'yarrowlaw.Extracts'. -/
def extractsCard : Claim7 := { stood := { row := extractsRow, standIns := [], harness := (true, "3969d867ba051e7378f48f06f4102c5b58184871ad748235cb29629b5e458aca"), looks := true }, kinds := [], alts := [], laidByText := true, laidKinds := [.data, .data, .data, .data, .data, .pinned], laidTests := true, laidLooks := .later }
def ExtractsCardSaid : Prop := Claim7.holds Tryz.pinned (.plain (OpenSpec.ofChange extractsSpec)) extractsCard

/-- THE TIED CARD OF 'yarrowlaw.All'. -/
def allCard : Claim7 := { stood := { row := allRow, standIns := [], harness := (true, "3969d867ba051e7378f48f06f4102c5b58184871ad748235cb29629b5e458aca"), looks := true }, kinds := [], alts := [], laidByText := true, laidKinds := [.data, .data, .data, .data, .data, .pinned], laidTests := true, laidLooks := .later }
def AllCardSaid : Prop := Claim7.holds Tryz.pinned (.plain (OpenSpec.ofChange allSpec)) allCard

/-- THE TIED CARD OF 'yarrowkeep.Fitted'. -/
def fittedCard : Claim7 := { stood := { row := fittedRow, standIns := [], harness := (true, "3969d867ba051e7378f48f06f4102c5b58184871ad748235cb29629b5e458aca"), looks := true }, kinds := [], alts := [], laidByText := true, laidKinds := [.data, .data, .data, .data], laidTests := true, laidLooks := .later }
def FittedCardSaid : Prop := Claim7.holds Tryz.pinned (.plain (OpenSpec.ofChange fittedSpec)) fittedCard

/-- THE TIED CARD OF 'yarrowkeep.Joined'. -/
def joinedCard : Claim7 := { stood := { row := joinedRow, standIns := [], harness := (true, "3969d867ba051e7378f48f06f4102c5b58184871ad748235cb29629b5e458aca"), looks := true }, kinds := [], alts := [], laidByText := true, laidKinds := [.data, .data, .data, .data], laidTests := true, laidLooks := .later }
def JoinedCardSaid : Prop := Claim7.holds Tryz.pinned (.plain (OpenSpec.ofChange joinedSpec)) joinedCard

/-- THE TIED CARD OF 'yarrowkeep.Repeated'. -/
def repeatedCard : Claim7 := { stood := { row := repeatedRow, standIns := [], harness := (true, "3969d867ba051e7378f48f06f4102c5b58184871ad748235cb29629b5e458aca"), looks := true }, kinds := [], alts := [], laidByText := true, laidKinds := [.data, .data, .data, .data], laidTests := true, laidLooks := .later }
def RepeatedCardSaid : Prop := Claim7.holds Tryz.pinned (.plain (OpenSpec.ofChange repeatedSpec)) repeatedCard

/-- THE TIED CARD OF 'yarrowkeep.Found'. -/
def foundCard : Claim7 := { stood := { row := foundRow, standIns := [], harness := (true, "3969d867ba051e7378f48f06f4102c5b58184871ad748235cb29629b5e458aca"), looks := true }, kinds := [], alts := [], laidByText := true, laidKinds := [.data, .data, .data, .data], laidTests := true, laidLooks := .later }
def FoundCardSaid : Prop := Claim7.holds Tryz.pinned (.plain (OpenSpec.ofChange foundSpec)) foundCard

/-- THE TIED CARD OF 'yarrowkeep.Marked'. -/
def markedCard : Claim7 := { stood := { row := markedRow, standIns := [], harness := (true, "3969d867ba051e7378f48f06f4102c5b58184871ad748235cb29629b5e458aca"), looks := true }, kinds := [], alts := [], laidByText := true, laidKinds := [.data, .data, .data, .data], laidTests := true, laidLooks := .later }
def MarkedCardSaid : Prop := Claim7.holds Tryz.pinned (.plain (OpenSpec.ofChange markedSpec)) markedCard

/-- THE SECOND FORM's CARD OF 'yarrowlaw.Plains'. -/
def plainsUptoCard : Claim7 := { stood := { row := plainsUptoRow, standIns := [], harness := (true, "3969d867ba051e7378f48f06f4102c5b58184871ad748235cb29629b5e458aca"), looks := true }, kinds := [], alts := [], laidByText := true, laidKinds := [.data, .data, .data, .data], laidTests := true, laidLooks := .later }
def PlainsUptoCardSaid : Prop := Claim7.holds Tryz.pinned (.plain (OpenSpec.upto plainsSpec)) plainsUptoCard

/-- THE SECOND FORM's CARD OF 'yarrowlaw.Matches'. -/
def matchesUptoCard : Claim7 := { stood := { row := matchesUptoRow, standIns := [], harness := (true, "3969d867ba051e7378f48f06f4102c5b58184871ad748235cb29629b5e458aca"), looks := true }, kinds := [], alts := [], laidByText := true, laidKinds := [.data, .data, .data, .data], laidTests := true, laidLooks := .later }
def MatchesUptoCardSaid : Prop := Claim7.holds Tryz.pinned (.plain (OpenSpec.upto matchesSpec)) matchesUptoCard

/-- THE SECOND FORM's CARD OF 'yarrowlaw.Trees'. -/
def treesUptoCard : Claim7 := { stood := { row := treesUptoRow, standIns := [], harness := (true, "3969d867ba051e7378f48f06f4102c5b58184871ad748235cb29629b5e458aca"), looks := true }, kinds := [], alts := [], laidByText := true, laidKinds := [.data], laidTests := true, laidLooks := .later }
def TreesUptoCardSaid : Prop := Claim7.holds Tryz.pinned (.plain (OpenSpec.upto treesSpec)) treesUptoCard

/-- THE SECOND FORM's CARD OF 'yarrowlaw.Searches'. -/
def searchesUptoCard : Claim7 := { stood := { row := searchesUptoRow, standIns := [], harness := (true, "3969d867ba051e7378f48f06f4102c5b58184871ad748235cb29629b5e458aca"), looks := true }, kinds := [], alts := [], laidByText := true, laidKinds := [.data], laidTests := true, laidLooks := .later }
def SearchesUptoCardSaid : Prop := Claim7.holds Tryz.pinned (.plain (OpenSpec.upto searchesSpec)) searchesUptoCard

/-- THE SECOND FORM's CARD OF 'yarrowlaw.Tokened'. -/
def tokenedUptoCard : Claim7 := { stood := { row := tokenedUptoRow, standIns := [], harness := (true, "3969d867ba051e7378f48f06f4102c5b58184871ad748235cb29629b5e458aca"), looks := true }, kinds := [], alts := [], laidByText := true, laidKinds := [.data], laidTests := true, laidLooks := .later }
def TokenedUptoCardSaid : Prop := Claim7.holds Tryz.pinned (.plain (OpenSpec.upto tokenedSpec)) tokenedUptoCard

/-- THE SECOND FORM's CARD OF 'yarrowlaw.Extracts'. -/
def extractsUptoCard : Claim7 := { stood := { row := extractsUptoRow, standIns := [], harness := (true, "3969d867ba051e7378f48f06f4102c5b58184871ad748235cb29629b5e458aca"), looks := true }, kinds := [], alts := [], laidByText := true, laidKinds := [.data, .data, .data, .data, .data, .pinned], laidTests := true, laidLooks := .later }
def ExtractsUptoCardSaid : Prop := Claim7.holds Tryz.pinned (.plain (OpenSpec.upto extractsSpec)) extractsUptoCard

/-- THE SECOND FORM's CARD OF 'yarrowlaw.All'. -/
def allUptoCard : Claim7 := { stood := { row := allUptoRow, standIns := [], harness := (true, "3969d867ba051e7378f48f06f4102c5b58184871ad748235cb29629b5e458aca"), looks := true }, kinds := [], alts := [], laidByText := true, laidKinds := [.data, .data, .data, .data, .data, .pinned], laidTests := true, laidLooks := .later }
def AllUptoCardSaid : Prop := Claim7.holds Tryz.pinned (.plain (OpenSpec.upto allSpec)) allUptoCard

/-- THE SECOND FORM's CARD OF 'yarrowkeep.Fitted'. -/
def fittedUptoCard : Claim7 := { stood := { row := fittedUptoRow, standIns := [], harness := (true, "3969d867ba051e7378f48f06f4102c5b58184871ad748235cb29629b5e458aca"), looks := true }, kinds := [], alts := [], laidByText := true, laidKinds := [.data, .data, .data, .data], laidTests := true, laidLooks := .later }
def FittedUptoCardSaid : Prop := Claim7.holds Tryz.pinned (.plain (OpenSpec.upto fittedSpec)) fittedUptoCard

/-- THE SECOND FORM's CARD OF 'yarrowkeep.Joined'. -/
def joinedUptoCard : Claim7 := { stood := { row := joinedUptoRow, standIns := [], harness := (true, "3969d867ba051e7378f48f06f4102c5b58184871ad748235cb29629b5e458aca"), looks := true }, kinds := [], alts := [], laidByText := true, laidKinds := [.data, .data, .data, .data], laidTests := true, laidLooks := .later }
def JoinedUptoCardSaid : Prop := Claim7.holds Tryz.pinned (.plain (OpenSpec.upto joinedSpec)) joinedUptoCard

/-- THE SECOND FORM's CARD OF 'yarrowkeep.Repeated'. -/
def repeatedUptoCard : Claim7 := { stood := { row := repeatedUptoRow, standIns := [], harness := (true, "3969d867ba051e7378f48f06f4102c5b58184871ad748235cb29629b5e458aca"), looks := true }, kinds := [], alts := [], laidByText := true, laidKinds := [.data, .data, .data, .data], laidTests := true, laidLooks := .later }
def RepeatedUptoCardSaid : Prop := Claim7.holds Tryz.pinned (.plain (OpenSpec.upto repeatedSpec)) repeatedUptoCard

/-- THE SECOND FORM's CARD OF 'yarrowkeep.Found'. -/
def foundUptoCard : Claim7 := { stood := { row := foundUptoRow, standIns := [], harness := (true, "3969d867ba051e7378f48f06f4102c5b58184871ad748235cb29629b5e458aca"), looks := true }, kinds := [], alts := [], laidByText := true, laidKinds := [.data, .data, .data, .data], laidTests := true, laidLooks := .later }
def FoundUptoCardSaid : Prop := Claim7.holds Tryz.pinned (.plain (OpenSpec.upto foundSpec)) foundUptoCard

/-- THE SECOND FORM's CARD OF 'yarrowkeep.Marked'. -/
def markedUptoCard : Claim7 := { stood := { row := markedUptoRow, standIns := [], harness := (true, "3969d867ba051e7378f48f06f4102c5b58184871ad748235cb29629b5e458aca"), looks := true }, kinds := [], alts := [], laidByText := true, laidKinds := [.data, .data, .data, .data], laidTests := true, laidLooks := .later }
def MarkedUptoCardSaid : Prop := Claim7.holds Tryz.pinned (.plain (OpenSpec.upto markedSpec)) markedUptoCard
end Rows
end Go.Proofs.YtnfojonmohijpaaGreatDoor
