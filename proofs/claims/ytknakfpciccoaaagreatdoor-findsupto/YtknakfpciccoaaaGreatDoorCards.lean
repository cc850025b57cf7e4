/-
  DERIVED. GIVEN WITH THE SEED: THE CARDS: each row of YtknakfpciccoaaaGreatDoorRows.lean that lists a variable, with what it lists TIED to the program's text (the seventh form; the later family's looks); each row that meets fmt, with fmt's text TOLD by the authors' own Lean function (tested against real Go, not proved from fmt's source: count such statements apart). THE CARD IS WHAT COUNTS. Prove the row's statement (the work); the ties are given (YtknakfpciccoaaaGreatDoorTie.lean); close each card by the builder's one call (the guide's Derived/Test/ToyasCard.lean, 'card_holds'). Laid BY PROGRAM, IN A SANDBOX (cutbox-door.mjs). By AI agents, Wed Nov 11 2026. No macro, syntax, notation, axiom, sorry.
-/
import Derived.Test.YtknakfpciccoaaaGreatDoorRows
import GoSem.ClaimSeven
namespace Go.Proofs.YtknakfpciccoaaaGreatDoor
namespace Rows

/-- THE TIED CARD OF 'sheaflaw.Prints'. -/
def printsCard : Claim7 := { stood := { row := printsRow, standIns := [], harness := (true, "332215c9a16b350d6c68b17fbf771994415d40d63f3aff71334bac6b8e44dbee"), looks := true }, kinds := [], alts := [], laidByText := true, laidKinds := [.data, .data, .data, .data, .sentinel, .sentinel, .pinned], laidTests := true, laidLooks := .later }
def PrintsCardSaid : Prop := Claim7.holds Tryz.pinned (.plain (OpenSpec.ofChange printsSpec)) printsCard

/-- THE TIED CARD OF 'sheaflaw.Encodes'. -/
def encodesCard : Claim7 := { stood := { row := encodesRow, standIns := [], harness := (true, "332215c9a16b350d6c68b17fbf771994415d40d63f3aff71334bac6b8e44dbee"), looks := true }, kinds := [], alts := [], laidByText := true, laidKinds := [.data, .data, .data, .data, .sentinel, .sentinel, .pinned], laidTests := true, laidLooks := .later }
def EncodesCardSaid : Prop := Claim7.holds Tryz.pinned (.plain (OpenSpec.ofChange encodesSpec)) encodesCard

/-- THE TIED CARD OF 'sheaflaw.Finds'. -/
def findsCard : Claim7 := { stood := { row := findsRow, standIns := [], harness := (true, "332215c9a16b350d6c68b17fbf771994415d40d63f3aff71334bac6b8e44dbee"), looks := true }, kinds := [], alts := [], laidByText := true, laidKinds := [.data, .data, .data, .data, .sentinel, .sentinel, .pinned], laidTests := true, laidLooks := .later }
def FindsCardSaid : Prop := Claim7.holds Tryz.pinned (.plain (OpenSpec.ofChange findsSpec)) findsCard

/-- THE TIED CARD OF 'sheaflaw.All'. -/
def allCard : Claim7 := { stood := { row := allRow, standIns := [], harness := (true, "332215c9a16b350d6c68b17fbf771994415d40d63f3aff71334bac6b8e44dbee"), looks := true }, kinds := [], alts := [], laidByText := true, laidKinds := [.data, .data, .data, .data, .sentinel, .sentinel, .pinned], laidTests := true, laidLooks := .later }
def AllCardSaid : Prop := Claim7.holds Tryz.pinned (.plain (OpenSpec.ofChange allSpec)) allCard

/-- THE TIED CARD OF 'sheafkeep.Texts'. -/
def textsCard : Claim7 := { stood := { row := textsRow, standIns := [], harness := (true, "332215c9a16b350d6c68b17fbf771994415d40d63f3aff71334bac6b8e44dbee"), looks := true }, kinds := [], alts := [], laidByText := true, laidKinds := [.data, .data, .data, .data, .sentinel, .sentinel, .pinned], laidTests := true, laidLooks := .later }
def TextsCardSaid : Prop := Claim7.holds Tryz.pinned (.plain (OpenSpec.ofChange textsSpec)) textsCard

/-- THE TIED CARD OF 'sheafkeep.Opposite'. -/
def oppositeCard : Claim7 := { stood := { row := oppositeRow, standIns := [], harness := (true, "332215c9a16b350d6c68b17fbf771994415d40d63f3aff71334bac6b8e44dbee"), looks := true }, kinds := [], alts := [], laidByText := true, laidKinds := [.data, .data, .data, .data, .sentinel, .sentinel, .pinned], laidTests := true, laidLooks := .later }
def OppositeCardSaid : Prop := Claim7.holds Tryz.pinned (.plain (OpenSpec.ofChange oppositeSpec)) oppositeCard

/-- THE TIED CARD OF 'sheafkeep.Deleted'. -/
def deletedCard : Claim7 := { stood := { row := deletedRow, standIns := [], harness := (true, "332215c9a16b350d6c68b17fbf771994415d40d63f3aff71334bac6b8e44dbee"), looks := true }, kinds := [], alts := [], laidByText := true, laidKinds := [.data, .data, .data, .data, .sentinel, .sentinel, .pinned], laidTests := true, laidLooks := .later }
def DeletedCardSaid : Prop := Claim7.holds Tryz.pinned (.plain (OpenSpec.ofChange deletedSpec)) deletedCard

/-- THE TIED CARD OF 'sheafkeep.Chained'. -/
def chainedCard : Claim7 := { stood := { row := chainedRow, standIns := [], harness := (true, "332215c9a16b350d6c68b17fbf771994415d40d63f3aff71334bac6b8e44dbee"), looks := true }, kinds := [], alts := [], laidByText := true, laidKinds := [.data, .data, .data, .data, .sentinel, .sentinel, .pinned], laidTests := true, laidLooks := .later }
def ChainedCardSaid : Prop := Claim7.holds Tryz.pinned (.plain (OpenSpec.ofChange chainedSpec)) chainedCard

/-- THE SECOND FORM's CARD OF 'sheaflaw.Prints'. -/
def printsUptoCard : Claim7 := { stood := { row := printsUptoRow, standIns := [], harness := (true, "332215c9a16b350d6c68b17fbf771994415d40d63f3aff71334bac6b8e44dbee"), looks := true }, kinds := [], alts := [], laidByText := true, laidKinds := [.data, .data, .data, .data, .sentinel, .sentinel, .pinned], laidTests := true, laidLooks := .later }
def PrintsUptoCardSaid : Prop := Claim7.holds Tryz.pinned (.plain (OpenSpec.upto printsSpec)) printsUptoCard

/-- THE SECOND FORM's CARD OF 'sheaflaw.Encodes'. -/
def encodesUptoCard : Claim7 := { stood := { row := encodesUptoRow, standIns := [], harness := (true, "332215c9a16b350d6c68b17fbf771994415d40d63f3aff71334bac6b8e44dbee"), looks := true }, kinds := [], alts := [], laidByText := true, laidKinds := [.data, .data, .data, .data, .sentinel, .sentinel, .pinned], laidTests := true, laidLooks := .later }
def EncodesUptoCardSaid : Prop := Claim7.holds Tryz.pinned (.plain (OpenSpec.upto encodesSpec)) encodesUptoCard

/-- THE SECOND FORM's CARD OF 'sheaflaw.Finds'. -/
def findsUptoCard : Claim7 := { stood := { row := findsUptoRow, standIns := [], harness := (true, "332215c9a16b350d6c68b17fbf771994415d40d63f3aff71334bac6b8e44dbee"), looks := true }, kinds := [], alts := [], laidByText := true, laidKinds := [.data, .data, .data, .data, .sentinel, .sentinel, .pinned], laidTests := true, laidLooks := .later }
def FindsUptoCardSaid : Prop := Claim7.holds Tryz.pinned (.plain (OpenSpec.upto findsSpec)) findsUptoCard

/-- THE SECOND FORM's CARD OF 'sheaflaw.All'. -/
def allUptoCard : Claim7 := { stood := { row := allUptoRow, standIns := [], harness := (true, "332215c9a16b350d6c68b17fbf771994415d40d63f3aff71334bac6b8e44dbee"), looks := true }, kinds := [], alts := [], laidByText := true, laidKinds := [.data, .data, .data, .data, .sentinel, .sentinel, .pinned], laidTests := true, laidLooks := .later }
def AllUptoCardSaid : Prop := Claim7.holds Tryz.pinned (.plain (OpenSpec.upto allSpec)) allUptoCard

/-- THE SECOND FORM's CARD OF 'sheafkeep.Texts'. -/
def textsUptoCard : Claim7 := { stood := { row := textsUptoRow, standIns := [], harness := (true, "332215c9a16b350d6c68b17fbf771994415d40d63f3aff71334bac6b8e44dbee"), looks := true }, kinds := [], alts := [], laidByText := true, laidKinds := [.data, .data, .data, .data, .sentinel, .sentinel, .pinned], laidTests := true, laidLooks := .later }
def TextsUptoCardSaid : Prop := Claim7.holds Tryz.pinned (.plain (OpenSpec.upto textsSpec)) textsUptoCard

/-- THE SECOND FORM's CARD OF 'sheafkeep.Opposite'. -/
def oppositeUptoCard : Claim7 := { stood := { row := oppositeUptoRow, standIns := [], harness := (true, "332215c9a16b350d6c68b17fbf771994415d40d63f3aff71334bac6b8e44dbee"), looks := true }, kinds := [], alts := [], laidByText := true, laidKinds := [.data, .data, .data, .data, .sentinel, .sentinel, .pinned], laidTests := true, laidLooks := .later }
def OppositeUptoCardSaid : Prop := Claim7.holds Tryz.pinned (.plain (OpenSpec.upto oppositeSpec)) oppositeUptoCard

/-- THE SECOND FORM's CARD OF 'sheafkeep.Deleted'. -/
def deletedUptoCard : Claim7 := { stood := { row := deletedUptoRow, standIns := [], harness := (true, "332215c9a16b350d6c68b17fbf771994415d40d63f3aff71334bac6b8e44dbee"), looks := true }, kinds := [], alts := [], laidByText := true, laidKinds := [.data, .data, .data, .data, .sentinel, .sentinel, .pinned], laidTests := true, laidLooks := .later }
def DeletedUptoCardSaid : Prop := Claim7.holds Tryz.pinned (.plain (OpenSpec.upto deletedSpec)) deletedUptoCard

/-- THE SECOND FORM's CARD OF 'sheafkeep.Chained'. -/
def chainedUptoCard : Claim7 := { stood := { row := chainedUptoRow, standIns := [], harness := (true, "332215c9a16b350d6c68b17fbf771994415d40d63f3aff71334bac6b8e44dbee"), looks := true }, kinds := [], alts := [], laidByText := true, laidKinds := [.data, .data, .data, .data, .sentinel, .sentinel, .pinned], laidTests := true, laidLooks := .later }
def ChainedUptoCardSaid : Prop := Claim7.holds Tryz.pinned (.plain (OpenSpec.upto chainedSpec)) chainedUptoCard
end Rows
end Go.Proofs.YtknakfpciccoaaaGreatDoor
