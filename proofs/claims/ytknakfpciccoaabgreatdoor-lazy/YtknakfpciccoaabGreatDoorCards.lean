/-
  DERIVED. GIVEN WITH THE SEED: THE CARDS: each row of YtknakfpciccoaabGreatDoorRows.lean that lists a variable, with what it lists TIED to the program's text (the seventh form; the later family's looks); each row that meets fmt, with fmt's text TOLD by the authors' own Lean function (tested against real Go, not proved from fmt's source: count such statements apart). THE CARD IS WHAT COUNTS. Prove the row's statement (the work); the ties are given (YtknakfpciccoaabGreatDoorTie.lean); close each card by the builder's one call (the guide's Derived/Test/ToyasCard.lean, 'card_holds'). Laid BY PROGRAM, IN A SANDBOX (cutbox-door.mjs). By AI agents, Wed Nov 11 2026. No macro, syntax, notation, axiom, sorry.
-/
import Derived.Test.YtknakfpciccoaabGreatDoorRows
import GoSem.ClaimSeven
namespace Go.Proofs.YtknakfpciccoaabGreatDoor
namespace Rows

/-- THE TIED CARD OF 'sheafkeep.Sorted'. -/
def sortedCard : Claim7 := { stood := { row := sortedRow, standIns := [], harness := (true, "f1312fd203ad9f976dba19b631e92779953719299d0590747d5bf9cdc6f25b71"), looks := true }, kinds := [], alts := [], laidByText := true, laidKinds := [.data, .data, .data, .data, .sentinel, .sentinel, .pinned], laidTests := true, laidLooks := .later }
def SortedCardSaid : Prop := Claim7.holds Tryz.pinned (.plain (OpenSpec.ofChange sortedSpec)) sortedCard

/-- THE TIED CARD OF 'sheafkeep.Summed'. -/
def summedCard : Claim7 := { stood := { row := summedRow, standIns := [], harness := (true, "f1312fd203ad9f976dba19b631e92779953719299d0590747d5bf9cdc6f25b71"), looks := true }, kinds := [], alts := [], laidByText := true, laidKinds := [.data, .data, .data, .data, .sentinel, .sentinel, .pinned], laidTests := true, laidLooks := .later }
def SummedCardSaid : Prop := Claim7.holds Tryz.pinned (.plain (OpenSpec.ofChange summedSpec)) summedCard

/-- THE TIED CARD OF 'sheafkeep.Lazy'. -/
def lazyCard : Claim7 := { stood := { row := lazyRow, standIns := [], harness := (true, "f1312fd203ad9f976dba19b631e92779953719299d0590747d5bf9cdc6f25b71"), looks := true }, kinds := [], alts := [], laidByText := true, laidKinds := [.data, .data, .data, .data, .sentinel, .sentinel, .pinned], laidTests := true, laidLooks := .later }
def LazyCardSaid : Prop := Claim7.holds Tryz.pinned (.plain (OpenSpec.ofChange lazySpec)) lazyCard

/-- THE TIED CARD OF 'sheafkeep.Unwound'. -/
def unwoundCard : Claim7 := { stood := { row := unwoundRow, standIns := [], harness := (true, "f1312fd203ad9f976dba19b631e92779953719299d0590747d5bf9cdc6f25b71"), looks := true }, kinds := [], alts := [], laidByText := true, laidKinds := [.data, .data, .data, .data, .sentinel, .sentinel, .pinned], laidTests := true, laidLooks := .later }
def UnwoundCardSaid : Prop := Claim7.holds Tryz.pinned (.plain (OpenSpec.ofChange unwoundSpec)) unwoundCard

/-- THE SECOND FORM's CARD OF 'sheafkeep.Sorted'. -/
def sortedUptoCard : Claim7 := { stood := { row := sortedUptoRow, standIns := [], harness := (true, "f1312fd203ad9f976dba19b631e92779953719299d0590747d5bf9cdc6f25b71"), looks := true }, kinds := [], alts := [], laidByText := true, laidKinds := [.data, .data, .data, .data, .sentinel, .sentinel, .pinned], laidTests := true, laidLooks := .later }
def SortedUptoCardSaid : Prop := Claim7.holds Tryz.pinned (.plain (OpenSpec.upto sortedSpec)) sortedUptoCard

/-- THE SECOND FORM's CARD OF 'sheafkeep.Summed'. -/
def summedUptoCard : Claim7 := { stood := { row := summedUptoRow, standIns := [], harness := (true, "f1312fd203ad9f976dba19b631e92779953719299d0590747d5bf9cdc6f25b71"), looks := true }, kinds := [], alts := [], laidByText := true, laidKinds := [.data, .data, .data, .data, .sentinel, .sentinel, .pinned], laidTests := true, laidLooks := .later }
def SummedUptoCardSaid : Prop := Claim7.holds Tryz.pinned (.plain (OpenSpec.upto summedSpec)) summedUptoCard

/-- THE SECOND FORM's CARD OF 'sheafkeep.Lazy'. -/
def lazyUptoCard : Claim7 := { stood := { row := lazyUptoRow, standIns := [], harness := (true, "f1312fd203ad9f976dba19b631e92779953719299d0590747d5bf9cdc6f25b71"), looks := true }, kinds := [], alts := [], laidByText := true, laidKinds := [.data, .data, .data, .data, .sentinel, .sentinel, .pinned], laidTests := true, laidLooks := .later }
def LazyUptoCardSaid : Prop := Claim7.holds Tryz.pinned (.plain (OpenSpec.upto lazySpec)) lazyUptoCard

/-- THE SECOND FORM's CARD OF 'sheafkeep.Unwound'. -/
def unwoundUptoCard : Claim7 := { stood := { row := unwoundUptoRow, standIns := [], harness := (true, "f1312fd203ad9f976dba19b631e92779953719299d0590747d5bf9cdc6f25b71"), looks := true }, kinds := [], alts := [], laidByText := true, laidKinds := [.data, .data, .data, .data, .sentinel, .sentinel, .pinned], laidTests := true, laidLooks := .later }
def UnwoundUptoCardSaid : Prop := Claim7.holds Tryz.pinned (.plain (OpenSpec.upto unwoundSpec)) unwoundUptoCard
end Rows
end Go.Proofs.YtknakfpciccoaabGreatDoor
