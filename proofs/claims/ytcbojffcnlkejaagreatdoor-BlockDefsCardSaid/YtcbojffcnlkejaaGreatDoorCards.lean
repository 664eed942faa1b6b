/-
  DERIVED. GIVEN WITH THE SEED: THE CARDS: each row of YtcbojffcnlkejaaGreatDoorRows.lean that lists a variable, with what it lists TIED to the program's text (the seventh form; the later family's looks); each row that meets fmt, with fmt's text TOLD by the authors' own Lean function (tested against real Go, not proved from fmt's source: count such statements apart). THE CARD IS WHAT COUNTS. Prove the row's statement (the work); the ties are given (YtcbojffcnlkejaaGreatDoorTie.lean); close each card by the builder's one call (the guide's Derived/Test/ToyasCard.lean, 'card_holds'). Laid BY PROGRAM, IN A SANDBOX (cutbox-door.mjs). By AI agents, Wed Nov 11 2026. No macro, syntax, notation, axiom, sorry.
-/
import Derived.Test.YtcbojffcnlkejaaGreatDoorRows
import GoSem.ClaimSeven
namespace Go.Proofs.YtcbojffcnlkejaaGreatDoor
namespace Rows

/-- THE TIED CARD OF 'scriptoriumlaw07.BlockItems'. -/
def blockItemsCard : Claim7 := { stood := { row := blockItemsRow, standIns := [], harness := (true, "096cde913404a42005aa89a1c9982ebb6b4e29db43c55d47595721cdd029faf5"), looks := true }, kinds := [], alts := [], laidByText := true, laidKinds := [.data, .pinned, .pinned], laidTests := true, laidLooks := .later }
def BlockItemsCardSaid : Prop := Claim7.holds Tryz.pinned (.plain (OpenSpec.ofChange blockItemsSpec)) blockItemsCard

/-- THE TIED CARD OF 'scriptoriumlaw07.BlockLists'. -/
def blockListsCard : Claim7 := { stood := { row := blockListsRow, standIns := [], harness := (true, "096cde913404a42005aa89a1c9982ebb6b4e29db43c55d47595721cdd029faf5"), looks := true }, kinds := [], alts := [], laidByText := true, laidKinds := [.data, .pinned, .pinned], laidTests := true, laidLooks := .later }
def BlockListsCardSaid : Prop := Claim7.holds Tryz.pinned (.plain (OpenSpec.ofChange blockListsSpec)) blockListsCard

/-- THE TIED CARD OF 'scriptoriumlaw07.BlockDefs'. -/
def blockDefsCard : Claim7 := { stood := { row := blockDefsRow, standIns := [], harness := (true, "096cde913404a42005aa89a1c9982ebb6b4e29db43c55d47595721cdd029faf5"), looks := true }, kinds := [], alts := [], laidByText := true, laidKinds := [.data, .pinned, .pinned], laidTests := true, laidLooks := .later }
def BlockDefsCardSaid : Prop := Claim7.holds Tryz.pinned (.plain (OpenSpec.ofChange blockDefsSpec)) blockDefsCard

/-- THE TIED CARD OF 'scriptoriumlaw07.BlockHeads'. -/
def blockHeadsCard : Claim7 := { stood := { row := blockHeadsRow, standIns := [], harness := (true, "096cde913404a42005aa89a1c9982ebb6b4e29db43c55d47595721cdd029faf5"), looks := true }, kinds := [], alts := [], laidByText := true, laidKinds := [.data, .pinned, .pinned], laidTests := true, laidLooks := .later }
def BlockHeadsCardSaid : Prop := Claim7.holds Tryz.pinned (.plain (OpenSpec.ofChange blockHeadsSpec)) blockHeadsCard

/-- THE SECOND FORM's CARD OF 'scriptoriumlaw07.BlockItems'. -/
def blockItemsUptoCard : Claim7 := { stood := { row := blockItemsUptoRow, standIns := [], harness := (true, "096cde913404a42005aa89a1c9982ebb6b4e29db43c55d47595721cdd029faf5"), looks := true }, kinds := [], alts := [], laidByText := true, laidKinds := [.data, .pinned, .pinned], laidTests := true, laidLooks := .later }
def BlockItemsUptoCardSaid : Prop := Claim7.holds Tryz.pinned (.plain (OpenSpec.upto blockItemsSpec)) blockItemsUptoCard

/-- THE SECOND FORM's CARD OF 'scriptoriumlaw07.BlockLists'. -/
def blockListsUptoCard : Claim7 := { stood := { row := blockListsUptoRow, standIns := [], harness := (true, "096cde913404a42005aa89a1c9982ebb6b4e29db43c55d47595721cdd029faf5"), looks := true }, kinds := [], alts := [], laidByText := true, laidKinds := [.data, .pinned, .pinned], laidTests := true, laidLooks := .later }
def BlockListsUptoCardSaid : Prop := Claim7.holds Tryz.pinned (.plain (OpenSpec.upto blockListsSpec)) blockListsUptoCard

/-- THE SECOND FORM's CARD OF 'scriptoriumlaw07.BlockDefs'. -/
def blockDefsUptoCard : Claim7 := { stood := { row := blockDefsUptoRow, standIns := [], harness := (true, "096cde913404a42005aa89a1c9982ebb6b4e29db43c55d47595721cdd029faf5"), looks := true }, kinds := [], alts := [], laidByText := true, laidKinds := [.data, .pinned, .pinned], laidTests := true, laidLooks := .later }
def BlockDefsUptoCardSaid : Prop := Claim7.holds Tryz.pinned (.plain (OpenSpec.upto blockDefsSpec)) blockDefsUptoCard

/-- THE SECOND FORM's CARD OF 'scriptoriumlaw07.BlockHeads'. -/
def blockHeadsUptoCard : Claim7 := { stood := { row := blockHeadsUptoRow, standIns := [], harness := (true, "096cde913404a42005aa89a1c9982ebb6b4e29db43c55d47595721cdd029faf5"), looks := true }, kinds := [], alts := [], laidByText := true, laidKinds := [.data, .pinned, .pinned], laidTests := true, laidLooks := .later }
def BlockHeadsUptoCardSaid : Prop := Claim7.holds Tryz.pinned (.plain (OpenSpec.upto blockHeadsSpec)) blockHeadsUptoCard
end Rows
end Go.Proofs.YtcbojffcnlkejaaGreatDoor
