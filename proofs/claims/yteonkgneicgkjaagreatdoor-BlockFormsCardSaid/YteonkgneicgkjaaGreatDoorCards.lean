/-
  DERIVED. GIVEN WITH THE SEED: THE CARDS: each row of YteonkgneicgkjaaGreatDoorRows.lean that lists a variable, with what it lists TIED to the program's text (the seventh form; the later family's looks); each row that meets fmt, with fmt's text TOLD by the authors' own Lean function (tested against real Go, not proved from fmt's source: count such statements apart). THE CARD IS WHAT COUNTS. Prove the row's statement (the work); the ties are given (YteonkgneicgkjaaGreatDoorTie.lean); close each card by the builder's one call (the guide's Derived/Test/ToyasCard.lean, 'card_holds'). Laid BY PROGRAM, IN A SANDBOX (cutbox-door.mjs). By AI agents, Wed Nov 11 2026. No macro, syntax, notation, axiom, sorry.
-/
import Derived.Test.YteonkgneicgkjaaGreatDoorRows
import GoSem.ClaimSeven
namespace Go.Proofs.YteonkgneicgkjaaGreatDoor
namespace Rows

/-- THE TIED CARD OF 'scriptoriumlaw07.BlockLines'. -/
def blockLinesCard : Claim7 := { stood := { row := blockLinesRow, standIns := [], harness := (true, "1726e1ebc356a060c266ba4513fe7643dbfec8d0408ef2104e9e36fd72b49cbf"), looks := true }, kinds := [], alts := [], laidByText := true, laidKinds := [.data, .pinned, .pinned], laidTests := true, laidLooks := .later }
def BlockLinesCardSaid : Prop := Claim7.holds Tryz.pinned (.plain (OpenSpec.ofChange blockLinesSpec)) blockLinesCard

/-- THE TIED CARD OF 'scriptoriumlaw07.BlockQuotes'. -/
def blockQuotesCard : Claim7 := { stood := { row := blockQuotesRow, standIns := [], harness := (true, "1726e1ebc356a060c266ba4513fe7643dbfec8d0408ef2104e9e36fd72b49cbf"), looks := true }, kinds := [], alts := [], laidByText := true, laidKinds := [.data, .pinned, .pinned], laidTests := true, laidLooks := .later }
def BlockQuotesCardSaid : Prop := Claim7.holds Tryz.pinned (.plain (OpenSpec.ofChange blockQuotesSpec)) blockQuotesCard

/-- THE TIED CARD OF 'scriptoriumlaw07.BlockItems'. -/
def blockItemsCard : Claim7 := { stood := { row := blockItemsRow, standIns := [], harness := (true, "1726e1ebc356a060c266ba4513fe7643dbfec8d0408ef2104e9e36fd72b49cbf"), looks := true }, kinds := [], alts := [], laidByText := true, laidKinds := [.data, .pinned, .pinned], laidTests := true, laidLooks := .later }
def BlockItemsCardSaid : Prop := Claim7.holds Tryz.pinned (.plain (OpenSpec.ofChange blockItemsSpec)) blockItemsCard

/-- THE TIED CARD OF 'scriptoriumlaw07.BlockCode'. -/
def blockCodeCard : Claim7 := { stood := { row := blockCodeRow, standIns := [], harness := (true, "1726e1ebc356a060c266ba4513fe7643dbfec8d0408ef2104e9e36fd72b49cbf"), looks := true }, kinds := [], alts := [], laidByText := true, laidKinds := [.data, .pinned, .pinned], laidTests := true, laidLooks := .later }
def BlockCodeCardSaid : Prop := Claim7.holds Tryz.pinned (.plain (OpenSpec.ofChange blockCodeSpec)) blockCodeCard

/-- THE TIED CARD OF 'scriptoriumlaw07.BlockForms'. -/
def blockFormsCard : Claim7 := { stood := { row := blockFormsRow, standIns := [], harness := (true, "1726e1ebc356a060c266ba4513fe7643dbfec8d0408ef2104e9e36fd72b49cbf"), looks := true }, kinds := [], alts := [], laidByText := true, laidKinds := [.data, .pinned, .pinned], laidTests := true, laidLooks := .later }
def BlockFormsCardSaid : Prop := Claim7.holds Tryz.pinned (.plain (OpenSpec.ofChange blockFormsSpec)) blockFormsCard

/-- THE TIED CARD OF 'scriptoriumlaw07.BlockLists'. -/
def blockListsCard : Claim7 := { stood := { row := blockListsRow, standIns := [], harness := (true, "1726e1ebc356a060c266ba4513fe7643dbfec8d0408ef2104e9e36fd72b49cbf"), looks := true }, kinds := [], alts := [], laidByText := true, laidKinds := [.data, .pinned, .pinned], laidTests := true, laidLooks := .later }
def BlockListsCardSaid : Prop := Claim7.holds Tryz.pinned (.plain (OpenSpec.ofChange blockListsSpec)) blockListsCard

/-- THE SECOND FORM's CARD OF 'scriptoriumlaw07.BlockLines'. -/
def blockLinesUptoCard : Claim7 := { stood := { row := blockLinesUptoRow, standIns := [], harness := (true, "1726e1ebc356a060c266ba4513fe7643dbfec8d0408ef2104e9e36fd72b49cbf"), looks := true }, kinds := [], alts := [], laidByText := true, laidKinds := [.data, .pinned, .pinned], laidTests := true, laidLooks := .later }
def BlockLinesUptoCardSaid : Prop := Claim7.holds Tryz.pinned (.plain (OpenSpec.upto blockLinesSpec)) blockLinesUptoCard

/-- THE SECOND FORM's CARD OF 'scriptoriumlaw07.BlockQuotes'. -/
def blockQuotesUptoCard : Claim7 := { stood := { row := blockQuotesUptoRow, standIns := [], harness := (true, "1726e1ebc356a060c266ba4513fe7643dbfec8d0408ef2104e9e36fd72b49cbf"), looks := true }, kinds := [], alts := [], laidByText := true, laidKinds := [.data, .pinned, .pinned], laidTests := true, laidLooks := .later }
def BlockQuotesUptoCardSaid : Prop := Claim7.holds Tryz.pinned (.plain (OpenSpec.upto blockQuotesSpec)) blockQuotesUptoCard

/-- THE SECOND FORM's CARD OF 'scriptoriumlaw07.BlockItems'. -/
def blockItemsUptoCard : Claim7 := { stood := { row := blockItemsUptoRow, standIns := [], harness := (true, "1726e1ebc356a060c266ba4513fe7643dbfec8d0408ef2104e9e36fd72b49cbf"), looks := true }, kinds := [], alts := [], laidByText := true, laidKinds := [.data, .pinned, .pinned], laidTests := true, laidLooks := .later }
def BlockItemsUptoCardSaid : Prop := Claim7.holds Tryz.pinned (.plain (OpenSpec.upto blockItemsSpec)) blockItemsUptoCard

/-- THE SECOND FORM's CARD OF 'scriptoriumlaw07.BlockCode'. -/
def blockCodeUptoCard : Claim7 := { stood := { row := blockCodeUptoRow, standIns := [], harness := (true, "1726e1ebc356a060c266ba4513fe7643dbfec8d0408ef2104e9e36fd72b49cbf"), looks := true }, kinds := [], alts := [], laidByText := true, laidKinds := [.data, .pinned, .pinned], laidTests := true, laidLooks := .later }
def BlockCodeUptoCardSaid : Prop := Claim7.holds Tryz.pinned (.plain (OpenSpec.upto blockCodeSpec)) blockCodeUptoCard

/-- THE SECOND FORM's CARD OF 'scriptoriumlaw07.BlockForms'. -/
def blockFormsUptoCard : Claim7 := { stood := { row := blockFormsUptoRow, standIns := [], harness := (true, "1726e1ebc356a060c266ba4513fe7643dbfec8d0408ef2104e9e36fd72b49cbf"), looks := true }, kinds := [], alts := [], laidByText := true, laidKinds := [.data, .pinned, .pinned], laidTests := true, laidLooks := .later }
def BlockFormsUptoCardSaid : Prop := Claim7.holds Tryz.pinned (.plain (OpenSpec.upto blockFormsSpec)) blockFormsUptoCard

/-- THE SECOND FORM's CARD OF 'scriptoriumlaw07.BlockLists'. -/
def blockListsUptoCard : Claim7 := { stood := { row := blockListsUptoRow, standIns := [], harness := (true, "1726e1ebc356a060c266ba4513fe7643dbfec8d0408ef2104e9e36fd72b49cbf"), looks := true }, kinds := [], alts := [], laidByText := true, laidKinds := [.data, .pinned, .pinned], laidTests := true, laidLooks := .later }
def BlockListsUptoCardSaid : Prop := Claim7.holds Tryz.pinned (.plain (OpenSpec.upto blockListsSpec)) blockListsUptoCard
end Rows
end Go.Proofs.YteonkgneicgkjaaGreatDoor
