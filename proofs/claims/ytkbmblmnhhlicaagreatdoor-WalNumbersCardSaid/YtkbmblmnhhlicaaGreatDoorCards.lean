/-
  DERIVED. GIVEN WITH THE SEED: THE CARDS: each row of YtkbmblmnhhlicaaGreatDoorRows.lean that lists a variable, with what it lists TIED to the program's text (the seventh form; the later family's looks); each row that meets fmt, with fmt's text TOLD by the authors' own Lean function (tested against real Go, not proved from fmt's source: count such statements apart). THE CARD IS WHAT COUNTS. Prove the row's statement (the work); the ties are given (YtkbmblmnhhlicaaGreatDoorTie.lean); close each card by the builder's one call (the guide's Derived/Test/ToyasCard.lean, 'card_holds'). Laid BY PROGRAM, IN A SANDBOX (cutbox-door.mjs). By AI agents, Wed Nov 11 2026. No macro, syntax, notation, axiom, sorry.
-/
import Derived.Test.YtkbmblmnhhlicaaGreatDoorRows
import GoSem.ClaimSeven
namespace Go.Proofs.YtkbmblmnhhlicaaGreatDoor
namespace Rows

/-- THE TIED CARD OF 'scriptoriumlaw15.WalPlays'. -/
def walPlaysCard : Claim7 := { stood := { row := walPlaysRow, standIns := [], harness := (true, "2267af4d01050e9850ee5d53f486ccc4c04a8b8c319c2f1820b859af85ecc801"), looks := false }, kinds := [], alts := [], laidByText := true, laidKinds := [.data, .data, .data, .data], laidTests := true, laidLooks := .later }
def WalPlaysCardSaid : Prop := Claim7.holds Tryz.pinned (.plain (OpenSpec.ofChange walPlaysSpec)) walPlaysCard

/-- THE TIED CARD OF 'scriptoriumlaw15.WalNumbers'. -/
def walNumbersCard : Claim7 := { stood := { row := walNumbersRow, standIns := [], harness := (true, "2267af4d01050e9850ee5d53f486ccc4c04a8b8c319c2f1820b859af85ecc801"), looks := false }, kinds := [], alts := [], laidByText := true, laidKinds := [.data, .data, .data, .data], laidTests := true, laidLooks := .later }
def WalNumbersCardSaid : Prop := Claim7.holds Tryz.pinned (.plain (OpenSpec.ofChange walNumbersSpec)) walNumbersCard

/-- THE TIED CARD OF 'scriptoriumlaw16.StableAtomic'. -/
def stableAtomicCard : Claim7 := { stood := { row := stableAtomicRow, standIns := [], harness := (true, "2267af4d01050e9850ee5d53f486ccc4c04a8b8c319c2f1820b859af85ecc801"), looks := false }, kinds := [], alts := [], laidByText := true, laidKinds := [.data, .data, .data, .data], laidTests := true, laidLooks := .later }
def StableAtomicCardSaid : Prop := Claim7.holds Tryz.pinned (.plain (OpenSpec.ofChange stableAtomicSpec)) stableAtomicCard

/-- THE TIED CARD OF 'scriptoriumlaw16.StableBack'. -/
def stableBackCard : Claim7 := { stood := { row := stableBackRow, standIns := [], harness := (true, "2267af4d01050e9850ee5d53f486ccc4c04a8b8c319c2f1820b859af85ecc801"), looks := false }, kinds := [], alts := [], laidByText := true, laidKinds := [.data, .data, .data, .data], laidTests := true, laidLooks := .later }
def StableBackCardSaid : Prop := Claim7.holds Tryz.pinned (.plain (OpenSpec.ofChange stableBackSpec)) stableBackCard

/-- THE TIED CARD OF 'scriptoriumlaw16.StableSpoilt'. -/
def stableSpoiltCard : Claim7 := { stood := { row := stableSpoiltRow, standIns := [], harness := (true, "2267af4d01050e9850ee5d53f486ccc4c04a8b8c319c2f1820b859af85ecc801"), looks := false }, kinds := [], alts := [], laidByText := true, laidKinds := [.data, .data, .data, .data], laidTests := true, laidLooks := .later }
def StableSpoiltCardSaid : Prop := Claim7.holds Tryz.pinned (.plain (OpenSpec.ofChange stableSpoiltSpec)) stableSpoiltCard

/-- THE TIED CARD OF 'scriptoriumlaw16.StableSnaps'. -/
def stableSnapsCard : Claim7 := { stood := { row := stableSnapsRow, standIns := [], harness := (true, "2267af4d01050e9850ee5d53f486ccc4c04a8b8c319c2f1820b859af85ecc801"), looks := false }, kinds := [], alts := [], laidByText := true, laidKinds := [.data, .data, .data, .data], laidTests := true, laidLooks := .later }
def StableSnapsCardSaid : Prop := Claim7.holds Tryz.pinned (.plain (OpenSpec.ofChange stableSnapsSpec)) stableSnapsCard

/-- THE SECOND FORM's CARD OF 'scriptoriumlaw15.WalPlays'. -/
def walPlaysUptoCard : Claim7 := { stood := { row := walPlaysUptoRow, standIns := [], harness := (true, "2267af4d01050e9850ee5d53f486ccc4c04a8b8c319c2f1820b859af85ecc801"), looks := false }, kinds := [], alts := [], laidByText := true, laidKinds := [.data, .data, .data, .data], laidTests := true, laidLooks := .later }
def WalPlaysUptoCardSaid : Prop := Claim7.holds Tryz.pinned (.plain (OpenSpec.upto walPlaysSpec)) walPlaysUptoCard

/-- THE SECOND FORM's CARD OF 'scriptoriumlaw15.WalNumbers'. -/
def walNumbersUptoCard : Claim7 := { stood := { row := walNumbersUptoRow, standIns := [], harness := (true, "2267af4d01050e9850ee5d53f486ccc4c04a8b8c319c2f1820b859af85ecc801"), looks := false }, kinds := [], alts := [], laidByText := true, laidKinds := [.data, .data, .data, .data], laidTests := true, laidLooks := .later }
def WalNumbersUptoCardSaid : Prop := Claim7.holds Tryz.pinned (.plain (OpenSpec.upto walNumbersSpec)) walNumbersUptoCard

/-- THE SECOND FORM's CARD OF 'scriptoriumlaw16.StableAtomic'. -/
def stableAtomicUptoCard : Claim7 := { stood := { row := stableAtomicUptoRow, standIns := [], harness := (true, "2267af4d01050e9850ee5d53f486ccc4c04a8b8c319c2f1820b859af85ecc801"), looks := false }, kinds := [], alts := [], laidByText := true, laidKinds := [.data, .data, .data, .data], laidTests := true, laidLooks := .later }
def StableAtomicUptoCardSaid : Prop := Claim7.holds Tryz.pinned (.plain (OpenSpec.upto stableAtomicSpec)) stableAtomicUptoCard

/-- THE SECOND FORM's CARD OF 'scriptoriumlaw16.StableBack'. -/
def stableBackUptoCard : Claim7 := { stood := { row := stableBackUptoRow, standIns := [], harness := (true, "2267af4d01050e9850ee5d53f486ccc4c04a8b8c319c2f1820b859af85ecc801"), looks := false }, kinds := [], alts := [], laidByText := true, laidKinds := [.data, .data, .data, .data], laidTests := true, laidLooks := .later }
def StableBackUptoCardSaid : Prop := Claim7.holds Tryz.pinned (.plain (OpenSpec.upto stableBackSpec)) stableBackUptoCard

/-- THE SECOND FORM's CARD OF 'scriptoriumlaw16.StableSpoilt'. -/
def stableSpoiltUptoCard : Claim7 := { stood := { row := stableSpoiltUptoRow, standIns := [], harness := (true, "2267af4d01050e9850ee5d53f486ccc4c04a8b8c319c2f1820b859af85ecc801"), looks := false }, kinds := [], alts := [], laidByText := true, laidKinds := [.data, .data, .data, .data], laidTests := true, laidLooks := .later }
def StableSpoiltUptoCardSaid : Prop := Claim7.holds Tryz.pinned (.plain (OpenSpec.upto stableSpoiltSpec)) stableSpoiltUptoCard

/-- THE SECOND FORM's CARD OF 'scriptoriumlaw16.StableSnaps'. -/
def stableSnapsUptoCard : Claim7 := { stood := { row := stableSnapsUptoRow, standIns := [], harness := (true, "2267af4d01050e9850ee5d53f486ccc4c04a8b8c319c2f1820b859af85ecc801"), looks := false }, kinds := [], alts := [], laidByText := true, laidKinds := [.data, .data, .data, .data], laidTests := true, laidLooks := .later }
def StableSnapsUptoCardSaid : Prop := Claim7.holds Tryz.pinned (.plain (OpenSpec.upto stableSnapsSpec)) stableSnapsUptoCard
end Rows
end Go.Proofs.YtkbmblmnhhlicaaGreatDoor
