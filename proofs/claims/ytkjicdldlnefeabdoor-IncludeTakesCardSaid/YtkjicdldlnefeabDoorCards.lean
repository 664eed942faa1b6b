/-
  DERIVED. GIVEN WITH THE SEED: THE CARDS: each row of YtkjicdldlnefeabDoorRows.lean that lists a variable, with what it lists TIED to the program's text (the seventh form; the later family's looks); each row that meets fmt, with fmt's text TOLD by the authors' own Lean function (tested against real Go, not proved from fmt's source: count such statements apart). THE CARD IS WHAT COUNTS. Prove the row's statement (the work); the ties are given (YtkjicdldlnefeabDoorTie.lean); close each card by the builder's one call (the guide's Derived/Test/ToyasCard.lean, 'card_holds'). Laid BY PROGRAM, IN A SANDBOX (cutbox-door.mjs). By AI agents, Wed Nov 11 2026. No macro, syntax, notation, axiom, sorry.
-/
import Derived.Test.YtkjicdldlnefeabDoorRows
import GoSem.ClaimSeven
namespace Go.Proofs.YtkjicdldlnefeabDoor
namespace Rows

/-- THE TIED CARD OF 'scriptoriumlaw10.IncludeVersions'. -/
def includeVersionsCard : Claim7 := { stood := { row := includeVersionsRow, standIns := [], harness := (true, "0f4ab3383f1c9d233f4c5c175a6871c3203b921cbbbb8ff8d1f1ea492c2d3a29"), looks := false }, kinds := [], alts := [], laidByText := true, laidKinds := [.data, .pinned], laidTests := true, laidLooks := .later }
def IncludeVersionsCardSaid : Prop := Claim7.holds Tryd.pinned (.plain (OpenSpec.ofChange includeVersionsSpec)) includeVersionsCard

/-- THE TIED CARD OF 'scriptoriumlaw10.IncludeTakes'. -/
def includeTakesCard : Claim7 := { stood := { row := includeTakesRow, standIns := [], harness := (true, "0f4ab3383f1c9d233f4c5c175a6871c3203b921cbbbb8ff8d1f1ea492c2d3a29"), looks := false }, kinds := [], alts := [], laidByText := true, laidKinds := [.data, .pinned], laidTests := true, laidLooks := .later }
def IncludeTakesCardSaid : Prop := Claim7.holds Tryd.pinned (.plain (OpenSpec.ofChange includeTakesSpec)) includeTakesCard

/-- THE SECOND FORM's CARD OF 'scriptoriumlaw10.IncludeVersions'. -/
def includeVersionsUptoCard : Claim7 := { stood := { row := includeVersionsUptoRow, standIns := [], harness := (true, "0f4ab3383f1c9d233f4c5c175a6871c3203b921cbbbb8ff8d1f1ea492c2d3a29"), looks := false }, kinds := [], alts := [], laidByText := true, laidKinds := [.data, .pinned], laidTests := true, laidLooks := .later }
def IncludeVersionsUptoCardSaid : Prop := Claim7.holds Tryd.pinned (.plain (OpenSpec.upto includeVersionsSpec)) includeVersionsUptoCard

/-- THE SECOND FORM's CARD OF 'scriptoriumlaw10.IncludeTakes'. -/
def includeTakesUptoCard : Claim7 := { stood := { row := includeTakesUptoRow, standIns := [], harness := (true, "0f4ab3383f1c9d233f4c5c175a6871c3203b921cbbbb8ff8d1f1ea492c2d3a29"), looks := false }, kinds := [], alts := [], laidByText := true, laidKinds := [.data, .pinned], laidTests := true, laidLooks := .later }
def IncludeTakesUptoCardSaid : Prop := Claim7.holds Tryd.pinned (.plain (OpenSpec.upto includeTakesSpec)) includeTakesUptoCard
end Rows
end Go.Proofs.YtkjicdldlnefeabDoor
