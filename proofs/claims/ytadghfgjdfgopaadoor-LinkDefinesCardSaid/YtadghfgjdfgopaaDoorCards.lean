/-
  DERIVED. GIVEN WITH THE SEED: THE CARDS: each row of YtadghfgjdfgopaaDoorRows.lean that lists a variable, with what it lists TIED to the program's text (the seventh form; the later family's looks); each row that meets fmt, with fmt's text TOLD by the authors' own Lean function (tested against real Go, not proved from fmt's source: count such statements apart). THE CARD IS WHAT COUNTS. Prove the row's statement (the work); the ties are given (YtadghfgjdfgopaaDoorTie.lean); close each card by the builder's one call (the guide's Derived/Test/ToyasCard.lean, 'card_holds'). Laid BY PROGRAM, IN A SANDBOX (cutbox-door.mjs). By AI agents, Wed Nov 11 2026. No macro, syntax, notation, axiom, sorry.
-/
import Derived.Test.YtadghfgjdfgopaaDoorRows
import GoSem.ClaimSeven
namespace Go.Proofs.YtadghfgjdfgopaaDoor
namespace Rows

/-- THE TIED CARD OF 'scriptoriumlaw06.LinkTells'. -/
def linkTellsCard : Claim7 := { stood := { row := linkTellsRow, standIns := [], harness := (true, "00c84cc8bd0997f00709d0a3554ed07d9353e59ca963240771844da478bc6106"), looks := false }, kinds := [], alts := [], laidByText := true, laidKinds := [.data, .pinned], laidTests := true, laidLooks := .later }
def LinkTellsCardSaid : Prop := Claim7.holds Tryd.pinned (.plain (OpenSpec.ofChange linkTellsSpec)) linkTellsCard

/-- THE TIED CARD OF 'scriptoriumlaw06.LinkFront'. -/
def linkFrontCard : Claim7 := { stood := { row := linkFrontRow, standIns := [], harness := (true, "00c84cc8bd0997f00709d0a3554ed07d9353e59ca963240771844da478bc6106"), looks := false }, kinds := [], alts := [], laidByText := true, laidKinds := [.data, .pinned], laidTests := true, laidLooks := .later }
def LinkFrontCardSaid : Prop := Claim7.holds Tryd.pinned (.plain (OpenSpec.ofChange linkFrontSpec)) linkFrontCard

/-- THE TIED CARD OF 'scriptoriumlaw06.LinkDefines'. -/
def linkDefinesCard : Claim7 := { stood := { row := linkDefinesRow, standIns := [], harness := (true, "00c84cc8bd0997f00709d0a3554ed07d9353e59ca963240771844da478bc6106"), looks := false }, kinds := [], alts := [], laidByText := true, laidKinds := [.data, .pinned], laidTests := true, laidLooks := .later }
def LinkDefinesCardSaid : Prop := Claim7.holds Tryd.pinned (.plain (OpenSpec.ofChange linkDefinesSpec)) linkDefinesCard

/-- THE TIED CARD OF 'scriptoriumlaw06.LinkLabels'. -/
def linkLabelsCard : Claim7 := { stood := { row := linkLabelsRow, standIns := [], harness := (true, "00c84cc8bd0997f00709d0a3554ed07d9353e59ca963240771844da478bc6106"), looks := false }, kinds := [], alts := [], laidByText := true, laidKinds := [.data, .pinned], laidTests := true, laidLooks := .later }
def LinkLabelsCardSaid : Prop := Claim7.holds Tryd.pinned (.plain (OpenSpec.ofChange linkLabelsSpec)) linkLabelsCard

/-- THE TIED CARD OF 'scriptoriumlaw06.LinkPlaces'. -/
def linkPlacesCard : Claim7 := { stood := { row := linkPlacesRow, standIns := [], harness := (true, "00c84cc8bd0997f00709d0a3554ed07d9353e59ca963240771844da478bc6106"), looks := false }, kinds := [], alts := [], laidByText := true, laidKinds := [.data, .pinned], laidTests := true, laidLooks := .later }
def LinkPlacesCardSaid : Prop := Claim7.holds Tryd.pinned (.plain (OpenSpec.ofChange linkPlacesSpec)) linkPlacesCard

/-- THE SECOND FORM's CARD OF 'scriptoriumlaw06.LinkTells'. -/
def linkTellsUptoCard : Claim7 := { stood := { row := linkTellsUptoRow, standIns := [], harness := (true, "00c84cc8bd0997f00709d0a3554ed07d9353e59ca963240771844da478bc6106"), looks := false }, kinds := [], alts := [], laidByText := true, laidKinds := [.data, .pinned], laidTests := true, laidLooks := .later }
def LinkTellsUptoCardSaid : Prop := Claim7.holds Tryd.pinned (.plain (OpenSpec.upto linkTellsSpec)) linkTellsUptoCard

/-- THE SECOND FORM's CARD OF 'scriptoriumlaw06.LinkFront'. -/
def linkFrontUptoCard : Claim7 := { stood := { row := linkFrontUptoRow, standIns := [], harness := (true, "00c84cc8bd0997f00709d0a3554ed07d9353e59ca963240771844da478bc6106"), looks := false }, kinds := [], alts := [], laidByText := true, laidKinds := [.data, .pinned], laidTests := true, laidLooks := .later }
def LinkFrontUptoCardSaid : Prop := Claim7.holds Tryd.pinned (.plain (OpenSpec.upto linkFrontSpec)) linkFrontUptoCard

/-- THE SECOND FORM's CARD OF 'scriptoriumlaw06.LinkDefines'. -/
def linkDefinesUptoCard : Claim7 := { stood := { row := linkDefinesUptoRow, standIns := [], harness := (true, "00c84cc8bd0997f00709d0a3554ed07d9353e59ca963240771844da478bc6106"), looks := false }, kinds := [], alts := [], laidByText := true, laidKinds := [.data, .pinned], laidTests := true, laidLooks := .later }
def LinkDefinesUptoCardSaid : Prop := Claim7.holds Tryd.pinned (.plain (OpenSpec.upto linkDefinesSpec)) linkDefinesUptoCard

/-- THE SECOND FORM's CARD OF 'scriptoriumlaw06.LinkLabels'. -/
def linkLabelsUptoCard : Claim7 := { stood := { row := linkLabelsUptoRow, standIns := [], harness := (true, "00c84cc8bd0997f00709d0a3554ed07d9353e59ca963240771844da478bc6106"), looks := false }, kinds := [], alts := [], laidByText := true, laidKinds := [.data, .pinned], laidTests := true, laidLooks := .later }
def LinkLabelsUptoCardSaid : Prop := Claim7.holds Tryd.pinned (.plain (OpenSpec.upto linkLabelsSpec)) linkLabelsUptoCard

/-- THE SECOND FORM's CARD OF 'scriptoriumlaw06.LinkPlaces'. -/
def linkPlacesUptoCard : Claim7 := { stood := { row := linkPlacesUptoRow, standIns := [], harness := (true, "00c84cc8bd0997f00709d0a3554ed07d9353e59ca963240771844da478bc6106"), looks := false }, kinds := [], alts := [], laidByText := true, laidKinds := [.data, .pinned], laidTests := true, laidLooks := .later }
def LinkPlacesUptoCardSaid : Prop := Claim7.holds Tryd.pinned (.plain (OpenSpec.upto linkPlacesSpec)) linkPlacesUptoCard
end Rows
end Go.Proofs.YtadghfgjdfgopaaDoor
