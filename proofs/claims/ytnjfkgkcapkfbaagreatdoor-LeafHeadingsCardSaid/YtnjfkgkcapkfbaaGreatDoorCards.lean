/-
  DERIVED. GIVEN WITH THE SEED: THE CARDS: each row of YtnjfkgkcapkfbaaGreatDoorRows.lean that lists a variable, with what it lists TIED to the program's text (the seventh form; the later family's looks); each row that meets fmt, with fmt's text TOLD by the authors' own Lean function (tested against real Go, not proved from fmt's source: count such statements apart). THE CARD IS WHAT COUNTS. Prove the row's statement (the work); the ties are given (YtnjfkgkcapkfbaaGreatDoorTie.lean); close each card by the builder's one call (the guide's Derived/Test/ToyasCard.lean, 'card_holds'). Laid BY PROGRAM, IN A SANDBOX (cutbox-door.mjs). By AI agents, Wed Nov 11 2026. No macro, syntax, notation, axiom, sorry.
-/
import Derived.Test.YtnjfkgkcapkfbaaGreatDoorRows
import GoSem.ClaimSeven
namespace Go.Proofs.YtnjfkgkcapkfbaaGreatDoor
namespace Rows

/-- THE TIED CARD OF 'scriptoriumlaw05.LeafOne'. -/
def leafOneCard : Claim7 := { stood := { row := leafOneRow, standIns := [], harness := (true, "8241c8c1004da68b036fa8a4f326b92e5552a8e33f7fadbed2f9fa6b33aab07e"), looks := false }, kinds := [], alts := [], laidByText := true, laidKinds := [.data, .pinned, .pinned], laidTests := true, laidLooks := .later }
def LeafOneCardSaid : Prop := Claim7.holds Tryz.pinned (.plain (OpenSpec.ofChange leafOneSpec)) leafOneCard

/-- THE TIED CARD OF 'scriptoriumlaw05.LeafFences'. -/
def leafFencesCard : Claim7 := { stood := { row := leafFencesRow, standIns := [], harness := (true, "8241c8c1004da68b036fa8a4f326b92e5552a8e33f7fadbed2f9fa6b33aab07e"), looks := false }, kinds := [], alts := [], laidByText := true, laidKinds := [.data, .pinned, .pinned], laidTests := true, laidLooks := .later }
def LeafFencesCardSaid : Prop := Claim7.holds Tryz.pinned (.plain (OpenSpec.ofChange leafFencesSpec)) leafFencesCard

/-- THE TIED CARD OF 'scriptoriumlaw05.LeafMarkers'. -/
def leafMarkersCard : Claim7 := { stood := { row := leafMarkersRow, standIns := [], harness := (true, "8241c8c1004da68b036fa8a4f326b92e5552a8e33f7fadbed2f9fa6b33aab07e"), looks := false }, kinds := [], alts := [], laidByText := true, laidKinds := [.data, .pinned, .pinned], laidTests := true, laidLooks := .later }
def LeafMarkersCardSaid : Prop := Claim7.holds Tryz.pinned (.plain (OpenSpec.ofChange leafMarkersSpec)) leafMarkersCard

/-- THE TIED CARD OF 'scriptoriumlaw05.LeafHeadings'. -/
def leafHeadingsCard : Claim7 := { stood := { row := leafHeadingsRow, standIns := [], harness := (true, "8241c8c1004da68b036fa8a4f326b92e5552a8e33f7fadbed2f9fa6b33aab07e"), looks := false }, kinds := [], alts := [], laidByText := true, laidKinds := [.data, .pinned, .pinned], laidTests := true, laidLooks := .later }
def LeafHeadingsCardSaid : Prop := Claim7.holds Tryz.pinned (.plain (OpenSpec.ofChange leafHeadingsSpec)) leafHeadingsCard

/-- THE TIED CARD OF 'scriptoriumlaw05.LeafRules'. -/
def leafRulesCard : Claim7 := { stood := { row := leafRulesRow, standIns := [], harness := (true, "8241c8c1004da68b036fa8a4f326b92e5552a8e33f7fadbed2f9fa6b33aab07e"), looks := false }, kinds := [], alts := [], laidByText := true, laidKinds := [.data, .pinned, .pinned], laidTests := true, laidLooks := .later }
def LeafRulesCardSaid : Prop := Claim7.holds Tryz.pinned (.plain (OpenSpec.ofChange leafRulesSpec)) leafRulesCard

/-- THE TIED CARD OF 'scriptoriumlaw05.LeafUnders'. -/
def leafUndersCard : Claim7 := { stood := { row := leafUndersRow, standIns := [], harness := (true, "8241c8c1004da68b036fa8a4f326b92e5552a8e33f7fadbed2f9fa6b33aab07e"), looks := false }, kinds := [], alts := [], laidByText := true, laidKinds := [.data, .pinned, .pinned], laidTests := true, laidLooks := .later }
def LeafUndersCardSaid : Prop := Claim7.holds Tryz.pinned (.plain (OpenSpec.ofChange leafUndersSpec)) leafUndersCard

/-- THE SECOND FORM's CARD OF 'scriptoriumlaw05.LeafOne'. -/
def leafOneUptoCard : Claim7 := { stood := { row := leafOneUptoRow, standIns := [], harness := (true, "8241c8c1004da68b036fa8a4f326b92e5552a8e33f7fadbed2f9fa6b33aab07e"), looks := false }, kinds := [], alts := [], laidByText := true, laidKinds := [.data, .pinned, .pinned], laidTests := true, laidLooks := .later }
def LeafOneUptoCardSaid : Prop := Claim7.holds Tryz.pinned (.plain (OpenSpec.upto leafOneSpec)) leafOneUptoCard

/-- THE SECOND FORM's CARD OF 'scriptoriumlaw05.LeafFences'. -/
def leafFencesUptoCard : Claim7 := { stood := { row := leafFencesUptoRow, standIns := [], harness := (true, "8241c8c1004da68b036fa8a4f326b92e5552a8e33f7fadbed2f9fa6b33aab07e"), looks := false }, kinds := [], alts := [], laidByText := true, laidKinds := [.data, .pinned, .pinned], laidTests := true, laidLooks := .later }
def LeafFencesUptoCardSaid : Prop := Claim7.holds Tryz.pinned (.plain (OpenSpec.upto leafFencesSpec)) leafFencesUptoCard

/-- THE SECOND FORM's CARD OF 'scriptoriumlaw05.LeafMarkers'. -/
def leafMarkersUptoCard : Claim7 := { stood := { row := leafMarkersUptoRow, standIns := [], harness := (true, "8241c8c1004da68b036fa8a4f326b92e5552a8e33f7fadbed2f9fa6b33aab07e"), looks := false }, kinds := [], alts := [], laidByText := true, laidKinds := [.data, .pinned, .pinned], laidTests := true, laidLooks := .later }
def LeafMarkersUptoCardSaid : Prop := Claim7.holds Tryz.pinned (.plain (OpenSpec.upto leafMarkersSpec)) leafMarkersUptoCard

/-- THE SECOND FORM's CARD OF 'scriptoriumlaw05.LeafHeadings'. -/
def leafHeadingsUptoCard : Claim7 := { stood := { row := leafHeadingsUptoRow, standIns := [], harness := (true, "8241c8c1004da68b036fa8a4f326b92e5552a8e33f7fadbed2f9fa6b33aab07e"), looks := false }, kinds := [], alts := [], laidByText := true, laidKinds := [.data, .pinned, .pinned], laidTests := true, laidLooks := .later }
def LeafHeadingsUptoCardSaid : Prop := Claim7.holds Tryz.pinned (.plain (OpenSpec.upto leafHeadingsSpec)) leafHeadingsUptoCard

/-- THE SECOND FORM's CARD OF 'scriptoriumlaw05.LeafRules'. -/
def leafRulesUptoCard : Claim7 := { stood := { row := leafRulesUptoRow, standIns := [], harness := (true, "8241c8c1004da68b036fa8a4f326b92e5552a8e33f7fadbed2f9fa6b33aab07e"), looks := false }, kinds := [], alts := [], laidByText := true, laidKinds := [.data, .pinned, .pinned], laidTests := true, laidLooks := .later }
def LeafRulesUptoCardSaid : Prop := Claim7.holds Tryz.pinned (.plain (OpenSpec.upto leafRulesSpec)) leafRulesUptoCard

/-- THE SECOND FORM's CARD OF 'scriptoriumlaw05.LeafUnders'. -/
def leafUndersUptoCard : Claim7 := { stood := { row := leafUndersUptoRow, standIns := [], harness := (true, "8241c8c1004da68b036fa8a4f326b92e5552a8e33f7fadbed2f9fa6b33aab07e"), looks := false }, kinds := [], alts := [], laidByText := true, laidKinds := [.data, .pinned, .pinned], laidTests := true, laidLooks := .later }
def LeafUndersUptoCardSaid : Prop := Claim7.holds Tryz.pinned (.plain (OpenSpec.upto leafUndersSpec)) leafUndersUptoCard
end Rows
end Go.Proofs.YtnjfkgkcapkfbaaGreatDoor
