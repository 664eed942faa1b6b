/-
  DERIVED. GIVEN WITH THE SEED: THE CARDS: each row of YtkjicdldlnefeaaDoorRows.lean that lists a variable, with what it lists TIED to the program's text (the seventh form; the later family's looks); each row that meets fmt, with fmt's text TOLD by the authors' own Lean function (tested against real Go, not proved from fmt's source: count such statements apart). THE CARD IS WHAT COUNTS. Prove the row's statement (the work); the ties are given (YtkjicdldlnefeaaDoorTie.lean); close each card by the builder's one call (the guide's Derived/Test/ToyasCard.lean, 'card_holds'). Laid BY PROGRAM, IN A SANDBOX (cutbox-door.mjs). By AI agents, Wed Nov 11 2026. No macro, syntax, notation, axiom, sorry.
-/
import Derived.Test.YtkjicdldlnefeaaDoorRows
import GoSem.ClaimSeven
namespace Go.Proofs.YtkjicdldlnefeaaDoor
namespace Rows

/-- THE TIED CARD OF 'scriptoriumlaw10.IncludeScans'. -/
def includeScansCard : Claim7 := { stood := { row := includeScansRow, standIns := [], harness := (true, "27183638d974bd5347147eb9822faa8a3c2b9ac1184109ffb08cd1891759c434"), looks := false }, kinds := [], alts := [], laidByText := true, laidKinds := [.data, .pinned], laidTests := true, laidLooks := .later }
def IncludeScansCardSaid : Prop := Claim7.holds Tryd.pinned (.plain (OpenSpec.ofChange includeScansSpec)) includeScansCard

/-- THE TIED CARD OF 'scriptoriumlaw10.IncludeExpands'. -/
def includeExpandsCard : Claim7 := { stood := { row := includeExpandsRow, standIns := [], harness := (true, "27183638d974bd5347147eb9822faa8a3c2b9ac1184109ffb08cd1891759c434"), looks := false }, kinds := [], alts := [], laidByText := true, laidKinds := [.data, .pinned], laidTests := true, laidLooks := .later }
def IncludeExpandsCardSaid : Prop := Claim7.holds Tryd.pinned (.plain (OpenSpec.ofChange includeExpandsSpec)) includeExpandsCard

/-- THE TIED CARD OF 'scriptoriumlaw10.IncludeApart'. -/
def includeApartCard : Claim7 := { stood := { row := includeApartRow, standIns := [], harness := (true, "27183638d974bd5347147eb9822faa8a3c2b9ac1184109ffb08cd1891759c434"), looks := false }, kinds := [], alts := [], laidByText := true, laidKinds := [.data, .pinned], laidTests := true, laidLooks := .later }
def IncludeApartCardSaid : Prop := Claim7.holds Tryd.pinned (.plain (OpenSpec.ofChange includeApartSpec)) includeApartCard

/-- THE TIED CARD OF 'scriptoriumlaw10.IncludeNeeds'. -/
def includeNeedsCard : Claim7 := { stood := { row := includeNeedsRow, standIns := [], harness := (true, "27183638d974bd5347147eb9822faa8a3c2b9ac1184109ffb08cd1891759c434"), looks := false }, kinds := [], alts := [], laidByText := true, laidKinds := [.data, .pinned], laidTests := true, laidLooks := .later }
def IncludeNeedsCardSaid : Prop := Claim7.holds Tryd.pinned (.plain (OpenSpec.ofChange includeNeedsSpec)) includeNeedsCard

/-- THE TIED CARD OF 'scriptoriumlaw10.IncludeChains'. -/
def includeChainsCard : Claim7 := { stood := { row := includeChainsRow, standIns := [], harness := (true, "27183638d974bd5347147eb9822faa8a3c2b9ac1184109ffb08cd1891759c434"), looks := false }, kinds := [], alts := [], laidByText := true, laidKinds := [.data, .pinned], laidTests := true, laidLooks := .later }
def IncludeChainsCardSaid : Prop := Claim7.holds Tryd.pinned (.plain (OpenSpec.ofChange includeChainsSpec)) includeChainsCard

/-- THE TIED CARD OF 'scriptoriumlaw10.IncludeSizes'. -/
def includeSizesCard : Claim7 := { stood := { row := includeSizesRow, standIns := [], harness := (true, "27183638d974bd5347147eb9822faa8a3c2b9ac1184109ffb08cd1891759c434"), looks := false }, kinds := [], alts := [], laidByText := true, laidKinds := [.data, .pinned], laidTests := true, laidLooks := .later }
def IncludeSizesCardSaid : Prop := Claim7.holds Tryd.pinned (.plain (OpenSpec.ofChange includeSizesSpec)) includeSizesCard

/-- THE SECOND FORM's CARD OF 'scriptoriumlaw10.IncludeScans'. -/
def includeScansUptoCard : Claim7 := { stood := { row := includeScansUptoRow, standIns := [], harness := (true, "27183638d974bd5347147eb9822faa8a3c2b9ac1184109ffb08cd1891759c434"), looks := false }, kinds := [], alts := [], laidByText := true, laidKinds := [.data, .pinned], laidTests := true, laidLooks := .later }
def IncludeScansUptoCardSaid : Prop := Claim7.holds Tryd.pinned (.plain (OpenSpec.upto includeScansSpec)) includeScansUptoCard

/-- THE SECOND FORM's CARD OF 'scriptoriumlaw10.IncludeExpands'. -/
def includeExpandsUptoCard : Claim7 := { stood := { row := includeExpandsUptoRow, standIns := [], harness := (true, "27183638d974bd5347147eb9822faa8a3c2b9ac1184109ffb08cd1891759c434"), looks := false }, kinds := [], alts := [], laidByText := true, laidKinds := [.data, .pinned], laidTests := true, laidLooks := .later }
def IncludeExpandsUptoCardSaid : Prop := Claim7.holds Tryd.pinned (.plain (OpenSpec.upto includeExpandsSpec)) includeExpandsUptoCard

/-- THE SECOND FORM's CARD OF 'scriptoriumlaw10.IncludeApart'. -/
def includeApartUptoCard : Claim7 := { stood := { row := includeApartUptoRow, standIns := [], harness := (true, "27183638d974bd5347147eb9822faa8a3c2b9ac1184109ffb08cd1891759c434"), looks := false }, kinds := [], alts := [], laidByText := true, laidKinds := [.data, .pinned], laidTests := true, laidLooks := .later }
def IncludeApartUptoCardSaid : Prop := Claim7.holds Tryd.pinned (.plain (OpenSpec.upto includeApartSpec)) includeApartUptoCard

/-- THE SECOND FORM's CARD OF 'scriptoriumlaw10.IncludeNeeds'. -/
def includeNeedsUptoCard : Claim7 := { stood := { row := includeNeedsUptoRow, standIns := [], harness := (true, "27183638d974bd5347147eb9822faa8a3c2b9ac1184109ffb08cd1891759c434"), looks := false }, kinds := [], alts := [], laidByText := true, laidKinds := [.data, .pinned], laidTests := true, laidLooks := .later }
def IncludeNeedsUptoCardSaid : Prop := Claim7.holds Tryd.pinned (.plain (OpenSpec.upto includeNeedsSpec)) includeNeedsUptoCard

/-- THE SECOND FORM's CARD OF 'scriptoriumlaw10.IncludeChains'. -/
def includeChainsUptoCard : Claim7 := { stood := { row := includeChainsUptoRow, standIns := [], harness := (true, "27183638d974bd5347147eb9822faa8a3c2b9ac1184109ffb08cd1891759c434"), looks := false }, kinds := [], alts := [], laidByText := true, laidKinds := [.data, .pinned], laidTests := true, laidLooks := .later }
def IncludeChainsUptoCardSaid : Prop := Claim7.holds Tryd.pinned (.plain (OpenSpec.upto includeChainsSpec)) includeChainsUptoCard

/-- THE SECOND FORM's CARD OF 'scriptoriumlaw10.IncludeSizes'. -/
def includeSizesUptoCard : Claim7 := { stood := { row := includeSizesUptoRow, standIns := [], harness := (true, "27183638d974bd5347147eb9822faa8a3c2b9ac1184109ffb08cd1891759c434"), looks := false }, kinds := [], alts := [], laidByText := true, laidKinds := [.data, .pinned], laidTests := true, laidLooks := .later }
def IncludeSizesUptoCardSaid : Prop := Claim7.holds Tryd.pinned (.plain (OpenSpec.upto includeSizesSpec)) includeSizesUptoCard
end Rows
end Go.Proofs.YtkjicdldlnefeaaDoor
