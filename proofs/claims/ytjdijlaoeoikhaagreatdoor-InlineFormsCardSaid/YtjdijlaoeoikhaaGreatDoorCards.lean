/-
  DERIVED. GIVEN WITH THE SEED: THE CARDS: each row of YtjdijlaoeoikhaaGreatDoorRows.lean that lists a variable, with what it lists TIED to the program's text (the seventh form; the later family's looks); each row that meets fmt, with fmt's text TOLD by the authors' own Lean function (tested against real Go, not proved from fmt's source: count such statements apart). THE CARD IS WHAT COUNTS. Prove the row's statement (the work); the ties are given (YtjdijlaoeoikhaaGreatDoorTie.lean); close each card by the builder's one call (the guide's Derived/Test/ToyasCard.lean, 'card_holds'). Laid BY PROGRAM, IN A SANDBOX (cutbox-door.mjs). By AI agents, Wed Nov 11 2026. No macro, syntax, notation, axiom, sorry.
-/
import Derived.Test.YtjdijlaoeoikhaaGreatDoorRows
import GoSem.ClaimSeven
namespace Go.Proofs.YtjdijlaoeoikhaaGreatDoor
namespace Rows

/-- THE TIED CARD OF 'scriptoriumlaw08.InlineForms'. -/
def inlineFormsCard : Claim7 := { stood := { row := inlineFormsRow, standIns := [], harness := (true, "5b0b5783688459130bcd7c0d1c6afe6548980a6dd9ea5182af53178c628318e3"), looks := false }, kinds := [], alts := [], laidByText := true, laidKinds := [.data, .pinned], laidTests := true, laidLooks := .later }
def InlineFormsCardSaid : Prop := Claim7.holds Tryz.pinned (.plain (OpenSpec.ofChange inlineFormsSpec)) inlineFormsCard

/-- THE TIED CARD OF 'scriptoriumlaw08.InlineStars'. -/
def inlineStarsCard : Claim7 := { stood := { row := inlineStarsRow, standIns := [], harness := (true, "5b0b5783688459130bcd7c0d1c6afe6548980a6dd9ea5182af53178c628318e3"), looks := false }, kinds := [], alts := [], laidByText := true, laidKinds := [.data, .pinned], laidTests := true, laidLooks := .later }
def InlineStarsCardSaid : Prop := Claim7.holds Tryz.pinned (.plain (OpenSpec.ofChange inlineStarsSpec)) inlineStarsCard

/-- THE TIED CARD OF 'scriptoriumlaw08.InlineLinks'. -/
def inlineLinksCard : Claim7 := { stood := { row := inlineLinksRow, standIns := [], harness := (true, "5b0b5783688459130bcd7c0d1c6afe6548980a6dd9ea5182af53178c628318e3"), looks := false }, kinds := [], alts := [], laidByText := true, laidKinds := [.data, .pinned], laidTests := true, laidLooks := .later }
def InlineLinksCardSaid : Prop := Claim7.holds Tryz.pinned (.plain (OpenSpec.ofChange inlineLinksSpec)) inlineLinksCard

/-- THE TIED CARD OF 'scriptoriumlaw08.InlineFirst'. -/
def inlineFirstCard : Claim7 := { stood := { row := inlineFirstRow, standIns := [], harness := (true, "5b0b5783688459130bcd7c0d1c6afe6548980a6dd9ea5182af53178c628318e3"), looks := false }, kinds := [], alts := [], laidByText := true, laidKinds := [.data, .pinned], laidTests := true, laidLooks := .later }
def InlineFirstCardSaid : Prop := Claim7.holds Tryz.pinned (.plain (OpenSpec.ofChange inlineFirstSpec)) inlineFirstCard

/-- THE SECOND FORM's CARD OF 'scriptoriumlaw08.InlineForms'. -/
def inlineFormsUptoCard : Claim7 := { stood := { row := inlineFormsUptoRow, standIns := [], harness := (true, "5b0b5783688459130bcd7c0d1c6afe6548980a6dd9ea5182af53178c628318e3"), looks := false }, kinds := [], alts := [], laidByText := true, laidKinds := [.data, .pinned], laidTests := true, laidLooks := .later }
def InlineFormsUptoCardSaid : Prop := Claim7.holds Tryz.pinned (.plain (OpenSpec.upto inlineFormsSpec)) inlineFormsUptoCard

/-- THE SECOND FORM's CARD OF 'scriptoriumlaw08.InlineStars'. -/
def inlineStarsUptoCard : Claim7 := { stood := { row := inlineStarsUptoRow, standIns := [], harness := (true, "5b0b5783688459130bcd7c0d1c6afe6548980a6dd9ea5182af53178c628318e3"), looks := false }, kinds := [], alts := [], laidByText := true, laidKinds := [.data, .pinned], laidTests := true, laidLooks := .later }
def InlineStarsUptoCardSaid : Prop := Claim7.holds Tryz.pinned (.plain (OpenSpec.upto inlineStarsSpec)) inlineStarsUptoCard

/-- THE SECOND FORM's CARD OF 'scriptoriumlaw08.InlineLinks'. -/
def inlineLinksUptoCard : Claim7 := { stood := { row := inlineLinksUptoRow, standIns := [], harness := (true, "5b0b5783688459130bcd7c0d1c6afe6548980a6dd9ea5182af53178c628318e3"), looks := false }, kinds := [], alts := [], laidByText := true, laidKinds := [.data, .pinned], laidTests := true, laidLooks := .later }
def InlineLinksUptoCardSaid : Prop := Claim7.holds Tryz.pinned (.plain (OpenSpec.upto inlineLinksSpec)) inlineLinksUptoCard

/-- THE SECOND FORM's CARD OF 'scriptoriumlaw08.InlineFirst'. -/
def inlineFirstUptoCard : Claim7 := { stood := { row := inlineFirstUptoRow, standIns := [], harness := (true, "5b0b5783688459130bcd7c0d1c6afe6548980a6dd9ea5182af53178c628318e3"), looks := false }, kinds := [], alts := [], laidByText := true, laidKinds := [.data, .pinned], laidTests := true, laidLooks := .later }
def InlineFirstUptoCardSaid : Prop := Claim7.holds Tryz.pinned (.plain (OpenSpec.upto inlineFirstSpec)) inlineFirstUptoCard
end Rows
end Go.Proofs.YtjdijlaoeoikhaaGreatDoor
