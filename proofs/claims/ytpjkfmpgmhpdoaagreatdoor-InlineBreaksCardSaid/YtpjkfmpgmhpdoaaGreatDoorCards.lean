/-
  DERIVED. GIVEN WITH THE SEED: THE CARDS: each row of YtpjkfmpgmhpdoaaGreatDoorRows.lean that lists a variable, with what it lists TIED to the program's text (the seventh form; the later family's looks); each row that meets fmt, with fmt's text TOLD by the authors' own Lean function (tested against real Go, not proved from fmt's source: count such statements apart). THE CARD IS WHAT COUNTS. Prove the row's statement (the work); the ties are given (YtpjkfmpgmhpdoaaGreatDoorTie.lean); close each card by the builder's one call (the guide's Derived/Test/ToyasCard.lean, 'card_holds'). Laid BY PROGRAM, IN A SANDBOX (cutbox-door.mjs). By AI agents, Wed Nov 11 2026. No macro, syntax, notation, axiom, sorry.
-/
import Derived.Test.YtpjkfmpgmhpdoaaGreatDoorRows
import GoSem.ClaimSeven
namespace Go.Proofs.YtpjkfmpgmhpdoaaGreatDoor
namespace Rows

/-- THE TIED CARD OF 'scriptoriumlaw08.InlineForms'. -/
def inlineFormsCard : Claim7 := { stood := { row := inlineFormsRow, standIns := [], harness := (true, "889fc57bd8373b249fed96d6cf85590f9b1899a1254be66f216440e9c9409872"), looks := false }, kinds := [], alts := [], laidByText := true, laidKinds := [.data, .pinned], laidTests := true, laidLooks := .later }
def InlineFormsCardSaid : Prop := Claim7.holds Tryz.pinned (.plain (OpenSpec.ofChange inlineFormsSpec)) inlineFormsCard

/-- THE TIED CARD OF 'scriptoriumlaw08.InlinePlain'. -/
def inlinePlainCard : Claim7 := { stood := { row := inlinePlainRow, standIns := [], harness := (true, "889fc57bd8373b249fed96d6cf85590f9b1899a1254be66f216440e9c9409872"), looks := false }, kinds := [], alts := [], laidByText := true, laidKinds := [.data, .pinned], laidTests := true, laidLooks := .later }
def InlinePlainCardSaid : Prop := Claim7.holds Tryz.pinned (.plain (OpenSpec.ofChange inlinePlainSpec)) inlinePlainCard

/-- THE TIED CARD OF 'scriptoriumlaw08.InlineStars'. -/
def inlineStarsCard : Claim7 := { stood := { row := inlineStarsRow, standIns := [], harness := (true, "889fc57bd8373b249fed96d6cf85590f9b1899a1254be66f216440e9c9409872"), looks := false }, kinds := [], alts := [], laidByText := true, laidKinds := [.data, .pinned], laidTests := true, laidLooks := .later }
def InlineStarsCardSaid : Prop := Claim7.holds Tryz.pinned (.plain (OpenSpec.ofChange inlineStarsSpec)) inlineStarsCard

/-- THE TIED CARD OF 'scriptoriumlaw08.InlineLinks'. -/
def inlineLinksCard : Claim7 := { stood := { row := inlineLinksRow, standIns := [], harness := (true, "889fc57bd8373b249fed96d6cf85590f9b1899a1254be66f216440e9c9409872"), looks := false }, kinds := [], alts := [], laidByText := true, laidKinds := [.data, .pinned], laidTests := true, laidLooks := .later }
def InlineLinksCardSaid : Prop := Claim7.holds Tryz.pinned (.plain (OpenSpec.ofChange inlineLinksSpec)) inlineLinksCard

/-- THE TIED CARD OF 'scriptoriumlaw08.InlineCode'. -/
def inlineCodeCard : Claim7 := { stood := { row := inlineCodeRow, standIns := [], harness := (true, "889fc57bd8373b249fed96d6cf85590f9b1899a1254be66f216440e9c9409872"), looks := false }, kinds := [], alts := [], laidByText := true, laidKinds := [.data, .pinned], laidTests := true, laidLooks := .later }
def InlineCodeCardSaid : Prop := Claim7.holds Tryz.pinned (.plain (OpenSpec.ofChange inlineCodeSpec)) inlineCodeCard

/-- THE TIED CARD OF 'scriptoriumlaw08.InlineBreaks'. -/
def inlineBreaksCard : Claim7 := { stood := { row := inlineBreaksRow, standIns := [], harness := (true, "889fc57bd8373b249fed96d6cf85590f9b1899a1254be66f216440e9c9409872"), looks := false }, kinds := [], alts := [], laidByText := true, laidKinds := [.data, .pinned], laidTests := true, laidLooks := .later }
def InlineBreaksCardSaid : Prop := Claim7.holds Tryz.pinned (.plain (OpenSpec.ofChange inlineBreaksSpec)) inlineBreaksCard

/-- THE SECOND FORM's CARD OF 'scriptoriumlaw08.InlineForms'. -/
def inlineFormsUptoCard : Claim7 := { stood := { row := inlineFormsUptoRow, standIns := [], harness := (true, "889fc57bd8373b249fed96d6cf85590f9b1899a1254be66f216440e9c9409872"), looks := false }, kinds := [], alts := [], laidByText := true, laidKinds := [.data, .pinned], laidTests := true, laidLooks := .later }
def InlineFormsUptoCardSaid : Prop := Claim7.holds Tryz.pinned (.plain (OpenSpec.upto inlineFormsSpec)) inlineFormsUptoCard

/-- THE SECOND FORM's CARD OF 'scriptoriumlaw08.InlinePlain'. -/
def inlinePlainUptoCard : Claim7 := { stood := { row := inlinePlainUptoRow, standIns := [], harness := (true, "889fc57bd8373b249fed96d6cf85590f9b1899a1254be66f216440e9c9409872"), looks := false }, kinds := [], alts := [], laidByText := true, laidKinds := [.data, .pinned], laidTests := true, laidLooks := .later }
def InlinePlainUptoCardSaid : Prop := Claim7.holds Tryz.pinned (.plain (OpenSpec.upto inlinePlainSpec)) inlinePlainUptoCard

/-- THE SECOND FORM's CARD OF 'scriptoriumlaw08.InlineStars'. -/
def inlineStarsUptoCard : Claim7 := { stood := { row := inlineStarsUptoRow, standIns := [], harness := (true, "889fc57bd8373b249fed96d6cf85590f9b1899a1254be66f216440e9c9409872"), looks := false }, kinds := [], alts := [], laidByText := true, laidKinds := [.data, .pinned], laidTests := true, laidLooks := .later }
def InlineStarsUptoCardSaid : Prop := Claim7.holds Tryz.pinned (.plain (OpenSpec.upto inlineStarsSpec)) inlineStarsUptoCard

/-- THE SECOND FORM's CARD OF 'scriptoriumlaw08.InlineLinks'. -/
def inlineLinksUptoCard : Claim7 := { stood := { row := inlineLinksUptoRow, standIns := [], harness := (true, "889fc57bd8373b249fed96d6cf85590f9b1899a1254be66f216440e9c9409872"), looks := false }, kinds := [], alts := [], laidByText := true, laidKinds := [.data, .pinned], laidTests := true, laidLooks := .later }
def InlineLinksUptoCardSaid : Prop := Claim7.holds Tryz.pinned (.plain (OpenSpec.upto inlineLinksSpec)) inlineLinksUptoCard

/-- THE SECOND FORM's CARD OF 'scriptoriumlaw08.InlineCode'. -/
def inlineCodeUptoCard : Claim7 := { stood := { row := inlineCodeUptoRow, standIns := [], harness := (true, "889fc57bd8373b249fed96d6cf85590f9b1899a1254be66f216440e9c9409872"), looks := false }, kinds := [], alts := [], laidByText := true, laidKinds := [.data, .pinned], laidTests := true, laidLooks := .later }
def InlineCodeUptoCardSaid : Prop := Claim7.holds Tryz.pinned (.plain (OpenSpec.upto inlineCodeSpec)) inlineCodeUptoCard

/-- THE SECOND FORM's CARD OF 'scriptoriumlaw08.InlineBreaks'. -/
def inlineBreaksUptoCard : Claim7 := { stood := { row := inlineBreaksUptoRow, standIns := [], harness := (true, "889fc57bd8373b249fed96d6cf85590f9b1899a1254be66f216440e9c9409872"), looks := false }, kinds := [], alts := [], laidByText := true, laidKinds := [.data, .pinned], laidTests := true, laidLooks := .later }
def InlineBreaksUptoCardSaid : Prop := Claim7.holds Tryz.pinned (.plain (OpenSpec.upto inlineBreaksSpec)) inlineBreaksUptoCard
end Rows
end Go.Proofs.YtpjkfmpgmhpdoaaGreatDoor
