/-
  NARROWER THAN 'FOR EVERY INPUT', by the rows' own cells (each row's printed sentence says how): InlineForms: laid · InlineStars: laid · InlineLinks: laid · InlineFirst: laid.
  DERIVED. THE GIVEN ROWS OF THIS SEAT. 4 by the template 'for every input the law returns true; each argument reads behind the call as it read before'; 0 by the template 'total and deterministic' (their statements: YtjdijlaoeoikhaaGreatDoorTotals.lean).
  GIVEN WITH THE SEED: the statements are not yours to turn. If you find one false, say at which input.
  Laid BY PROGRAM, IN A SANDBOX (cutbox-rows.mjs): the forced cells as the released guide's own fill.sh prints them over the translation b39065363e35ee18… (all of the seat's roots in one cut). By AI agents, Wed Nov 11 2026. No macro, syntax, notation, axiom, sorry.
-/
import Derived.Test.YtjdijlaoeoikhaaGreatDoorChecked
import GoSem.PinnedTables
import GoSem.Claim
import GoSem.ClaimJoined
import GoSem.ClaimMapViews
import Derived.JoinedTies
import Derived.KernelRfl
namespace Go.Proofs.YtjdijlaoeoikhaaGreatDoor
/- THE CELL 'sum', in the pinned program and in every row, IS THE sha256 OF THE DUMP (.gsa) THAT YtjdijlaoeoikhaaGreatDoorProg.lean LOADS. Nothing in Lean hashes anything: it is a label: what it is worth is what the hold of that sum in a sandbox is worth. -/
noncomputable def Tryz.pinned : Pinned := { name := "ytjdijlaoeoikhaagreatdoor", sum := "b39065363e35ee185f72834e6344c07ab8092497a93de439c358a51429229c48", checked := Tryz.checked }
namespace Rows
def none {H : Type} : Left H := { results := [], args := [] }

/- WHAT THE LISTED PACKAGE-LEVEL VARIABLES READ AS WHEN THE CALL BEGINS. Each datum BY PROGRAM (the guide's laid-datum.mjs) off the statement by which the dump's own 'gosem.cut.vars' lays the variable. In a bare row this is a premise. The card (YtjdijlaoeoikhaaGreatDoorCards.lean) ties it to the program's text. -/
def laid_unicode_utf8_acceptRanges {H : Type} : DataW H := .agg [.agg [.lit (.int .u8 128), .lit (.int .u8 191)], .agg [.lit (.int .u8 160), .lit (.int .u8 191)], .agg [.lit (.int .u8 128), .lit (.int .u8 159)], .agg [.lit (.int .u8 144), .lit (.int .u8 191)], .agg [.lit (.int .u8 128), .lit (.int .u8 143)], .agg [.lit (.int .u8 0), .lit (.int .u8 0)], .agg [.lit (.int .u8 0), .lit (.int .u8 0)], .agg [.lit (.int .u8 0), .lit (.int .u8 0)], .agg [.lit (.int .u8 0), .lit (.int .u8 0)], .agg [.lit (.int .u8 0), .lit (.int .u8 0)], .agg [.lit (.int .u8 0), .lit (.int .u8 0)], .agg [.lit (.int .u8 0), .lit (.int .u8 0)], .agg [.lit (.int .u8 0), .lit (.int .u8 0)], .agg [.lit (.int .u8 0), .lit (.int .u8 0)], .agg [.lit (.int .u8 0), .lit (.int .u8 0)], .agg [.lit (.int .u8 0), .lit (.int .u8 0)]]
/-- One of Go's own tables, pinned by name: the form's constant. -/
def laid_unicode_utf8_first : DataW Unit := Go.Pinned.utf8First

/-- 'scriptoriumlaw08.InlineForms': WHATEVER THE INPUT: true; the input reads as it did. -/
def inlineFormsSpec : ChangeSpec := { name := "inlineForms", fn := fun _ => fun
  | [d1, d2] => { results := [.lit (.bool true)], args := [d1, d2] }
  | _ => none }
def inlineFormsRow : OpenClaim := { program := "ytjdijlaoeoikhaagreatdoor", sum := "b39065363e35ee185f72834e6344c07ab8092497a93de439c358a51429229c48", func := "scriptorium/scriptoriumlaw08.InlineForms", spec := "inlineForms", inPlace := ["internal/bytealg.IndexByteString", "internal/bytealg.IndexString", "internal/bytealg.CountString", "internal/abi.NoEscape", "internal/bytealg.MakeNoZero"], unfollowed := true, recurses := true, named := ["unicode/utf8.first", "unicode/utf8.acceptRanges", "internal/bytealg.MaxLen"], apart := false, laid := [("unicode/utf8.acceptRanges", laid_unicode_utf8_acceptRanges), ("unicode/utf8.first", laid_unicode_utf8_first)] }
def InlineFormsSaid : Prop := inlineFormsRow.holds Tryz.pinned (OpenSpec.ofChange inlineFormsSpec)

/-- ITS FALSE NEIGHBOUR: 'it returns false'. Refute it at one input. -/
def inlineFormsWrong : ChangeSpec := { name := "inlineForms", fn := fun _ => fun
  | [d1, d2] => { results := [.lit (.bool false)], args := [d1, d2] }
  | _ => none }
def InlineFormsWrongFalsely : Prop := inlineFormsRow.holds Tryz.pinned (OpenSpec.ofChange inlineFormsWrong)

/-- 'scriptoriumlaw08.InlineStars': WHATEVER THE INPUT: true; the input reads as it did. -/
def inlineStarsSpec : ChangeSpec := { name := "inlineStars", fn := fun _ => fun
  | [d1, d2, d3] => { results := [.lit (.bool true)], args := [d1, d2, d3] }
  | _ => none }
def inlineStarsRow : OpenClaim := { program := "ytjdijlaoeoikhaagreatdoor", sum := "b39065363e35ee185f72834e6344c07ab8092497a93de439c358a51429229c48", func := "scriptorium/scriptoriumlaw08.InlineStars", spec := "inlineStars", inPlace := ["internal/bytealg.IndexByteString", "internal/bytealg.IndexString", "internal/bytealg.CountString", "internal/abi.NoEscape", "internal/bytealg.MakeNoZero"], unfollowed := true, recurses := true, named := ["unicode/utf8.first", "unicode/utf8.acceptRanges", "internal/bytealg.MaxLen"], apart := false, laid := [("unicode/utf8.acceptRanges", laid_unicode_utf8_acceptRanges), ("unicode/utf8.first", laid_unicode_utf8_first)] }
def InlineStarsSaid : Prop := inlineStarsRow.holds Tryz.pinned (OpenSpec.ofChange inlineStarsSpec)

/-- ITS FALSE NEIGHBOUR: 'it returns false'. Refute it at one input. -/
def inlineStarsWrong : ChangeSpec := { name := "inlineStars", fn := fun _ => fun
  | [d1, d2, d3] => { results := [.lit (.bool false)], args := [d1, d2, d3] }
  | _ => none }
def InlineStarsWrongFalsely : Prop := inlineStarsRow.holds Tryz.pinned (OpenSpec.ofChange inlineStarsWrong)

/-- 'scriptoriumlaw08.InlineLinks': WHATEVER THE INPUT: true; the input reads as it did. -/
def inlineLinksSpec : ChangeSpec := { name := "inlineLinks", fn := fun _ => fun
  | [d1, d2, d3, d4, d5] => { results := [.lit (.bool true)], args := [d1, d2, d3, d4, d5] }
  | _ => none }
def inlineLinksRow : OpenClaim := { program := "ytjdijlaoeoikhaagreatdoor", sum := "b39065363e35ee185f72834e6344c07ab8092497a93de439c358a51429229c48", func := "scriptorium/scriptoriumlaw08.InlineLinks", spec := "inlineLinks", inPlace := ["internal/bytealg.IndexByteString", "internal/bytealg.IndexString", "internal/bytealg.CountString", "internal/abi.NoEscape", "internal/bytealg.MakeNoZero"], unfollowed := true, recurses := true, named := ["unicode/utf8.first", "unicode/utf8.acceptRanges", "internal/bytealg.MaxLen"], apart := false, laid := [("unicode/utf8.acceptRanges", laid_unicode_utf8_acceptRanges), ("unicode/utf8.first", laid_unicode_utf8_first)] }
def InlineLinksSaid : Prop := inlineLinksRow.holds Tryz.pinned (OpenSpec.ofChange inlineLinksSpec)

/-- ITS FALSE NEIGHBOUR: 'it returns false'. Refute it at one input. -/
def inlineLinksWrong : ChangeSpec := { name := "inlineLinks", fn := fun _ => fun
  | [d1, d2, d3, d4, d5] => { results := [.lit (.bool false)], args := [d1, d2, d3, d4, d5] }
  | _ => none }
def InlineLinksWrongFalsely : Prop := inlineLinksRow.holds Tryz.pinned (OpenSpec.ofChange inlineLinksWrong)

/-- 'scriptoriumlaw08.InlineFirst': WHATEVER THE INPUT: true; the input reads as it did. -/
def inlineFirstSpec : ChangeSpec := { name := "inlineFirst", fn := fun _ => fun
  | [d1, d2] => { results := [.lit (.bool true)], args := [d1, d2] }
  | _ => none }
def inlineFirstRow : OpenClaim := { program := "ytjdijlaoeoikhaagreatdoor", sum := "b39065363e35ee185f72834e6344c07ab8092497a93de439c358a51429229c48", func := "scriptorium/scriptoriumlaw08.InlineFirst", spec := "inlineFirst", inPlace := ["internal/bytealg.IndexByteString", "internal/bytealg.IndexString", "internal/bytealg.CountString", "internal/abi.NoEscape", "internal/bytealg.MakeNoZero"], unfollowed := true, recurses := true, named := ["unicode/utf8.first", "unicode/utf8.acceptRanges", "internal/bytealg.MaxLen"], apart := false, laid := [("unicode/utf8.acceptRanges", laid_unicode_utf8_acceptRanges), ("unicode/utf8.first", laid_unicode_utf8_first)] }
def InlineFirstSaid : Prop := inlineFirstRow.holds Tryz.pinned (OpenSpec.ofChange inlineFirstSpec)

/-- ITS FALSE NEIGHBOUR: 'it returns false'. Refute it at one input. -/
def inlineFirstWrong : ChangeSpec := { name := "inlineFirst", fn := fun _ => fun
  | [d1, d2] => { results := [.lit (.bool false)], args := [d1, d2] }
  | _ => none }
def InlineFirstWrongFalsely : Prop := inlineFirstRow.holds Tryz.pinned (OpenSpec.ofChange inlineFirstWrong)

/- THE SECOND FORM. 'bulk': how many values and letters a reading holds, each counted each time it is reached (what is shared counts as often as it is met; a slice's spare places count too). A statement '..UptoSaid' is the law's where the arguments, and the package variables that the reading takes, are together of bulk at most 1048576: NARROWER than '..Said'. Prove '..Said' where nothing that the law and all that it calls make is longer than what came in: it says more and counts as full. Else prove '..UptoSaid'. A law counts once. -/
mutual
def uptoBulk {H : Type} : DataW H → Nat
  | .lit (.string bytes) => bytes.length + 1
  | .lit _ => 1
  | .nil => 1
  | .ptr d => uptoBulk d + 1
  | .slice elems spare => uptoBulkAll elems + uptoBulkAll spare + 1
  | .agg parts => uptoBulkAll parts + 1
  | .iface _ d => uptoBulk d + 1
  | .map entries => uptoBulkEntries entries + 1
  | .held _ => 1
def uptoBulkAll {H : Type} : List (DataW H) → Nat
  | [] => 0
  | d :: r => uptoBulk d + uptoBulkAll r
def uptoBulkEntries {H : Type} : List (Lit × DataW H) → Nat
  | [] => 0
  | x :: r => uptoBulkEntry x + uptoBulkEntries r
def uptoBulkEntry {H : Type} : Lit × DataW H → Nat
  | (.string bytes, d) => bytes.length + uptoBulk d + 1
  | (_, d) => uptoBulk d + 1
 end
def uptoSmall : (H : Type) → List (DataW H) → Bool := fun _ ds => decide (uptoBulkAll ds ≤ 1048576)
def OpenSpec.upto (s : _root_.Go.ChangeSpec) : _root_.Go.OpenSpec := { _root_.Go.OpenSpec.ofChange s with cond := some uptoSmall }

/-- 'scriptoriumlaw08.InlineForms', WHERE WHAT IT READS IS OF BULK AT MOST 1048576: true; the input reads as it did. -/
def inlineFormsUptoRow : OpenClaim := { program := "ytjdijlaoeoikhaagreatdoor", sum := "b39065363e35ee185f72834e6344c07ab8092497a93de439c358a51429229c48", func := "scriptorium/scriptoriumlaw08.InlineForms", spec := "inlineForms", inPlace := ["internal/bytealg.IndexByteString", "internal/bytealg.IndexString", "internal/bytealg.CountString", "internal/abi.NoEscape", "internal/bytealg.MakeNoZero"], unfollowed := true, recurses := true, named := ["unicode/utf8.first", "unicode/utf8.acceptRanges", "internal/bytealg.MaxLen"], apart := false, laid := [("unicode/utf8.acceptRanges", laid_unicode_utf8_acceptRanges), ("unicode/utf8.first", laid_unicode_utf8_first)], narrowed := true }
def InlineFormsUptoSaid : Prop := inlineFormsUptoRow.holds Tryz.pinned (OpenSpec.upto inlineFormsSpec)

/-- 'scriptoriumlaw08.InlineStars', WHERE WHAT IT READS IS OF BULK AT MOST 1048576: true; the input reads as it did. -/
def inlineStarsUptoRow : OpenClaim := { program := "ytjdijlaoeoikhaagreatdoor", sum := "b39065363e35ee185f72834e6344c07ab8092497a93de439c358a51429229c48", func := "scriptorium/scriptoriumlaw08.InlineStars", spec := "inlineStars", inPlace := ["internal/bytealg.IndexByteString", "internal/bytealg.IndexString", "internal/bytealg.CountString", "internal/abi.NoEscape", "internal/bytealg.MakeNoZero"], unfollowed := true, recurses := true, named := ["unicode/utf8.first", "unicode/utf8.acceptRanges", "internal/bytealg.MaxLen"], apart := false, laid := [("unicode/utf8.acceptRanges", laid_unicode_utf8_acceptRanges), ("unicode/utf8.first", laid_unicode_utf8_first)], narrowed := true }
def InlineStarsUptoSaid : Prop := inlineStarsUptoRow.holds Tryz.pinned (OpenSpec.upto inlineStarsSpec)

/-- 'scriptoriumlaw08.InlineLinks', WHERE WHAT IT READS IS OF BULK AT MOST 1048576: true; the input reads as it did. -/
def inlineLinksUptoRow : OpenClaim := { program := "ytjdijlaoeoikhaagreatdoor", sum := "b39065363e35ee185f72834e6344c07ab8092497a93de439c358a51429229c48", func := "scriptorium/scriptoriumlaw08.InlineLinks", spec := "inlineLinks", inPlace := ["internal/bytealg.IndexByteString", "internal/bytealg.IndexString", "internal/bytealg.CountString", "internal/abi.NoEscape", "internal/bytealg.MakeNoZero"], unfollowed := true, recurses := true, named := ["unicode/utf8.first", "unicode/utf8.acceptRanges", "internal/bytealg.MaxLen"], apart := false, laid := [("unicode/utf8.acceptRanges", laid_unicode_utf8_acceptRanges), ("unicode/utf8.first", laid_unicode_utf8_first)], narrowed := true }
def InlineLinksUptoSaid : Prop := inlineLinksUptoRow.holds Tryz.pinned (OpenSpec.upto inlineLinksSpec)

/-- 'scriptoriumlaw08.InlineFirst', WHERE WHAT IT READS IS OF BULK AT MOST 1048576: true; the input reads as it did. -/
def inlineFirstUptoRow : OpenClaim := { program := "ytjdijlaoeoikhaagreatdoor", sum := "b39065363e35ee185f72834e6344c07ab8092497a93de439c358a51429229c48", func := "scriptorium/scriptoriumlaw08.InlineFirst", spec := "inlineFirst", inPlace := ["internal/bytealg.IndexByteString", "internal/bytealg.IndexString", "internal/bytealg.CountString", "internal/abi.NoEscape", "internal/bytealg.MakeNoZero"], unfollowed := true, recurses := true, named := ["unicode/utf8.first", "unicode/utf8.acceptRanges", "internal/bytealg.MaxLen"], apart := false, laid := [("unicode/utf8.acceptRanges", laid_unicode_utf8_acceptRanges), ("unicode/utf8.first", laid_unicode_utf8_first)], narrowed := true }
def InlineFirstUptoSaid : Prop := inlineFirstUptoRow.holds Tryz.pinned (OpenSpec.upto inlineFirstSpec)

end Rows
end Go.Proofs.YtjdijlaoeoikhaaGreatDoor
