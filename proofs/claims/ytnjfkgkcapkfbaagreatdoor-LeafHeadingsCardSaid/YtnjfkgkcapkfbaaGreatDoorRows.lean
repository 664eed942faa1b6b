/-
  NARROWER THAN 'FOR EVERY INPUT', by the rows' own cells (each row's printed sentence says how): LeafOne: laid · LeafFences: laid · LeafMarkers: laid · LeafHeadings: laid · LeafRules: laid · LeafUnders: laid.
  DERIVED. THE GIVEN ROWS OF THIS SEAT. 6 by the template 'for every input the law returns true; each argument reads behind the call as it read before'; 0 by the template 'total and deterministic' (their statements: YtnjfkgkcapkfbaaGreatDoorTotals.lean).
  GIVEN WITH THE SEED: the statements are not yours to turn. If you find one false, say at which input.
  Laid BY PROGRAM, IN A SANDBOX (cutbox-rows.mjs): the forced cells as the released guide's own fill.sh prints them over the translation b2e9b87c00fd3cff… (all of the seat's roots in one cut). By AI agents, Wed Nov 11 2026. No macro, syntax, notation, axiom, sorry.
-/
import Derived.Test.YtnjfkgkcapkfbaaGreatDoorChecked
import GoSem.PinnedTables
import GoSem.Claim
import GoSem.ClaimJoined
import GoSem.ClaimMapViews
import Derived.JoinedTies
import Derived.KernelRfl
namespace Go.Proofs.YtnjfkgkcapkfbaaGreatDoor
/- THE CELL 'sum', in the pinned program and in every row, IS THE sha256 OF THE DUMP (.gsa) THAT YtnjfkgkcapkfbaaGreatDoorProg.lean LOADS. Nothing in Lean hashes anything: it is a label: what it is worth is what the hold of that sum in a sandbox is worth. -/
noncomputable def Tryz.pinned : Pinned := { name := "ytnjfkgkcapkfbaagreatdoor", sum := "b2e9b87c00fd3cff8f4c236633817dc1765ea17c0c6a3f6bf8a965a8231d6ed1", checked := Tryz.checked }
namespace Rows
def none {H : Type} : Left H := { results := [], args := [] }

/- WHAT THE LISTED PACKAGE-LEVEL VARIABLES READ AS WHEN THE CALL BEGINS. Each datum BY PROGRAM (the guide's laid-datum.mjs) off the statement by which the dump's own 'gosem.cut.vars' lays the variable. In a bare row this is a premise. The card (YtnjfkgkcapkfbaaGreatDoorCards.lean) ties it to the program's text. -/
def laid_unicode_utf8_acceptRanges {H : Type} : DataW H := .agg [.agg [.lit (.int .u8 128), .lit (.int .u8 191)], .agg [.lit (.int .u8 160), .lit (.int .u8 191)], .agg [.lit (.int .u8 128), .lit (.int .u8 159)], .agg [.lit (.int .u8 144), .lit (.int .u8 191)], .agg [.lit (.int .u8 128), .lit (.int .u8 143)], .agg [.lit (.int .u8 0), .lit (.int .u8 0)], .agg [.lit (.int .u8 0), .lit (.int .u8 0)], .agg [.lit (.int .u8 0), .lit (.int .u8 0)], .agg [.lit (.int .u8 0), .lit (.int .u8 0)], .agg [.lit (.int .u8 0), .lit (.int .u8 0)], .agg [.lit (.int .u8 0), .lit (.int .u8 0)], .agg [.lit (.int .u8 0), .lit (.int .u8 0)], .agg [.lit (.int .u8 0), .lit (.int .u8 0)], .agg [.lit (.int .u8 0), .lit (.int .u8 0)], .agg [.lit (.int .u8 0), .lit (.int .u8 0)], .agg [.lit (.int .u8 0), .lit (.int .u8 0)]]
/-- One of Go's own tables, pinned by name: the form's constant. -/
def laid_unicode_CaseRanges : DataW Unit := Go.Pinned.caseRanges
/-- One of Go's own tables, pinned by name: the form's constant. -/
def laid_unicode_utf8_first : DataW Unit := Go.Pinned.utf8First

/-- 'scriptoriumlaw05.LeafOne': WHATEVER THE INPUT: true; the input reads as it did. -/
def leafOneSpec : ChangeSpec := { name := "leafOne", fn := fun _ => fun
  | [d] => { results := [.lit (.bool true)], args := [d] }
  | _ => none }
def leafOneRow : OpenClaim := { program := "ytnjfkgkcapkfbaagreatdoor", sum := "b2e9b87c00fd3cff8f4c236633817dc1765ea17c0c6a3f6bf8a965a8231d6ed1", func := "scriptorium/scriptoriumlaw05.LeafOne", spec := "leafOne", inPlace := ["internal/bytealg.IndexByteString", "internal/bytealg.IndexString", "internal/bytealg.CountString", "internal/abi.NoEscape", "internal/bytealg.MakeNoZero"], unfollowed := true, recurses := true, named := ["unicode/utf8.first", "unicode/utf8.acceptRanges", "internal/bytealg.MaxLen", "unicode.CaseRanges"], apart := false, laid := [("unicode/utf8.acceptRanges", laid_unicode_utf8_acceptRanges), ("unicode.CaseRanges", laid_unicode_CaseRanges), ("unicode/utf8.first", laid_unicode_utf8_first)] }
def LeafOneSaid : Prop := leafOneRow.holds Tryz.pinned (OpenSpec.ofChange leafOneSpec)

/-- ITS FALSE NEIGHBOUR: 'it returns false'. Refute it at one input. -/
def leafOneWrong : ChangeSpec := { name := "leafOne", fn := fun _ => fun
  | [d] => { results := [.lit (.bool false)], args := [d] }
  | _ => none }
def LeafOneWrongFalsely : Prop := leafOneRow.holds Tryz.pinned (OpenSpec.ofChange leafOneWrong)

/-- 'scriptoriumlaw05.LeafFences': WHATEVER THE INPUT: true; the input reads as it did. -/
def leafFencesSpec : ChangeSpec := { name := "leafFences", fn := fun _ => fun
  | [d1, d2, d3, d4] => { results := [.lit (.bool true)], args := [d1, d2, d3, d4] }
  | _ => none }
def leafFencesRow : OpenClaim := { program := "ytnjfkgkcapkfbaagreatdoor", sum := "b2e9b87c00fd3cff8f4c236633817dc1765ea17c0c6a3f6bf8a965a8231d6ed1", func := "scriptorium/scriptoriumlaw05.LeafFences", spec := "leafFences", inPlace := ["internal/bytealg.IndexByteString", "internal/bytealg.IndexString", "internal/bytealg.CountString", "internal/abi.NoEscape", "internal/bytealg.MakeNoZero"], unfollowed := true, recurses := true, named := ["unicode/utf8.first", "unicode/utf8.acceptRanges", "internal/bytealg.MaxLen", "unicode.CaseRanges"], apart := false, laid := [("unicode/utf8.acceptRanges", laid_unicode_utf8_acceptRanges), ("unicode.CaseRanges", laid_unicode_CaseRanges), ("unicode/utf8.first", laid_unicode_utf8_first)] }
def LeafFencesSaid : Prop := leafFencesRow.holds Tryz.pinned (OpenSpec.ofChange leafFencesSpec)

/-- ITS FALSE NEIGHBOUR: 'it returns false'. Refute it at one input. -/
def leafFencesWrong : ChangeSpec := { name := "leafFences", fn := fun _ => fun
  | [d1, d2, d3, d4] => { results := [.lit (.bool false)], args := [d1, d2, d3, d4] }
  | _ => none }
def LeafFencesWrongFalsely : Prop := leafFencesRow.holds Tryz.pinned (OpenSpec.ofChange leafFencesWrong)

/-- 'scriptoriumlaw05.LeafMarkers': WHATEVER THE INPUT: true; the input reads as it did. -/
def leafMarkersSpec : ChangeSpec := { name := "leafMarkers", fn := fun _ => fun
  | [d1, d2, d3] => { results := [.lit (.bool true)], args := [d1, d2, d3] }
  | _ => none }
def leafMarkersRow : OpenClaim := { program := "ytnjfkgkcapkfbaagreatdoor", sum := "b2e9b87c00fd3cff8f4c236633817dc1765ea17c0c6a3f6bf8a965a8231d6ed1", func := "scriptorium/scriptoriumlaw05.LeafMarkers", spec := "leafMarkers", inPlace := ["internal/bytealg.IndexByteString", "internal/bytealg.IndexString", "internal/bytealg.CountString", "internal/abi.NoEscape", "internal/bytealg.MakeNoZero"], unfollowed := true, recurses := true, named := ["unicode/utf8.first", "unicode/utf8.acceptRanges", "internal/bytealg.MaxLen", "unicode.CaseRanges"], apart := false, laid := [("unicode/utf8.acceptRanges", laid_unicode_utf8_acceptRanges), ("unicode.CaseRanges", laid_unicode_CaseRanges), ("unicode/utf8.first", laid_unicode_utf8_first)] }
def LeafMarkersSaid : Prop := leafMarkersRow.holds Tryz.pinned (OpenSpec.ofChange leafMarkersSpec)

/-- ITS FALSE NEIGHBOUR: 'it returns false'. Refute it at one input. -/
def leafMarkersWrong : ChangeSpec := { name := "leafMarkers", fn := fun _ => fun
  | [d1, d2, d3] => { results := [.lit (.bool false)], args := [d1, d2, d3] }
  | _ => none }
def LeafMarkersWrongFalsely : Prop := leafMarkersRow.holds Tryz.pinned (OpenSpec.ofChange leafMarkersWrong)

/-- 'scriptoriumlaw05.LeafHeadings': WHATEVER THE INPUT: true; the input reads as it did. -/
def leafHeadingsSpec : ChangeSpec := { name := "leafHeadings", fn := fun _ => fun
  | [d1, d2, d3, d4] => { results := [.lit (.bool true)], args := [d1, d2, d3, d4] }
  | _ => none }
def leafHeadingsRow : OpenClaim := { program := "ytnjfkgkcapkfbaagreatdoor", sum := "b2e9b87c00fd3cff8f4c236633817dc1765ea17c0c6a3f6bf8a965a8231d6ed1", func := "scriptorium/scriptoriumlaw05.LeafHeadings", spec := "leafHeadings", inPlace := ["internal/bytealg.IndexByteString", "internal/bytealg.IndexString", "internal/bytealg.CountString", "internal/abi.NoEscape", "internal/bytealg.MakeNoZero"], unfollowed := true, recurses := true, named := ["unicode/utf8.first", "unicode/utf8.acceptRanges", "internal/bytealg.MaxLen", "unicode.CaseRanges"], apart := false, laid := [("unicode/utf8.acceptRanges", laid_unicode_utf8_acceptRanges), ("unicode.CaseRanges", laid_unicode_CaseRanges), ("unicode/utf8.first", laid_unicode_utf8_first)] }
def LeafHeadingsSaid : Prop := leafHeadingsRow.holds Tryz.pinned (OpenSpec.ofChange leafHeadingsSpec)

/-- ITS FALSE NEIGHBOUR: 'it returns false'. Refute it at one input. -/
def leafHeadingsWrong : ChangeSpec := { name := "leafHeadings", fn := fun _ => fun
  | [d1, d2, d3, d4] => { results := [.lit (.bool false)], args := [d1, d2, d3, d4] }
  | _ => none }
def LeafHeadingsWrongFalsely : Prop := leafHeadingsRow.holds Tryz.pinned (OpenSpec.ofChange leafHeadingsWrong)

/-- 'scriptoriumlaw05.LeafRules': WHATEVER THE INPUT: true; the input reads as it did. -/
def leafRulesSpec : ChangeSpec := { name := "leafRules", fn := fun _ => fun
  | [d1, d2, d3] => { results := [.lit (.bool true)], args := [d1, d2, d3] }
  | _ => none }
def leafRulesRow : OpenClaim := { program := "ytnjfkgkcapkfbaagreatdoor", sum := "b2e9b87c00fd3cff8f4c236633817dc1765ea17c0c6a3f6bf8a965a8231d6ed1", func := "scriptorium/scriptoriumlaw05.LeafRules", spec := "leafRules", inPlace := ["internal/bytealg.IndexByteString", "internal/bytealg.IndexString", "internal/bytealg.CountString", "internal/abi.NoEscape", "internal/bytealg.MakeNoZero"], unfollowed := true, recurses := true, named := ["unicode/utf8.first", "unicode/utf8.acceptRanges", "internal/bytealg.MaxLen", "unicode.CaseRanges"], apart := false, laid := [("unicode/utf8.acceptRanges", laid_unicode_utf8_acceptRanges), ("unicode.CaseRanges", laid_unicode_CaseRanges), ("unicode/utf8.first", laid_unicode_utf8_first)] }
def LeafRulesSaid : Prop := leafRulesRow.holds Tryz.pinned (OpenSpec.ofChange leafRulesSpec)

/-- ITS FALSE NEIGHBOUR: 'it returns false'. Refute it at one input. -/
def leafRulesWrong : ChangeSpec := { name := "leafRules", fn := fun _ => fun
  | [d1, d2, d3] => { results := [.lit (.bool false)], args := [d1, d2, d3] }
  | _ => none }
def LeafRulesWrongFalsely : Prop := leafRulesRow.holds Tryz.pinned (OpenSpec.ofChange leafRulesWrong)

/-- 'scriptoriumlaw05.LeafUnders': WHATEVER THE INPUT: true; the input reads as it did. -/
def leafUndersSpec : ChangeSpec := { name := "leafUnders", fn := fun _ => fun
  | [d1, d2, d3] => { results := [.lit (.bool true)], args := [d1, d2, d3] }
  | _ => none }
def leafUndersRow : OpenClaim := { program := "ytnjfkgkcapkfbaagreatdoor", sum := "b2e9b87c00fd3cff8f4c236633817dc1765ea17c0c6a3f6bf8a965a8231d6ed1", func := "scriptorium/scriptoriumlaw05.LeafUnders", spec := "leafUnders", inPlace := ["internal/bytealg.IndexByteString", "internal/bytealg.IndexString", "internal/bytealg.CountString", "internal/abi.NoEscape", "internal/bytealg.MakeNoZero"], unfollowed := true, recurses := true, named := ["unicode/utf8.first", "unicode/utf8.acceptRanges", "internal/bytealg.MaxLen", "unicode.CaseRanges"], apart := false, laid := [("unicode/utf8.acceptRanges", laid_unicode_utf8_acceptRanges), ("unicode.CaseRanges", laid_unicode_CaseRanges), ("unicode/utf8.first", laid_unicode_utf8_first)] }
def LeafUndersSaid : Prop := leafUndersRow.holds Tryz.pinned (OpenSpec.ofChange leafUndersSpec)

/-- ITS FALSE NEIGHBOUR: 'it returns false'. Refute it at one input. -/
def leafUndersWrong : ChangeSpec := { name := "leafUnders", fn := fun _ => fun
  | [d1, d2, d3] => { results := [.lit (.bool false)], args := [d1, d2, d3] }
  | _ => none }
def LeafUndersWrongFalsely : Prop := leafUndersRow.holds Tryz.pinned (OpenSpec.ofChange leafUndersWrong)

/- THE SECOND FORM. 'bulk': how many values and letters a reading holds, each counted each time it is reached (what is shared counts as often as it is met; a slice's spare places count too). A statement '..UptoSaid' is the law's where the arguments, and the package variables that the reading takes, are together of bulk at most 1048576: NARROWER than '..Said'. Prove '..Said' where nothing that the law and all that it calls make is longer than what came in: it says more and counts as full. Else prove '..UptoSaid'. A law counts once. -/
mutual
def uptoBulk {H : Type} : DataW H → Nat
  | .lit (.string bytes) => bytes.length + 1
  | .lit _ => 1
  | .nil => 1
  | .ptr d => uptoBulk d + 1
  | .slice elems spare => uptoBulkAll elems + uptoBulkAll spare + 1
  | .agg parts => uptoBulkAll parts + 1
  | .iface _ d => uptoBulk d + 1
  | .map entries => uptoBulkEntries entries + 1
  | .held _ => 1
def uptoBulkAll {H : Type} : List (DataW H) → Nat
  | [] => 0
  | d :: r => uptoBulk d + uptoBulkAll r
def uptoBulkEntries {H : Type} : List (Lit × DataW H) → Nat
  | [] => 0
  | x :: r => uptoBulkEntry x + uptoBulkEntries r
def uptoBulkEntry {H : Type} : Lit × DataW H → Nat
  | (.string bytes, d) => bytes.length + uptoBulk d + 1
  | (_, d) => uptoBulk d + 1
 end
def uptoSmall : (H : Type) → List (DataW H) → Bool := fun _ ds => decide (uptoBulkAll ds ≤ 1048576)
def OpenSpec.upto (s : _root_.Go.ChangeSpec) : _root_.Go.OpenSpec := { _root_.Go.OpenSpec.ofChange s with cond := some uptoSmall }

/-- 'scriptoriumlaw05.LeafOne', WHERE WHAT IT READS IS OF BULK AT MOST 1048576: true; the input reads as it did. -/
def leafOneUptoRow : OpenClaim := { program := "ytnjfkgkcapkfbaagreatdoor", sum := "b2e9b87c00fd3cff8f4c236633817dc1765ea17c0c6a3f6bf8a965a8231d6ed1", func := "scriptorium/scriptoriumlaw05.LeafOne", spec := "leafOne", inPlace := ["internal/bytealg.IndexByteString", "internal/bytealg.IndexString", "internal/bytealg.CountString", "internal/abi.NoEscape", "internal/bytealg.MakeNoZero"], unfollowed := true, recurses := true, named := ["unicode/utf8.first", "unicode/utf8.acceptRanges", "internal/bytealg.MaxLen", "unicode.CaseRanges"], apart := false, laid := [("unicode/utf8.acceptRanges", laid_unicode_utf8_acceptRanges), ("unicode.CaseRanges", laid_unicode_CaseRanges), ("unicode/utf8.first", laid_unicode_utf8_first)], narrowed := true }
def LeafOneUptoSaid : Prop := leafOneUptoRow.holds Tryz.pinned (OpenSpec.upto leafOneSpec)

/-- 'scriptoriumlaw05.LeafFences', WHERE WHAT IT READS IS OF BULK AT MOST 1048576: true; the input reads as it did. -/
def leafFencesUptoRow : OpenClaim := { program := "ytnjfkgkcapkfbaagreatdoor", sum := "b2e9b87c00fd3cff8f4c236633817dc1765ea17c0c6a3f6bf8a965a8231d6ed1", func := "scriptorium/scriptoriumlaw05.LeafFences", spec := "leafFences", inPlace := ["internal/bytealg.IndexByteString", "internal/bytealg.IndexString", "internal/bytealg.CountString", "internal/abi.NoEscape", "internal/bytealg.MakeNoZero"], unfollowed := true, recurses := true, named := ["unicode/utf8.first", "unicode/utf8.acceptRanges", "internal/bytealg.MaxLen", "unicode.CaseRanges"], apart := false, laid := [("unicode/utf8.acceptRanges", laid_unicode_utf8_acceptRanges), ("unicode.CaseRanges", laid_unicode_CaseRanges), ("unicode/utf8.first", laid_unicode_utf8_first)], narrowed := true }
def LeafFencesUptoSaid : Prop := leafFencesUptoRow.holds Tryz.pinned (OpenSpec.upto leafFencesSpec)

/-- 'scriptoriumlaw05.LeafMarkers', WHERE WHAT IT READS IS OF BULK AT MOST 1048576: true; the input reads as it did. -/
def leafMarkersUptoRow : OpenClaim := { program := "ytnjfkgkcapkfbaagreatdoor", sum := "b2e9b87c00fd3cff8f4c236633817dc1765ea17c0c6a3f6bf8a965a8231d6ed1", func := "scriptorium/scriptoriumlaw05.LeafMarkers", spec := "leafMarkers", inPlace := ["internal/bytealg.IndexByteString", "internal/bytealg.IndexString", "internal/bytealg.CountString", "internal/abi.NoEscape", "internal/bytealg.MakeNoZero"], unfollowed := true, recurses := true, named := ["unicode/utf8.first", "unicode/utf8.acceptRanges", "internal/bytealg.MaxLen", "unicode.CaseRanges"], apart := false, laid := [("unicode/utf8.acceptRanges", laid_unicode_utf8_acceptRanges), ("unicode.CaseRanges", laid_unicode_CaseRanges), ("unicode/utf8.first", laid_unicode_utf8_first)], narrowed := true }
def LeafMarkersUptoSaid : Prop := leafMarkersUptoRow.holds Tryz.pinned (OpenSpec.upto leafMarkersSpec)

/-- 'scriptoriumlaw05.LeafHeadings', WHERE WHAT IT READS IS OF BULK AT MOST 1048576: true; the input reads as it did. -/
def leafHeadingsUptoRow : OpenClaim := { program := "ytnjfkgkcapkfbaagreatdoor", sum := "b2e9b87c00fd3cff8f4c236633817dc1765ea17c0c6a3f6bf8a965a8231d6ed1", func := "scriptorium/scriptoriumlaw05.LeafHeadings", spec := "leafHeadings", inPlace := ["internal/bytealg.IndexByteString", "internal/bytealg.IndexString", "internal/bytealg.CountString", "internal/abi.NoEscape", "internal/bytealg.MakeNoZero"], unfollowed := true, recurses := true, named := ["unicode/utf8.first", "unicode/utf8.acceptRanges", "internal/bytealg.MaxLen", "unicode.CaseRanges"], apart := false, laid := [("unicode/utf8.acceptRanges", laid_unicode_utf8_acceptRanges), ("unicode.CaseRanges", laid_unicode_CaseRanges), ("unicode/utf8.first", laid_unicode_utf8_first)], narrowed := true }
def LeafHeadingsUptoSaid : Prop := leafHeadingsUptoRow.holds Tryz.pinned (OpenSpec.upto leafHeadingsSpec)

/-- 'scriptoriumlaw05.LeafRules', WHERE WHAT IT READS IS OF BULK AT MOST 1048576: true; the input reads as it did. -/
def leafRulesUptoRow : OpenClaim := { program := "ytnjfkgkcapkfbaagreatdoor", sum := "b2e9b87c00fd3cff8f4c236633817dc1765ea17c0c6a3f6bf8a965a8231d6ed1", func := "scriptorium/scriptoriumlaw05.LeafRules", spec := "leafRules", inPlace := ["internal/bytealg.IndexByteString", "internal/bytealg.IndexString", "internal/bytealg.CountString", "internal/abi.NoEscape", "internal/bytealg.MakeNoZero"], unfollowed := true, recurses := true, named := ["unicode/utf8.first", "unicode/utf8.acceptRanges", "internal/bytealg.MaxLen", "unicode.CaseRanges"], apart := false, laid := [("unicode/utf8.acceptRanges", laid_unicode_utf8_acceptRanges), ("unicode.CaseRanges", laid_unicode_CaseRanges), ("unicode/utf8.first", laid_unicode_utf8_first)], narrowed := true }
def LeafRulesUptoSaid : Prop := leafRulesUptoRow.holds Tryz.pinned (OpenSpec.upto leafRulesSpec)

/-- 'scriptoriumlaw05.LeafUnders', WHERE WHAT IT READS IS OF BULK AT MOST 1048576: true; the input reads as it did. -/
def leafUndersUptoRow : OpenClaim := { program := "ytnjfkgkcapkfbaagreatdoor", sum := "b2e9b87c00fd3cff8f4c236633817dc1765ea17c0c6a3f6bf8a965a8231d6ed1", func := "scriptorium/scriptoriumlaw05.LeafUnders", spec := "leafUnders", inPlace := ["internal/bytealg.IndexByteString", "internal/bytealg.IndexString", "internal/bytealg.CountString", "internal/abi.NoEscape", "internal/bytealg.MakeNoZero"], unfollowed := true, recurses := true, named := ["unicode/utf8.first", "unicode/utf8.acceptRanges", "internal/bytealg.MaxLen", "unicode.CaseRanges"], apart := false, laid := [("unicode/utf8.acceptRanges", laid_unicode_utf8_acceptRanges), ("unicode.CaseRanges", laid_unicode_CaseRanges), ("unicode/utf8.first", laid_unicode_utf8_first)], narrowed := true }
def LeafUndersUptoSaid : Prop := leafUndersUptoRow.holds Tryz.pinned (OpenSpec.upto leafUndersSpec)

end Rows
end Go.Proofs.YtnjfkgkcapkfbaaGreatDoor
