/-
  NARROWER THAN 'FOR EVERY INPUT', by the rows' own cells (each row's printed sentence says how): LinkTells: laid · LinkFront: laid · LinkDefines: laid · LinkLabels: laid · LinkPlaces: laid.
  DERIVED. THE GIVEN ROWS OF THIS SEAT. 5 by the template 'for every input the law returns true; each argument reads behind the call as it read before'; 0 by the template 'total and deterministic' (their statements: YtadghfgjdfgopaaDoorTotals.lean).
  GIVEN WITH THE SEED: the statements are not yours to turn. If you find one false, say at which input.
  Laid BY PROGRAM, IN A SANDBOX (cutbox-rows.mjs): the forced cells as the released guide's own fill.sh prints them over the translation 40acaa66a914d5c1… (all of the seat's roots in one cut). By AI agents, Wed Nov 11 2026. No macro, syntax, notation, axiom, sorry.
-/
import Derived.Test.YtadghfgjdfgopaaDoorChecked
import GoSem.PinnedTables
import GoSem.Claim
import GoSem.ClaimJoined
import GoSem.ClaimMapViews
import Derived.JoinedTies
import Derived.KernelRfl
namespace Go.Proofs.YtadghfgjdfgopaaDoor
/- THE CELL 'sum', in the pinned program and in every row, IS THE sha256 OF THE DUMP (.gsa) THAT YtadghfgjdfgopaaDoorProg.lean LOADS. Nothing in Lean hashes anything: it is a label: what it is worth is what the hold of that sum in a sandbox is worth. -/
noncomputable def Tryd.pinned : Pinned := { name := "ytadghfgjdfgopaadoor", sum := "40acaa66a914d5c1547ddcb9665adaa5211be883a48714a6aa662a8bf04ad9a2", checked := Tryd.checked }
namespace Rows
def none {H : Type} : Left H := { results := [], args := [] }

/- WHAT THE LISTED PACKAGE-LEVEL VARIABLES READ AS WHEN THE CALL BEGINS. Each datum BY PROGRAM (the guide's laid-datum.mjs) off the statement by which the dump's own 'gosem.cut.vars' lays the variable. In a bare row this is a premise. The card (YtadghfgjdfgopaaDoorCards.lean) ties it to the program's text. -/
def laid_unicode_utf8_acceptRanges {H : Type} : DataW H := .agg [.agg [.lit (.int .u8 128), .lit (.int .u8 191)], .agg [.lit (.int .u8 160), .lit (.int .u8 191)], .agg [.lit (.int .u8 128), .lit (.int .u8 159)], .agg [.lit (.int .u8 144), .lit (.int .u8 191)], .agg [.lit (.int .u8 128), .lit (.int .u8 143)], .agg [.lit (.int .u8 0), .lit (.int .u8 0)], .agg [.lit (.int .u8 0), .lit (.int .u8 0)], .agg [.lit (.int .u8 0), .lit (.int .u8 0)], .agg [.lit (.int .u8 0), .lit (.int .u8 0)], .agg [.lit (.int .u8 0), .lit (.int .u8 0)], .agg [.lit (.int .u8 0), .lit (.int .u8 0)], .agg [.lit (.int .u8 0), .lit (.int .u8 0)], .agg [.lit (.int .u8 0), .lit (.int .u8 0)], .agg [.lit (.int .u8 0), .lit (.int .u8 0)], .agg [.lit (.int .u8 0), .lit (.int .u8 0)], .agg [.lit (.int .u8 0), .lit (.int .u8 0)]]
/-- One of Go's own tables, pinned by name: the form's constant. -/
def laid_unicode_utf8_first : DataW Unit := Go.Pinned.utf8First

/-- 'scriptoriumlaw06.LinkTells': WHATEVER THE INPUT: true; the input reads as it did. -/
def linkTellsSpec : ChangeSpec := { name := "linkTells", fn := fun _ => fun
  | [d] => { results := [.lit (.bool true)], args := [d] }
  | _ => none }
def linkTellsRow : OpenClaim := { program := "ytadghfgjdfgopaadoor", sum := "40acaa66a914d5c1547ddcb9665adaa5211be883a48714a6aa662a8bf04ad9a2", func := "scriptorium/scriptoriumlaw06.LinkTells", spec := "linkTells", inPlace := ["internal/bytealg.IndexByteString", "internal/bytealg.IndexString"], unfollowed := true, recurses := true, named := ["internal/bytealg.MaxLen", "unicode/utf8.first", "unicode/utf8.acceptRanges"], apart := false, laid := [("unicode/utf8.acceptRanges", laid_unicode_utf8_acceptRanges), ("unicode/utf8.first", laid_unicode_utf8_first)] }
def LinkTellsSaid : Prop := linkTellsRow.holds Tryd.pinned (OpenSpec.ofChange linkTellsSpec)

/-- ITS FALSE NEIGHBOUR: 'it returns false'. Refute it at one input. -/
def linkTellsWrong : ChangeSpec := { name := "linkTells", fn := fun _ => fun
  | [d] => { results := [.lit (.bool false)], args := [d] }
  | _ => none }
def LinkTellsWrongFalsely : Prop := linkTellsRow.holds Tryd.pinned (OpenSpec.ofChange linkTellsWrong)

/-- 'scriptoriumlaw06.LinkFront': WHATEVER THE INPUT: true; the input reads as it did. -/
def linkFrontSpec : ChangeSpec := { name := "linkFront", fn := fun _ => fun
  | [d1, d2] => { results := [.lit (.bool true)], args := [d1, d2] }
  | _ => none }
def linkFrontRow : OpenClaim := { program := "ytadghfgjdfgopaadoor", sum := "40acaa66a914d5c1547ddcb9665adaa5211be883a48714a6aa662a8bf04ad9a2", func := "scriptorium/scriptoriumlaw06.LinkFront", spec := "linkFront", inPlace := ["internal/bytealg.IndexByteString", "internal/bytealg.IndexString"], unfollowed := true, recurses := true, named := ["internal/bytealg.MaxLen", "unicode/utf8.first", "unicode/utf8.acceptRanges"], apart := false, laid := [("unicode/utf8.acceptRanges", laid_unicode_utf8_acceptRanges), ("unicode/utf8.first", laid_unicode_utf8_first)] }
def LinkFrontSaid : Prop := linkFrontRow.holds Tryd.pinned (OpenSpec.ofChange linkFrontSpec)

/-- ITS FALSE NEIGHBOUR: 'it returns false'. Refute it at one input. -/
def linkFrontWrong : ChangeSpec := { name := "linkFront", fn := fun _ => fun
  | [d1, d2] => { results := [.lit (.bool false)], args := [d1, d2] }
  | _ => none }
def LinkFrontWrongFalsely : Prop := linkFrontRow.holds Tryd.pinned (OpenSpec.ofChange linkFrontWrong)

/-- 'scriptoriumlaw06.LinkDefines': WHATEVER THE INPUT: true; the input reads as it did. -/
def linkDefinesSpec : ChangeSpec := { name := "linkDefines", fn := fun _ => fun
  | [d1, d2, d3, d4] => { results := [.lit (.bool true)], args := [d1, d2, d3, d4] }
  | _ => none }
def linkDefinesRow : OpenClaim := { program := "ytadghfgjdfgopaadoor", sum := "40acaa66a914d5c1547ddcb9665adaa5211be883a48714a6aa662a8bf04ad9a2", func := "scriptorium/scriptoriumlaw06.LinkDefines", spec := "linkDefines", inPlace := ["internal/bytealg.IndexByteString", "internal/bytealg.IndexString"], unfollowed := true, recurses := true, named := ["internal/bytealg.MaxLen", "unicode/utf8.first", "unicode/utf8.acceptRanges"], apart := false, laid := [("unicode/utf8.acceptRanges", laid_unicode_utf8_acceptRanges), ("unicode/utf8.first", laid_unicode_utf8_first)] }
def LinkDefinesSaid : Prop := linkDefinesRow.holds Tryd.pinned (OpenSpec.ofChange linkDefinesSpec)

/-- ITS FALSE NEIGHBOUR: 'it returns false'. Refute it at one input. -/
def linkDefinesWrong : ChangeSpec := { name := "linkDefines", fn := fun _ => fun
  | [d1, d2, d3, d4] => { results := [.lit (.bool false)], args := [d1, d2, d3, d4] }
  | _ => none }
def LinkDefinesWrongFalsely : Prop := linkDefinesRow.holds Tryd.pinned (OpenSpec.ofChange linkDefinesWrong)

/-- 'scriptoriumlaw06.LinkLabels': WHATEVER THE INPUT: true; the input reads as it did. -/
def linkLabelsSpec : ChangeSpec := { name := "linkLabels", fn := fun _ => fun
  | [d1, d2] => { results := [.lit (.bool true)], args := [d1, d2] }
  | _ => none }
def linkLabelsRow : OpenClaim := { program := "ytadghfgjdfgopaadoor", sum := "40acaa66a914d5c1547ddcb9665adaa5211be883a48714a6aa662a8bf04ad9a2", func := "scriptorium/scriptoriumlaw06.LinkLabels", spec := "linkLabels", inPlace := ["internal/bytealg.IndexByteString", "internal/bytealg.IndexString"], unfollowed := true, recurses := true, named := ["internal/bytealg.MaxLen", "unicode/utf8.first", "unicode/utf8.acceptRanges"], apart := false, laid := [("unicode/utf8.acceptRanges", laid_unicode_utf8_acceptRanges), ("unicode/utf8.first", laid_unicode_utf8_first)] }
def LinkLabelsSaid : Prop := linkLabelsRow.holds Tryd.pinned (OpenSpec.ofChange linkLabelsSpec)

/-- ITS FALSE NEIGHBOUR: 'it returns false'. Refute it at one input. -/
def linkLabelsWrong : ChangeSpec := { name := "linkLabels", fn := fun _ => fun
  | [d1, d2] => { results := [.lit (.bool false)], args := [d1, d2] }
  | _ => none }
def LinkLabelsWrongFalsely : Prop := linkLabelsRow.holds Tryd.pinned (OpenSpec.ofChange linkLabelsWrong)

/-- 'scriptoriumlaw06.LinkPlaces': WHATEVER THE INPUT: true; the input reads as it did. -/
def linkPlacesSpec : ChangeSpec := { name := "linkPlaces", fn := fun _ => fun
  | [d1, d2] => { results := [.lit (.bool true)], args := [d1, d2] }
  | _ => none }
def linkPlacesRow : OpenClaim := { program := "ytadghfgjdfgopaadoor", sum := "40acaa66a914d5c1547ddcb9665adaa5211be883a48714a6aa662a8bf04ad9a2", func := "scriptorium/scriptoriumlaw06.LinkPlaces", spec := "linkPlaces", inPlace := ["internal/bytealg.IndexByteString", "internal/bytealg.IndexString"], unfollowed := true, recurses := true, named := ["internal/bytealg.MaxLen", "unicode/utf8.first", "unicode/utf8.acceptRanges"], apart := false, laid := [("unicode/utf8.acceptRanges", laid_unicode_utf8_acceptRanges), ("unicode/utf8.first", laid_unicode_utf8_first)] }
def LinkPlacesSaid : Prop := linkPlacesRow.holds Tryd.pinned (OpenSpec.ofChange linkPlacesSpec)

/-- ITS FALSE NEIGHBOUR: 'it returns false'. Refute it at one input. -/
def linkPlacesWrong : ChangeSpec := { name := "linkPlaces", fn := fun _ => fun
  | [d1, d2] => { results := [.lit (.bool false)], args := [d1, d2] }
  | _ => none }
def LinkPlacesWrongFalsely : Prop := linkPlacesRow.holds Tryd.pinned (OpenSpec.ofChange linkPlacesWrong)

/- THE SECOND FORM. 'bulk': how many values and letters a reading holds, each counted each time it is reached (what is shared counts as often as it is met; a slice's spare places count too). A statement '..UptoSaid' is the law's where the arguments, and the package variables that the reading takes, are together of bulk at most 1048576: NARROWER than '..Said'. Prove '..Said' where nothing that the law and all that it calls make is longer than what came in: it says more and counts as full. Else prove '..UptoSaid'. A law counts once. -/
mutual
def uptoBulk {H : Type} : DataW H → Nat
  | .lit (.string bytes) => bytes.length + 1
  | .lit _ => 1
  | .nil => 1
  | .ptr d => uptoBulk d + 1
  | .slice elems spare => uptoBulkAll elems + uptoBulkAll spare + 1
  | .agg parts => uptoBulkAll parts + 1
  | .iface _ d => uptoBulk d + 1
  | .map entries => uptoBulkEntries entries + 1
  | .held _ => 1
def uptoBulkAll {H : Type} : List (DataW H) → Nat
  | [] => 0
  | d :: r => uptoBulk d + uptoBulkAll r
def uptoBulkEntries {H : Type} : List (Lit × DataW H) → Nat
  | [] => 0
  | x :: r => uptoBulkEntry x + uptoBulkEntries r
def uptoBulkEntry {H : Type} : Lit × DataW H → Nat
  | (.string bytes, d) => bytes.length + uptoBulk d + 1
  | (_, d) => uptoBulk d + 1
 end
def uptoSmall : (H : Type) → List (DataW H) → Bool := fun _ ds => decide (uptoBulkAll ds ≤ 1048576)
def OpenSpec.upto (s : _root_.Go.ChangeSpec) : _root_.Go.OpenSpec := { _root_.Go.OpenSpec.ofChange s with cond := some uptoSmall }

/-- 'scriptoriumlaw06.LinkTells', WHERE WHAT IT READS IS OF BULK AT MOST 1048576: true; the input reads as it did. -/
def linkTellsUptoRow : OpenClaim := { program := "ytadghfgjdfgopaadoor", sum := "40acaa66a914d5c1547ddcb9665adaa5211be883a48714a6aa662a8bf04ad9a2", func := "scriptorium/scriptoriumlaw06.LinkTells", spec := "linkTells", inPlace := ["internal/bytealg.IndexByteString", "internal/bytealg.IndexString"], unfollowed := true, recurses := true, named := ["internal/bytealg.MaxLen", "unicode/utf8.first", "unicode/utf8.acceptRanges"], apart := false, laid := [("unicode/utf8.acceptRanges", laid_unicode_utf8_acceptRanges), ("unicode/utf8.first", laid_unicode_utf8_first)], narrowed := true }
def LinkTellsUptoSaid : Prop := linkTellsUptoRow.holds Tryd.pinned (OpenSpec.upto linkTellsSpec)

/-- 'scriptoriumlaw06.LinkFront', WHERE WHAT IT READS IS OF BULK AT MOST 1048576: true; the input reads as it did. -/
def linkFrontUptoRow : OpenClaim := { program := "ytadghfgjdfgopaadoor", sum := "40acaa66a914d5c1547ddcb9665adaa5211be883a48714a6aa662a8bf04ad9a2", func := "scriptorium/scriptoriumlaw06.LinkFront", spec := "linkFront", inPlace := ["internal/bytealg.IndexByteString", "internal/bytealg.IndexString"], unfollowed := true, recurses := true, named := ["internal/bytealg.MaxLen", "unicode/utf8.first", "unicode/utf8.acceptRanges"], apart := false, laid := [("unicode/utf8.acceptRanges", laid_unicode_utf8_acceptRanges), ("unicode/utf8.first", laid_unicode_utf8_first)], narrowed := true }
def LinkFrontUptoSaid : Prop := linkFrontUptoRow.holds Tryd.pinned (OpenSpec.upto linkFrontSpec)

/-- 'scriptoriumlaw06.LinkDefines', WHERE WHAT IT READS IS OF BULK AT MOST 1048576: true; the input reads as it did. -/
def linkDefinesUptoRow : OpenClaim := { program := "ytadghfgjdfgopaadoor", sum := "40acaa66a914d5c1547ddcb9665adaa5211be883a48714a6aa662a8bf04ad9a2", func := "scriptorium/scriptoriumlaw06.LinkDefines", spec := "linkDefines", inPlace := ["internal/bytealg.IndexByteString", "internal/bytealg.IndexString"], unfollowed := true, recurses := true, named := ["internal/bytealg.MaxLen", "unicode/utf8.first", "unicode/utf8.acceptRanges"], apart := false, laid := [("unicode/utf8.acceptRanges", laid_unicode_utf8_acceptRanges), ("unicode/utf8.first", laid_unicode_utf8_first)], narrowed := true }
def LinkDefinesUptoSaid : Prop := linkDefinesUptoRow.holds Tryd.pinned (OpenSpec.upto linkDefinesSpec)

/-- 'scriptoriumlaw06.LinkLabels', WHERE WHAT IT READS IS OF BULK AT MOST 1048576: true; the input reads as it did. -/
def linkLabelsUptoRow : OpenClaim := { program := "ytadghfgjdfgopaadoor", sum := "40acaa66a914d5c1547ddcb9665adaa5211be883a48714a6aa662a8bf04ad9a2", func := "scriptorium/scriptoriumlaw06.LinkLabels", spec := "linkLabels", inPlace := ["internal/bytealg.IndexByteString", "internal/bytealg.IndexString"], unfollowed := true, recurses := true, named := ["internal/bytealg.MaxLen", "unicode/utf8.first", "unicode/utf8.acceptRanges"], apart := false, laid := [("unicode/utf8.acceptRanges", laid_unicode_utf8_acceptRanges), ("unicode/utf8.first", laid_unicode_utf8_first)], narrowed := true }
def LinkLabelsUptoSaid : Prop := linkLabelsUptoRow.holds Tryd.pinned (OpenSpec.upto linkLabelsSpec)

/-- 'scriptoriumlaw06.LinkPlaces', WHERE WHAT IT READS IS OF BULK AT MOST 1048576: true; the input reads as it did. -/
def linkPlacesUptoRow : OpenClaim := { program := "ytadghfgjdfgopaadoor", sum := "40acaa66a914d5c1547ddcb9665adaa5211be883a48714a6aa662a8bf04ad9a2", func := "scriptorium/scriptoriumlaw06.LinkPlaces", spec := "linkPlaces", inPlace := ["internal/bytealg.IndexByteString", "internal/bytealg.IndexString"], unfollowed := true, recurses := true, named := ["internal/bytealg.MaxLen", "unicode/utf8.first", "unicode/utf8.acceptRanges"], apart := false, laid := [("unicode/utf8.acceptRanges", laid_unicode_utf8_acceptRanges), ("unicode/utf8.first", laid_unicode_utf8_first)], narrowed := true }
def LinkPlacesUptoSaid : Prop := linkPlacesUptoRow.holds Tryd.pinned (OpenSpec.upto linkPlacesSpec)

end Rows
end Go.Proofs.YtadghfgjdfgopaaDoor
