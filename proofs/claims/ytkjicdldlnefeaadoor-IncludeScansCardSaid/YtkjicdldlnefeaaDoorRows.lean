/-
  NARROWER THAN 'FOR EVERY INPUT', by the rows' own cells (each row's printed sentence says how): IncludeScans: laid · IncludeExpands: laid · IncludeApart: laid · IncludeNeeds: laid · IncludeChains: laid · IncludeSizes: laid.
  DERIVED. THE GIVEN ROWS OF THIS SEAT. 6 by the template 'for every input the law returns true; each argument reads behind the call as it read before'; 0 by the template 'total and deterministic' (their statements: YtkjicdldlnefeaaDoorTotals.lean).
  GIVEN WITH THE SEED: the statements are not yours to turn. If you find one false, say at which input.
  Laid BY PROGRAM, IN A SANDBOX (cutbox-rows.mjs): the forced cells as the released guide's own fill.sh prints them over the translation 38c33318065ea9e5… (all of the seat's roots in one cut). By AI agents, Wed Nov 11 2026. No macro, syntax, notation, axiom, sorry.
-/
import Derived.Test.YtkjicdldlnefeaaDoorChecked
import GoSem.PinnedTables
import GoSem.Claim
import GoSem.ClaimJoined
import GoSem.ClaimMapViews
import Derived.JoinedTies
import Derived.KernelRfl
namespace Go.Proofs.YtkjicdldlnefeaaDoor
/- THE CELL 'sum', in the pinned program and in every row, IS THE sha256 OF THE DUMP (.gsa) THAT YtkjicdldlnefeaaDoorProg.lean LOADS. Nothing in Lean hashes anything: it is a label: what it is worth is what the hold of that sum in a sandbox is worth. -/
noncomputable def Tryd.pinned : Pinned := { name := "ytkjicdldlnefeaadoor", sum := "38c33318065ea9e51cb0ef5106d1464bec9cdc5f93653cf9f5c24d2572b421f3", checked := Tryd.checked }
namespace Rows
def none {H : Type} : Left H := { results := [], args := [] }

/- WHAT THE LISTED PACKAGE-LEVEL VARIABLES READ AS WHEN THE CALL BEGINS. Each datum BY PROGRAM (the guide's laid-datum.mjs) off the statement by which the dump's own 'gosem.cut.vars' lays the variable. In a bare row this is a premise. The card (YtkjicdldlnefeaaDoorCards.lean) ties it to the program's text. -/
def laid_unicode_utf8_acceptRanges {H : Type} : DataW H := .agg [.agg [.lit (.int .u8 128), .lit (.int .u8 191)], .agg [.lit (.int .u8 160), .lit (.int .u8 191)], .agg [.lit (.int .u8 128), .lit (.int .u8 159)], .agg [.lit (.int .u8 144), .lit (.int .u8 191)], .agg [.lit (.int .u8 128), .lit (.int .u8 143)], .agg [.lit (.int .u8 0), .lit (.int .u8 0)], .agg [.lit (.int .u8 0), .lit (.int .u8 0)], .agg [.lit (.int .u8 0), .lit (.int .u8 0)], .agg [.lit (.int .u8 0), .lit (.int .u8 0)], .agg [.lit (.int .u8 0), .lit (.int .u8 0)], .agg [.lit (.int .u8 0), .lit (.int .u8 0)], .agg [.lit (.int .u8 0), .lit (.int .u8 0)], .agg [.lit (.int .u8 0), .lit (.int .u8 0)], .agg [.lit (.int .u8 0), .lit (.int .u8 0)], .agg [.lit (.int .u8 0), .lit (.int .u8 0)], .agg [.lit (.int .u8 0), .lit (.int .u8 0)]]
/-- One of Go's own tables, pinned by name: the form's constant. -/
def laid_unicode_utf8_first : DataW Unit := Go.Pinned.utf8First

/-- 'scriptoriumlaw10.IncludeScans': WHATEVER THE INPUT: true; the input reads as it did. -/
def includeScansSpec : ChangeSpec := { name := "includeScans", fn := fun _ => fun
  | [d] => { results := [.lit (.bool true)], args := [d] }
  | _ => none }
def includeScansRow : OpenClaim := { program := "ytkjicdldlnefeaadoor", sum := "38c33318065ea9e51cb0ef5106d1464bec9cdc5f93653cf9f5c24d2572b421f3", func := "scriptorium/scriptoriumlaw10.IncludeScans", spec := "includeScans", inPlace := ["internal/bytealg.IndexByteString", "internal/bytealg.IndexString"], recurses := true, named := ["unicode/utf8.first", "unicode/utf8.acceptRanges", "internal/bytealg.MaxLen"], apart := false, laid := [("unicode/utf8.acceptRanges", laid_unicode_utf8_acceptRanges), ("unicode/utf8.first", laid_unicode_utf8_first)] }
def IncludeScansSaid : Prop := includeScansRow.holds Tryd.pinned (OpenSpec.ofChange includeScansSpec)

/-- ITS FALSE NEIGHBOUR: 'it returns false'. Refute it at one input. -/
def includeScansWrong : ChangeSpec := { name := "includeScans", fn := fun _ => fun
  | [d] => { results := [.lit (.bool false)], args := [d] }
  | _ => none }
def IncludeScansWrongFalsely : Prop := includeScansRow.holds Tryd.pinned (OpenSpec.ofChange includeScansWrong)

/-- 'scriptoriumlaw10.IncludeExpands': WHATEVER THE INPUT: true; the input reads as it did. -/
def includeExpandsSpec : ChangeSpec := { name := "includeExpands", fn := fun _ => fun
  | [d1, d2, d3] => { results := [.lit (.bool true)], args := [d1, d2, d3] }
  | _ => none }
def includeExpandsRow : OpenClaim := { program := "ytkjicdldlnefeaadoor", sum := "38c33318065ea9e51cb0ef5106d1464bec9cdc5f93653cf9f5c24d2572b421f3", func := "scriptorium/scriptoriumlaw10.IncludeExpands", spec := "includeExpands", inPlace := ["internal/bytealg.IndexByteString", "internal/bytealg.IndexString"], recurses := true, named := ["unicode/utf8.first", "unicode/utf8.acceptRanges", "internal/bytealg.MaxLen"], apart := false, laid := [("unicode/utf8.acceptRanges", laid_unicode_utf8_acceptRanges), ("unicode/utf8.first", laid_unicode_utf8_first)] }
def IncludeExpandsSaid : Prop := includeExpandsRow.holds Tryd.pinned (OpenSpec.ofChange includeExpandsSpec)

/-- ITS FALSE NEIGHBOUR: 'it returns false'. Refute it at one input. -/
def includeExpandsWrong : ChangeSpec := { name := "includeExpands", fn := fun _ => fun
  | [d1, d2, d3] => { results := [.lit (.bool false)], args := [d1, d2, d3] }
  | _ => none }
def IncludeExpandsWrongFalsely : Prop := includeExpandsRow.holds Tryd.pinned (OpenSpec.ofChange includeExpandsWrong)

/-- 'scriptoriumlaw10.IncludeApart': WHATEVER THE INPUT: true; the input reads as it did. -/
def includeApartSpec : ChangeSpec := { name := "includeApart", fn := fun _ => fun
  | [d1, d2, d3, d4] => { results := [.lit (.bool true)], args := [d1, d2, d3, d4] }
  | _ => none }
def includeApartRow : OpenClaim := { program := "ytkjicdldlnefeaadoor", sum := "38c33318065ea9e51cb0ef5106d1464bec9cdc5f93653cf9f5c24d2572b421f3", func := "scriptorium/scriptoriumlaw10.IncludeApart", spec := "includeApart", inPlace := ["internal/bytealg.IndexByteString", "internal/bytealg.IndexString"], recurses := true, named := ["unicode/utf8.first", "unicode/utf8.acceptRanges", "internal/bytealg.MaxLen"], apart := false, laid := [("unicode/utf8.acceptRanges", laid_unicode_utf8_acceptRanges), ("unicode/utf8.first", laid_unicode_utf8_first)] }
def IncludeApartSaid : Prop := includeApartRow.holds Tryd.pinned (OpenSpec.ofChange includeApartSpec)

/-- ITS FALSE NEIGHBOUR: 'it returns false'. Refute it at one input. -/
def includeApartWrong : ChangeSpec := { name := "includeApart", fn := fun _ => fun
  | [d1, d2, d3, d4] => { results := [.lit (.bool false)], args := [d1, d2, d3, d4] }
  | _ => none }
def IncludeApartWrongFalsely : Prop := includeApartRow.holds Tryd.pinned (OpenSpec.ofChange includeApartWrong)

/-- 'scriptoriumlaw10.IncludeNeeds': WHATEVER THE INPUT: true; the input reads as it did. -/
def includeNeedsSpec : ChangeSpec := { name := "includeNeeds", fn := fun _ => fun
  | [d1, d2, d3] => { results := [.lit (.bool true)], args := [d1, d2, d3] }
  | _ => none }
def includeNeedsRow : OpenClaim := { program := "ytkjicdldlnefeaadoor", sum := "38c33318065ea9e51cb0ef5106d1464bec9cdc5f93653cf9f5c24d2572b421f3", func := "scriptorium/scriptoriumlaw10.IncludeNeeds", spec := "includeNeeds", inPlace := ["internal/bytealg.IndexByteString", "internal/bytealg.IndexString"], recurses := true, named := ["unicode/utf8.first", "unicode/utf8.acceptRanges", "internal/bytealg.MaxLen"], apart := false, laid := [("unicode/utf8.acceptRanges", laid_unicode_utf8_acceptRanges), ("unicode/utf8.first", laid_unicode_utf8_first)] }
def IncludeNeedsSaid : Prop := includeNeedsRow.holds Tryd.pinned (OpenSpec.ofChange includeNeedsSpec)

/-- ITS FALSE NEIGHBOUR: 'it returns false'. Refute it at one input. -/
def includeNeedsWrong : ChangeSpec := { name := "includeNeeds", fn := fun _ => fun
  | [d1, d2, d3] => { results := [.lit (.bool false)], args := [d1, d2, d3] }
  | _ => none }
def IncludeNeedsWrongFalsely : Prop := includeNeedsRow.holds Tryd.pinned (OpenSpec.ofChange includeNeedsWrong)

/-- 'scriptoriumlaw10.IncludeChains': WHATEVER THE INPUT: true; the input reads as it did. -/
def includeChainsSpec : ChangeSpec := { name := "includeChains", fn := fun _ => fun
  | [d1, d2, d3] => { results := [.lit (.bool true)], args := [d1, d2, d3] }
  | _ => none }
def includeChainsRow : OpenClaim := { program := "ytkjicdldlnefeaadoor", sum := "38c33318065ea9e51cb0ef5106d1464bec9cdc5f93653cf9f5c24d2572b421f3", func := "scriptorium/scriptoriumlaw10.IncludeChains", spec := "includeChains", inPlace := ["internal/bytealg.IndexByteString", "internal/bytealg.IndexString"], recurses := true, named := ["unicode/utf8.first", "unicode/utf8.acceptRanges", "internal/bytealg.MaxLen"], apart := false, laid := [("unicode/utf8.acceptRanges", laid_unicode_utf8_acceptRanges), ("unicode/utf8.first", laid_unicode_utf8_first)] }
def IncludeChainsSaid : Prop := includeChainsRow.holds Tryd.pinned (OpenSpec.ofChange includeChainsSpec)

/-- ITS FALSE NEIGHBOUR: 'it returns false'. Refute it at one input. -/
def includeChainsWrong : ChangeSpec := { name := "includeChains", fn := fun _ => fun
  | [d1, d2, d3] => { results := [.lit (.bool false)], args := [d1, d2, d3] }
  | _ => none }
def IncludeChainsWrongFalsely : Prop := includeChainsRow.holds Tryd.pinned (OpenSpec.ofChange includeChainsWrong)

/-- 'scriptoriumlaw10.IncludeSizes': WHATEVER THE INPUT: true; the input reads as it did. -/
def includeSizesSpec : ChangeSpec := { name := "includeSizes", fn := fun _ => fun
  | [d] => { results := [.lit (.bool true)], args := [d] }
  | _ => none }
def includeSizesRow : OpenClaim := { program := "ytkjicdldlnefeaadoor", sum := "38c33318065ea9e51cb0ef5106d1464bec9cdc5f93653cf9f5c24d2572b421f3", func := "scriptorium/scriptoriumlaw10.IncludeSizes", spec := "includeSizes", inPlace := ["internal/bytealg.IndexByteString", "internal/bytealg.IndexString"], recurses := true, named := ["unicode/utf8.first", "unicode/utf8.acceptRanges", "internal/bytealg.MaxLen"], apart := false, laid := [("unicode/utf8.acceptRanges", laid_unicode_utf8_acceptRanges), ("unicode/utf8.first", laid_unicode_utf8_first)] }
def IncludeSizesSaid : Prop := includeSizesRow.holds Tryd.pinned (OpenSpec.ofChange includeSizesSpec)

/-- ITS FALSE NEIGHBOUR: 'it returns false'. Refute it at one input. -/
def includeSizesWrong : ChangeSpec := { name := "includeSizes", fn := fun _ => fun
  | [d] => { results := [.lit (.bool false)], args := [d] }
  | _ => none }
def IncludeSizesWrongFalsely : Prop := includeSizesRow.holds Tryd.pinned (OpenSpec.ofChange includeSizesWrong)

/- THE SECOND FORM. 'bulk': how many values and letters a reading holds, each counted each time it is reached (what is shared counts as often as it is met; a slice's spare places count too). A statement '..UptoSaid' is the law's where the arguments, and the package variables that the reading takes, are together of bulk at most 1048576: NARROWER than '..Said'. Prove '..Said' where nothing that the law and all that it calls make is longer than what came in: it says more and counts as full. Else prove '..UptoSaid'. A law counts once. -/
mutual
def uptoBulk {H : Type} : DataW H → Nat
  | .lit (.string bytes) => bytes.length + 1
  | .lit _ => 1
  | .nil => 1
  | .ptr d => uptoBulk d + 1
  | .slice elems spare => uptoBulkAll elems + uptoBulkAll spare + 1
  | .agg parts => uptoBulkAll parts + 1
  | .iface _ d => uptoBulk d + 1
  | .map entries => uptoBulkEntries entries + 1
  | .held _ => 1
def uptoBulkAll {H : Type} : List (DataW H) → Nat
  | [] => 0
  | d :: r => uptoBulk d + uptoBulkAll r
def uptoBulkEntries {H : Type} : List (Lit × DataW H) → Nat
  | [] => 0
  | x :: r => uptoBulkEntry x + uptoBulkEntries r
def uptoBulkEntry {H : Type} : Lit × DataW H → Nat
  | (.string bytes, d) => bytes.length + uptoBulk d + 1
  | (_, d) => uptoBulk d + 1
 end
def uptoSmall : (H : Type) → List (DataW H) → Bool := fun _ ds => decide (uptoBulkAll ds ≤ 1048576)
def OpenSpec.upto (s : _root_.Go.ChangeSpec) : _root_.Go.OpenSpec := { _root_.Go.OpenSpec.ofChange s with cond := some uptoSmall }

/-- 'scriptoriumlaw10.IncludeScans', WHERE WHAT IT READS IS OF BULK AT MOST 1048576: true; the input reads as it did. -/
def includeScansUptoRow : OpenClaim := { program := "ytkjicdldlnefeaadoor", sum := "38c33318065ea9e51cb0ef5106d1464bec9cdc5f93653cf9f5c24d2572b421f3", func := "scriptorium/scriptoriumlaw10.IncludeScans", spec := "includeScans", inPlace := ["internal/bytealg.IndexByteString", "internal/bytealg.IndexString"], recurses := true, named := ["unicode/utf8.first", "unicode/utf8.acceptRanges", "internal/bytealg.MaxLen"], apart := false, laid := [("unicode/utf8.acceptRanges", laid_unicode_utf8_acceptRanges), ("unicode/utf8.first", laid_unicode_utf8_first)], narrowed := true }
def IncludeScansUptoSaid : Prop := includeScansUptoRow.holds Tryd.pinned (OpenSpec.upto includeScansSpec)

/-- 'scriptoriumlaw10.IncludeExpands', WHERE WHAT IT READS IS OF BULK AT MOST 1048576: true; the input reads as it did. -/
def includeExpandsUptoRow : OpenClaim := { program := "ytkjicdldlnefeaadoor", sum := "38c33318065ea9e51cb0ef5106d1464bec9cdc5f93653cf9f5c24d2572b421f3", func := "scriptorium/scriptoriumlaw10.IncludeExpands", spec := "includeExpands", inPlace := ["internal/bytealg.IndexByteString", "internal/bytealg.IndexString"], recurses := true, named := ["unicode/utf8.first", "unicode/utf8.acceptRanges", "internal/bytealg.MaxLen"], apart := false, laid := [("unicode/utf8.acceptRanges", laid_unicode_utf8_acceptRanges), ("unicode/utf8.first", laid_unicode_utf8_first)], narrowed := true }
def IncludeExpandsUptoSaid : Prop := includeExpandsUptoRow.holds Tryd.pinned (OpenSpec.upto includeExpandsSpec)

/-- 'scriptoriumlaw10.IncludeApart', WHERE WHAT IT READS IS OF BULK AT MOST 1048576: true; the input reads as it did. -/
def includeApartUptoRow : OpenClaim := { program := "ytkjicdldlnefeaadoor", sum := "38c33318065ea9e51cb0ef5106d1464bec9cdc5f93653cf9f5c24d2572b421f3", func := "scriptorium/scriptoriumlaw10.IncludeApart", spec := "includeApart", inPlace := ["internal/bytealg.IndexByteString", "internal/bytealg.IndexString"], recurses := true, named := ["unicode/utf8.first", "unicode/utf8.acceptRanges", "internal/bytealg.MaxLen"], apart := false, laid := [("unicode/utf8.acceptRanges", laid_unicode_utf8_acceptRanges), ("unicode/utf8.first", laid_unicode_utf8_first)], narrowed := true }
def IncludeApartUptoSaid : Prop := includeApartUptoRow.holds Tryd.pinned (OpenSpec.upto includeApartSpec)

/-- 'scriptoriumlaw10.IncludeNeeds', WHERE WHAT IT READS IS OF BULK AT MOST 1048576: true; the input reads as it did. -/
def includeNeedsUptoRow : OpenClaim := { program := "ytkjicdldlnefeaadoor", sum := "38c33318065ea9e51cb0ef5106d1464bec9cdc5f93653cf9f5c24d2572b421f3", func := "scriptorium/scriptoriumlaw10.IncludeNeeds", spec := "includeNeeds", inPlace := ["internal/bytealg.IndexByteString", "internal/bytealg.IndexString"], recurses := true, named := ["unicode/utf8.first", "unicode/utf8.acceptRanges", "internal/bytealg.MaxLen"], apart := false, laid := [("unicode/utf8.acceptRanges", laid_unicode_utf8_acceptRanges), ("unicode/utf8.first", laid_unicode_utf8_first)], narrowed := true }
def IncludeNeedsUptoSaid : Prop := includeNeedsUptoRow.holds Tryd.pinned (OpenSpec.upto includeNeedsSpec)

/-- 'scriptoriumlaw10.IncludeChains', WHERE WHAT IT READS IS OF BULK AT MOST 1048576: true; the input reads as it did. -/
def includeChainsUptoRow : OpenClaim := { program := "ytkjicdldlnefeaadoor", sum := "38c33318065ea9e51cb0ef5106d1464bec9cdc5f93653cf9f5c24d2572b421f3", func := "scriptorium/scriptoriumlaw10.IncludeChains", spec := "includeChains", inPlace := ["internal/bytealg.IndexByteString", "internal/bytealg.IndexString"], recurses := true, named := ["unicode/utf8.first", "unicode/utf8.acceptRanges", "internal/bytealg.MaxLen"], apart := false, laid := [("unicode/utf8.acceptRanges", laid_unicode_utf8_acceptRanges), ("unicode/utf8.first", laid_unicode_utf8_first)], narrowed := true }
def IncludeChainsUptoSaid : Prop := includeChainsUptoRow.holds Tryd.pinned (OpenSpec.upto includeChainsSpec)

/-- 'scriptoriumlaw10.IncludeSizes', WHERE WHAT IT READS IS OF BULK AT MOST 1048576: true; the input reads as it did. -/
def includeSizesUptoRow : OpenClaim := { program := "ytkjicdldlnefeaadoor", sum := "38c33318065ea9e51cb0ef5106d1464bec9cdc5f93653cf9f5c24d2572b421f3", func := "scriptorium/scriptoriumlaw10.IncludeSizes", spec := "includeSizes", inPlace := ["internal/bytealg.IndexByteString", "internal/bytealg.IndexString"], recurses := true, named := ["unicode/utf8.first", "unicode/utf8.acceptRanges", "internal/bytealg.MaxLen"], apart := false, laid := [("unicode/utf8.acceptRanges", laid_unicode_utf8_acceptRanges), ("unicode/utf8.first", laid_unicode_utf8_first)], narrowed := true }
def IncludeSizesUptoSaid : Prop := includeSizesUptoRow.holds Tryd.pinned (OpenSpec.upto includeSizesSpec)

end Rows
end Go.Proofs.YtkjicdldlnefeaaDoor
