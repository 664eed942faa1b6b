/-
  No cell of these rows narrows 'for every input' (looked for: loops, veiled, ifaces, maps, wideKeys, modest, calm, conditions, laid).
  DERIVED. THE GIVEN ROWS OF THIS SEAT. 6 by the template 'for every input the law returns true; each argument reads behind the call as it read before'; 0 by the template 'total and deterministic' (their statements: YtebnobhalffalaaTotals.lean).
  GIVEN WITH THE SEED: the statements are not yours to turn. If you find one false, say at which input.
  Laid BY PROGRAM, IN A SANDBOX (cutbox-rows.mjs): the forced cells as the released guide's own fill.sh prints them over the translation c49963c39cd65910… (all of the seat's roots in one cut). By AI agents, Wed Nov 11 2026. No macro, syntax, notation, axiom, sorry.
-/
import Derived.Test.YtebnobhalffalaaChecked
import GoSem.Claim
import GoSem.ClaimJoined
import GoSem.ClaimMapViews
import Derived.JoinedTies
import Derived.KernelRfl
namespace Go.Proofs.Ytebnobhalffalaa
/- THE CELL 'sum', in the pinned program and in every row, IS THE sha256 OF THE DUMP (.gsa) THAT YtebnobhalffalaaProg.lean LOADS. Nothing in Lean hashes anything: it is a label: what it is worth is what the hold of that sum in a sandbox is worth. -/
noncomputable def Try.pinned : Pinned := { name := "ytebnobhalffalaa", sum := "c49963c39cd65910327fe72ab0611b9bc184b68f9e869c8e6303e50d53dd076a", checked := Try.checked }
namespace Rows
def none {H : Type} : Left H := { results := [], args := [] }

/-- 'scriptoriumlaw02.EscapeWrites': WHATEVER THE INPUT: true; the input reads as it did. -/
def escapeWritesSpec : ChangeSpec := { name := "escapeWrites", fn := fun _ => fun
  | [d] => { results := [.lit (.bool true)], args := [d] }
  | _ => none }
def escapeWritesRow : OpenClaim := { program := "ytebnobhalffalaa", sum := "c49963c39cd65910327fe72ab0611b9bc184b68f9e869c8e6303e50d53dd076a", func := "scriptorium/scriptoriumlaw02.EscapeWrites", spec := "escapeWrites", inPlace := ["internal/bytealg.IndexByteString"], apart := false }
def EscapeWritesSaid : Prop := escapeWritesRow.holds Try.pinned (OpenSpec.ofChange escapeWritesSpec)

/-- ITS FALSE NEIGHBOUR: 'it returns false'. Refute it at one input. -/
def escapeWritesWrong : ChangeSpec := { name := "escapeWrites", fn := fun _ => fun
  | [d] => { results := [.lit (.bool false)], args := [d] }
  | _ => none }
def EscapeWritesWrongFalsely : Prop := escapeWritesRow.holds Try.pinned (OpenSpec.ofChange escapeWritesWrong)

/-- 'scriptoriumlaw02.EscapeReads': WHATEVER THE INPUT: true; the input reads as it did. -/
def escapeReadsSpec : ChangeSpec := { name := "escapeReads", fn := fun _ => fun
  | [d] => { results := [.lit (.bool true)], args := [d] }
  | _ => none }
def escapeReadsRow : OpenClaim := { program := "ytebnobhalffalaa", sum := "c49963c39cd65910327fe72ab0611b9bc184b68f9e869c8e6303e50d53dd076a", func := "scriptorium/scriptoriumlaw02.EscapeReads", spec := "escapeReads", inPlace := ["internal/bytealg.IndexByteString"], apart := false }
def EscapeReadsSaid : Prop := escapeReadsRow.holds Try.pinned (OpenSpec.ofChange escapeReadsSpec)

/-- ITS FALSE NEIGHBOUR: 'it returns false'. Refute it at one input. -/
def escapeReadsWrong : ChangeSpec := { name := "escapeReads", fn := fun _ => fun
  | [d] => { results := [.lit (.bool false)], args := [d] }
  | _ => none }
def EscapeReadsWrongFalsely : Prop := escapeReadsRow.holds Try.pinned (OpenSpec.ofChange escapeReadsWrong)

/-- 'scriptoriumlaw02.EscapeBack': WHATEVER THE INPUT: true; the input reads as it did. -/
def escapeBackSpec : ChangeSpec := { name := "escapeBack", fn := fun _ => fun
  | [d] => { results := [.lit (.bool true)], args := [d] }
  | _ => none }
def escapeBackRow : OpenClaim := { program := "ytebnobhalffalaa", sum := "c49963c39cd65910327fe72ab0611b9bc184b68f9e869c8e6303e50d53dd076a", func := "scriptorium/scriptoriumlaw02.EscapeBack", spec := "escapeBack", inPlace := ["internal/bytealg.IndexByteString"], apart := false }
def EscapeBackSaid : Prop := escapeBackRow.holds Try.pinned (OpenSpec.ofChange escapeBackSpec)

/-- ITS FALSE NEIGHBOUR: 'it returns false'. Refute it at one input. -/
def escapeBackWrong : ChangeSpec := { name := "escapeBack", fn := fun _ => fun
  | [d] => { results := [.lit (.bool false)], args := [d] }
  | _ => none }
def EscapeBackWrongFalsely : Prop := escapeBackRow.holds Try.pinned (OpenSpec.ofChange escapeBackWrong)

/-- 'scriptoriumlaw02.EscapeURL': WHATEVER THE INPUT: true; the input reads as it did. -/
def escapeURLSpec : ChangeSpec := { name := "escapeURL", fn := fun _ => fun
  | [d] => { results := [.lit (.bool true)], args := [d] }
  | _ => none }
def escapeURLRow : OpenClaim := { program := "ytebnobhalffalaa", sum := "c49963c39cd65910327fe72ab0611b9bc184b68f9e869c8e6303e50d53dd076a", func := "scriptorium/scriptoriumlaw02.EscapeURL", spec := "escapeURL", inPlace := ["internal/bytealg.IndexByteString"], apart := false }
def EscapeURLSaid : Prop := escapeURLRow.holds Try.pinned (OpenSpec.ofChange escapeURLSpec)

/-- ITS FALSE NEIGHBOUR: 'it returns false'. Refute it at one input. -/
def escapeURLWrong : ChangeSpec := { name := "escapeURL", fn := fun _ => fun
  | [d] => { results := [.lit (.bool false)], args := [d] }
  | _ => none }
def EscapeURLWrongFalsely : Prop := escapeURLRow.holds Try.pinned (OpenSpec.ofChange escapeURLWrong)

/-- 'scriptoriumlaw02.EscapeNumbers': WHATEVER THE INPUT: true; the input reads as it did. -/
def escapeNumbersSpec : ChangeSpec := { name := "escapeNumbers", fn := fun _ => fun
  | [d1, d2] => { results := [.lit (.bool true)], args := [d1, d2] }
  | _ => none }
def escapeNumbersRow : OpenClaim := { program := "ytebnobhalffalaa", sum := "c49963c39cd65910327fe72ab0611b9bc184b68f9e869c8e6303e50d53dd076a", func := "scriptorium/scriptoriumlaw02.EscapeNumbers", spec := "escapeNumbers", inPlace := ["internal/bytealg.IndexByteString"], apart := false }
def EscapeNumbersSaid : Prop := escapeNumbersRow.holds Try.pinned (OpenSpec.ofChange escapeNumbersSpec)

/-- ITS FALSE NEIGHBOUR: 'it returns false'. Refute it at one input. -/
def escapeNumbersWrong : ChangeSpec := { name := "escapeNumbers", fn := fun _ => fun
  | [d1, d2] => { results := [.lit (.bool false)], args := [d1, d2] }
  | _ => none }
def EscapeNumbersWrongFalsely : Prop := escapeNumbersRow.holds Try.pinned (OpenSpec.ofChange escapeNumbersWrong)

/-- 'scriptoriumlaw02.EscapePlain': WHATEVER THE INPUT: true; the input reads as it did. -/
def escapePlainSpec : ChangeSpec := { name := "escapePlain", fn := fun _ => fun
  | [d] => { results := [.lit (.bool true)], args := [d] }
  | _ => none }
def escapePlainRow : OpenClaim := { program := "ytebnobhalffalaa", sum := "c49963c39cd65910327fe72ab0611b9bc184b68f9e869c8e6303e50d53dd076a", func := "scriptorium/scriptoriumlaw02.EscapePlain", spec := "escapePlain", inPlace := ["internal/bytealg.IndexByteString"], apart := false }
def EscapePlainSaid : Prop := escapePlainRow.holds Try.pinned (OpenSpec.ofChange escapePlainSpec)

/-- ITS FALSE NEIGHBOUR: 'it returns false'. Refute it at one input. -/
def escapePlainWrong : ChangeSpec := { name := "escapePlain", fn := fun _ => fun
  | [d] => { results := [.lit (.bool false)], args := [d] }
  | _ => none }
def EscapePlainWrongFalsely : Prop := escapePlainRow.holds Try.pinned (OpenSpec.ofChange escapePlainWrong)

/- THE SECOND FORM. 'bulk': how many values and letters a reading holds, each counted each time it is reached (what is shared counts as often as it is met; a slice's spare places count too). A statement '..UptoSaid' is the law's where the arguments, and the package variables that the reading takes, are together of bulk at most 1048576: NARROWER than '..Said'. Prove '..Said' where nothing that the law and all that it calls make is longer than what came in: it says more and counts as full. Else prove '..UptoSaid'. A law counts once. -/
mutual
def uptoBulk {H : Type} : DataW H → Nat
  | .lit (.string bytes) => bytes.length + 1
  | .lit _ => 1
  | .nil => 1
  | .ptr d => uptoBulk d + 1
  | .slice elems spare => uptoBulkAll elems + uptoBulkAll spare + 1
  | .agg parts => uptoBulkAll parts + 1
  | .iface _ d => uptoBulk d + 1
  | .map entries => uptoBulkEntries entries + 1
  | .held _ => 1
def uptoBulkAll {H : Type} : List (DataW H) → Nat
  | [] => 0
  | d :: r => uptoBulk d + uptoBulkAll r
def uptoBulkEntries {H : Type} : List (Lit × DataW H) → Nat
  | [] => 0
  | x :: r => uptoBulkEntry x + uptoBulkEntries r
def uptoBulkEntry {H : Type} : Lit × DataW H → Nat
  | (.string bytes, d) => bytes.length + uptoBulk d + 1
  | (_, d) => uptoBulk d + 1
 end
def uptoSmall : (H : Type) → List (DataW H) → Bool := fun _ ds => decide (uptoBulkAll ds ≤ 1048576)
def OpenSpec.upto (s : _root_.Go.ChangeSpec) : _root_.Go.OpenSpec := { _root_.Go.OpenSpec.ofChange s with cond := some uptoSmall }

/-- 'scriptoriumlaw02.EscapeWrites', WHERE WHAT IT READS IS OF BULK AT MOST 1048576: true; the input reads as it did. -/
def escapeWritesUptoRow : OpenClaim := { program := "ytebnobhalffalaa", sum := "c49963c39cd65910327fe72ab0611b9bc184b68f9e869c8e6303e50d53dd076a", func := "scriptorium/scriptoriumlaw02.EscapeWrites", spec := "escapeWrites", inPlace := ["internal/bytealg.IndexByteString"], apart := false, narrowed := true }
def EscapeWritesUptoSaid : Prop := escapeWritesUptoRow.holds Try.pinned (OpenSpec.upto escapeWritesSpec)

/-- 'scriptoriumlaw02.EscapeReads', WHERE WHAT IT READS IS OF BULK AT MOST 1048576: true; the input reads as it did. -/
def escapeReadsUptoRow : OpenClaim := { program := "ytebnobhalffalaa", sum := "c49963c39cd65910327fe72ab0611b9bc184b68f9e869c8e6303e50d53dd076a", func := "scriptorium/scriptoriumlaw02.EscapeReads", spec := "escapeReads", inPlace := ["internal/bytealg.IndexByteString"], apart := false, narrowed := true }
def EscapeReadsUptoSaid : Prop := escapeReadsUptoRow.holds Try.pinned (OpenSpec.upto escapeReadsSpec)

/-- 'scriptoriumlaw02.EscapeBack', WHERE WHAT IT READS IS OF BULK AT MOST 1048576: true; the input reads as it did. -/
def escapeBackUptoRow : OpenClaim := { program := "ytebnobhalffalaa", sum := "c49963c39cd65910327fe72ab0611b9bc184b68f9e869c8e6303e50d53dd076a", func := "scriptorium/scriptoriumlaw02.EscapeBack", spec := "escapeBack", inPlace := ["internal/bytealg.IndexByteString"], apart := false, narrowed := true }
def EscapeBackUptoSaid : Prop := escapeBackUptoRow.holds Try.pinned (OpenSpec.upto escapeBackSpec)

/-- 'scriptoriumlaw02.EscapeURL', WHERE WHAT IT READS IS OF BULK AT MOST 1048576: true; the input reads as it did. -/
def escapeURLUptoRow : OpenClaim := { program := "ytebnobhalffalaa", sum := "c49963c39cd65910327fe72ab0611b9bc184b68f9e869c8e6303e50d53dd076a", func := "scriptorium/scriptoriumlaw02.EscapeURL", spec := "escapeURL", inPlace := ["internal/bytealg.IndexByteString"], apart := false, narrowed := true }
def EscapeURLUptoSaid : Prop := escapeURLUptoRow.holds Try.pinned (OpenSpec.upto escapeURLSpec)

/-- 'scriptoriumlaw02.EscapeNumbers', WHERE WHAT IT READS IS OF BULK AT MOST 1048576: true; the input reads as it did. -/
def escapeNumbersUptoRow : OpenClaim := { program := "ytebnobhalffalaa", sum := "c49963c39cd65910327fe72ab0611b9bc184b68f9e869c8e6303e50d53dd076a", func := "scriptorium/scriptoriumlaw02.EscapeNumbers", spec := "escapeNumbers", inPlace := ["internal/bytealg.IndexByteString"], apart := false, narrowed := true }
def EscapeNumbersUptoSaid : Prop := escapeNumbersUptoRow.holds Try.pinned (OpenSpec.upto escapeNumbersSpec)

/-- 'scriptoriumlaw02.EscapePlain', WHERE WHAT IT READS IS OF BULK AT MOST 1048576: true; the input reads as it did. -/
def escapePlainUptoRow : OpenClaim := { program := "ytebnobhalffalaa", sum := "c49963c39cd65910327fe72ab0611b9bc184b68f9e869c8e6303e50d53dd076a", func := "scriptorium/scriptoriumlaw02.EscapePlain", spec := "escapePlain", inPlace := ["internal/bytealg.IndexByteString"], apart := false, narrowed := true }
def EscapePlainUptoSaid : Prop := escapePlainUptoRow.holds Try.pinned (OpenSpec.upto escapePlainSpec)

end Rows
end Go.Proofs.Ytebnobhalffalaa
