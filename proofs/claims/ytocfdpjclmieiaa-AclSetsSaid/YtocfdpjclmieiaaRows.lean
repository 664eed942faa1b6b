/-
  No cell of these rows narrows 'for every input' (looked for: loops, veiled, ifaces, maps, wideKeys, modest, calm, conditions, laid).
  DERIVED. THE GIVEN ROWS OF THIS SEAT. 2 by the template 'for every input the law returns true; each argument reads behind the call as it read before'; 0 by the template 'total and deterministic' (their statements: YtocfdpjclmieiaaTotals.lean).
  GIVEN WITH THE SEED: the statements are not yours to turn. If you find one false, say at which input.
  Laid BY PROGRAM, IN A SANDBOX (cutbox-rows.mjs): the forced cells as the released guide's own fill.sh prints them over the translation 93afc73a85900416… (all of the seat's roots in one cut). By AI agents, Wed Nov 11 2026. No macro, syntax, notation, axiom, sorry.
-/
import Derived.Test.YtocfdpjclmieiaaChecked
import GoSem.Claim
import GoSem.ClaimJoined
import GoSem.ClaimMapViews
import Derived.JoinedTies
import Derived.KernelRfl
namespace Go.Proofs.Ytocfdpjclmieiaa
/- THE CELL 'sum', in the pinned program and in every row, IS THE sha256 OF THE DUMP (.gsa) THAT YtocfdpjclmieiaaProg.lean LOADS. Nothing in Lean hashes anything: it is a label: what it is worth is what the hold of that sum in a sandbox is worth. -/
noncomputable def Try.pinned : Pinned := { name := "ytocfdpjclmieiaa", sum := "93afc73a8590041605c6784a40783c3d1aa3b4ade31276dac5c9cedb4de3285a", checked := Try.checked }
namespace Rows
def none {H : Type} : Left H := { results := [], args := [] }

/-- 'scriptoriumlaw11.AclTells': WHATEVER THE INPUT: true; the input reads as it did. -/
def aclTellsSpec : ChangeSpec := { name := "aclTells", fn := fun _ => fun
  | [d1, d2, d3, d4] => { results := [.lit (.bool true)], args := [d1, d2, d3, d4] }
  | _ => none }
def aclTellsRow : OpenClaim := { program := "ytocfdpjclmieiaa", sum := "93afc73a8590041605c6784a40783c3d1aa3b4ade31276dac5c9cedb4de3285a", func := "scriptorium/scriptoriumlaw11.AclTells", spec := "aclTells", inPlace := ["internal/bytealg.IndexByteString", "internal/bytealg.IndexString", "internal/bytealg.abigen_runtime_cmpstring"], unfollowed := true, recurses := true, named := ["internal/bytealg.MaxLen"], apart := false }
def AclTellsSaid : Prop := aclTellsRow.holds Try.pinned (OpenSpec.ofChange aclTellsSpec)

/-- ITS FALSE NEIGHBOUR: 'it returns false'. Refute it at one input. -/
def aclTellsWrong : ChangeSpec := { name := "aclTells", fn := fun _ => fun
  | [d1, d2, d3, d4] => { results := [.lit (.bool false)], args := [d1, d2, d3, d4] }
  | _ => none }
def AclTellsWrongFalsely : Prop := aclTellsRow.holds Try.pinned (OpenSpec.ofChange aclTellsWrong)

/-- 'scriptoriumlaw11.AclSets': WHATEVER THE INPUT: true; the input reads as it did. -/
def aclSetsSpec : ChangeSpec := { name := "aclSets", fn := fun _ => fun
  | [d1, d2] => { results := [.lit (.bool true)], args := [d1, d2] }
  | _ => none }
def aclSetsRow : OpenClaim := { program := "ytocfdpjclmieiaa", sum := "93afc73a8590041605c6784a40783c3d1aa3b4ade31276dac5c9cedb4de3285a", func := "scriptorium/scriptoriumlaw11.AclSets", spec := "aclSets", inPlace := ["internal/bytealg.IndexByteString", "internal/bytealg.IndexString", "internal/bytealg.abigen_runtime_cmpstring"], unfollowed := true, recurses := true, named := ["internal/bytealg.MaxLen"], apart := false }
def AclSetsSaid : Prop := aclSetsRow.holds Try.pinned (OpenSpec.ofChange aclSetsSpec)

/-- ITS FALSE NEIGHBOUR: 'it returns false'. Refute it at one input. -/
def aclSetsWrong : ChangeSpec := { name := "aclSets", fn := fun _ => fun
  | [d1, d2] => { results := [.lit (.bool false)], args := [d1, d2] }
  | _ => none }
def AclSetsWrongFalsely : Prop := aclSetsRow.holds Try.pinned (OpenSpec.ofChange aclSetsWrong)

/- THE SECOND FORM. 'bulk': how many values and letters a reading holds, each counted each time it is reached (what is shared counts as often as it is met; a slice's spare places count too). A statement '..UptoSaid' is the law's where the arguments, and the package variables that the reading takes, are together of bulk at most 1048576: NARROWER than '..Said'. Prove '..Said' where nothing that the law and all that it calls make is longer than what came in: it says more and counts as full. Else prove '..UptoSaid'. A law counts once. -/
mutual
def uptoBulk {H : Type} : DataW H → Nat
  | .lit (.string bytes) => bytes.length + 1
  | .lit _ => 1
  | .nil => 1
  | .ptr d => uptoBulk d + 1
  | .slice elems spare => uptoBulkAll elems + uptoBulkAll spare + 1
  | .agg parts => uptoBulkAll parts + 1
  | .iface _ d => uptoBulk d + 1
  | .map entries => uptoBulkEntries entries + 1
  | .held _ => 1
def uptoBulkAll {H : Type} : List (DataW H) → Nat
  | [] => 0
  | d :: r => uptoBulk d + uptoBulkAll r
def uptoBulkEntries {H : Type} : List (Lit × DataW H) → Nat
  | [] => 0
  | x :: r => uptoBulkEntry x + uptoBulkEntries r
def uptoBulkEntry {H : Type} : Lit × DataW H → Nat
  | (.string bytes, d) => bytes.length + uptoBulk d + 1
  | (_, d) => uptoBulk d + 1
 end
def uptoSmall : (H : Type) → List (DataW H) → Bool := fun _ ds => decide (uptoBulkAll ds ≤ 1048576)
def OpenSpec.upto (s : _root_.Go.ChangeSpec) : _root_.Go.OpenSpec := { _root_.Go.OpenSpec.ofChange s with cond := some uptoSmall }

/-- 'scriptoriumlaw11.AclTells', WHERE WHAT IT READS IS OF BULK AT MOST 1048576: true; the input reads as it did. -/
def aclTellsUptoRow : OpenClaim := { program := "ytocfdpjclmieiaa", sum := "93afc73a8590041605c6784a40783c3d1aa3b4ade31276dac5c9cedb4de3285a", func := "scriptorium/scriptoriumlaw11.AclTells", spec := "aclTells", inPlace := ["internal/bytealg.IndexByteString", "internal/bytealg.IndexString", "internal/bytealg.abigen_runtime_cmpstring"], unfollowed := true, recurses := true, named := ["internal/bytealg.MaxLen"], apart := false, narrowed := true }
def AclTellsUptoSaid : Prop := aclTellsUptoRow.holds Try.pinned (OpenSpec.upto aclTellsSpec)

/-- 'scriptoriumlaw11.AclSets', WHERE WHAT IT READS IS OF BULK AT MOST 1048576: true; the input reads as it did. -/
def aclSetsUptoRow : OpenClaim := { program := "ytocfdpjclmieiaa", sum := "93afc73a8590041605c6784a40783c3d1aa3b4ade31276dac5c9cedb4de3285a", func := "scriptorium/scriptoriumlaw11.AclSets", spec := "aclSets", inPlace := ["internal/bytealg.IndexByteString", "internal/bytealg.IndexString", "internal/bytealg.abigen_runtime_cmpstring"], unfollowed := true, recurses := true, named := ["internal/bytealg.MaxLen"], apart := false, narrowed := true }
def AclSetsUptoSaid : Prop := aclSetsUptoRow.holds Try.pinned (OpenSpec.upto aclSetsSpec)

end Rows
end Go.Proofs.Ytocfdpjclmieiaa
