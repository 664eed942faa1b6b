/-
  No cell of these rows narrows 'for every input' (looked for: loops, veiled, ifaces, maps, wideKeys, modest, calm, conditions, laid).
  DERIVED. THE GIVEN ROWS OF THIS SEAT. 6 by the template 'for every input the law returns true; each argument reads behind the call as it read before'; 0 by the template 'total and deterministic' (their statements: YtnpboadefhannaaTotals.lean).
  GIVEN WITH THE SEED: the statements are not yours to turn. If you find one false, say at which input.
  Laid BY PROGRAM, IN A SANDBOX (cutbox-rows.mjs): the forced cells as the released guide's own fill.sh prints them over the translation 3068eba3f9be8906… (all of the seat's roots in one cut). By AI agents, Wed Nov 11 2026. No macro, syntax, notation, axiom, sorry.
-/
import Derived.Test.YtnpboadefhannaaChecked
import GoSem.Claim
import GoSem.ClaimJoined
import GoSem.ClaimMapViews
import Derived.JoinedTies
import Derived.KernelRfl
namespace Go.Proofs.Ytnpboadefhannaa
/- THE CELL 'sum', in the pinned program and in every row, IS THE sha256 OF THE DUMP (.gsa) THAT YtnpboadefhannaaProg.lean LOADS. Nothing in Lean hashes anything: it is a label: what it is worth is what the hold of that sum in a sandbox is worth. -/
noncomputable def Try.pinned : Pinned := { name := "ytnpboadefhannaa", sum := "3068eba3f9be8906107bb4de7e5477c1fcdceb0e91cd2290f9acc68b8981c6d7", checked := Try.checked }
namespace Rows
def none {H : Type} : Left H := { results := [], args := [] }

/-- 'scriptoriumlaw01.RunesClean': WHATEVER THE INPUT: true; the input reads as it did. -/
def runesCleanSpec : ChangeSpec := { name := "runesClean", fn := fun _ => fun
  | [d] => { results := [.lit (.bool true)], args := [d] }
  | _ => none }
def runesCleanRow : OpenClaim := { program := "ytnpboadefhannaa", sum := "3068eba3f9be8906107bb4de7e5477c1fcdceb0e91cd2290f9acc68b8981c6d7", func := "scriptorium/scriptoriumlaw01.RunesClean", spec := "runesClean", apart := false }
def RunesCleanSaid : Prop := runesCleanRow.holds Try.pinned (OpenSpec.ofChange runesCleanSpec)

/-- ITS FALSE NEIGHBOUR: 'it returns false'. Refute it at one input. -/
def runesCleanWrong : ChangeSpec := { name := "runesClean", fn := fun _ => fun
  | [d] => { results := [.lit (.bool false)], args := [d] }
  | _ => none }
def RunesCleanWrongFalsely : Prop := runesCleanRow.holds Try.pinned (OpenSpec.ofChange runesCleanWrong)

/-- 'scriptoriumlaw01.RunesLines': WHATEVER THE INPUT: true; the input reads as it did. -/
def runesLinesSpec : ChangeSpec := { name := "runesLines", fn := fun _ => fun
  | [d] => { results := [.lit (.bool true)], args := [d] }
  | _ => none }
def runesLinesRow : OpenClaim := { program := "ytnpboadefhannaa", sum := "3068eba3f9be8906107bb4de7e5477c1fcdceb0e91cd2290f9acc68b8981c6d7", func := "scriptorium/scriptoriumlaw01.RunesLines", spec := "runesLines", apart := false }
def RunesLinesSaid : Prop := runesLinesRow.holds Try.pinned (OpenSpec.ofChange runesLinesSpec)

/-- ITS FALSE NEIGHBOUR: 'it returns false'. Refute it at one input. -/
def runesLinesWrong : ChangeSpec := { name := "runesLines", fn := fun _ => fun
  | [d] => { results := [.lit (.bool false)], args := [d] }
  | _ => none }
def RunesLinesWrongFalsely : Prop := runesLinesRow.holds Try.pinned (OpenSpec.ofChange runesLinesWrong)

/-- 'scriptoriumlaw01.RunesKinds': WHATEVER THE INPUT: true; the input reads as it did. -/
def runesKindsSpec : ChangeSpec := { name := "runesKinds", fn := fun _ => fun
  | [d1, d2] => { results := [.lit (.bool true)], args := [d1, d2] }
  | _ => none }
def runesKindsRow : OpenClaim := { program := "ytnpboadefhannaa", sum := "3068eba3f9be8906107bb4de7e5477c1fcdceb0e91cd2290f9acc68b8981c6d7", func := "scriptorium/scriptoriumlaw01.RunesKinds", spec := "runesKinds", apart := false }
def RunesKindsSaid : Prop := runesKindsRow.holds Try.pinned (OpenSpec.ofChange runesKindsSpec)

/-- ITS FALSE NEIGHBOUR: 'it returns false'. Refute it at one input. -/
def runesKindsWrong : ChangeSpec := { name := "runesKinds", fn := fun _ => fun
  | [d1, d2] => { results := [.lit (.bool false)], args := [d1, d2] }
  | _ => none }
def RunesKindsWrongFalsely : Prop := runesKindsRow.holds Try.pinned (OpenSpec.ofChange runesKindsWrong)

/-- 'scriptoriumlaw01.RunesFold': WHATEVER THE INPUT: true; the input reads as it did. -/
def runesFoldSpec : ChangeSpec := { name := "runesFold", fn := fun _ => fun
  | [d] => { results := [.lit (.bool true)], args := [d] }
  | _ => none }
def runesFoldRow : OpenClaim := { program := "ytnpboadefhannaa", sum := "3068eba3f9be8906107bb4de7e5477c1fcdceb0e91cd2290f9acc68b8981c6d7", func := "scriptorium/scriptoriumlaw01.RunesFold", spec := "runesFold", apart := false }
def RunesFoldSaid : Prop := runesFoldRow.holds Try.pinned (OpenSpec.ofChange runesFoldSpec)

/-- ITS FALSE NEIGHBOUR: 'it returns false'. Refute it at one input. -/
def runesFoldWrong : ChangeSpec := { name := "runesFold", fn := fun _ => fun
  | [d] => { results := [.lit (.bool false)], args := [d] }
  | _ => none }
def RunesFoldWrongFalsely : Prop := runesFoldRow.holds Try.pinned (OpenSpec.ofChange runesFoldWrong)

/-- 'scriptoriumlaw01.RunesJoin': WHATEVER THE INPUT: true; the input reads as it did. -/
def runesJoinSpec : ChangeSpec := { name := "runesJoin", fn := fun _ => fun
  | [d1, d2] => { results := [.lit (.bool true)], args := [d1, d2] }
  | _ => none }
def runesJoinRow : OpenClaim := { program := "ytnpboadefhannaa", sum := "3068eba3f9be8906107bb4de7e5477c1fcdceb0e91cd2290f9acc68b8981c6d7", func := "scriptorium/scriptoriumlaw01.RunesJoin", spec := "runesJoin", apart := false }
def RunesJoinSaid : Prop := runesJoinRow.holds Try.pinned (OpenSpec.ofChange runesJoinSpec)

/-- ITS FALSE NEIGHBOUR: 'it returns false'. Refute it at one input. -/
def runesJoinWrong : ChangeSpec := { name := "runesJoin", fn := fun _ => fun
  | [d1, d2] => { results := [.lit (.bool false)], args := [d1, d2] }
  | _ => none }
def RunesJoinWrongFalsely : Prop := runesJoinRow.holds Try.pinned (OpenSpec.ofChange runesJoinWrong)

/-- 'scriptoriumlaw01.RunesStays': WHATEVER THE INPUT: true; the input reads as it did. -/
def runesStaysSpec : ChangeSpec := { name := "runesStays", fn := fun _ => fun
  | [d] => { results := [.lit (.bool true)], args := [d] }
  | _ => none }
def runesStaysRow : OpenClaim := { program := "ytnpboadefhannaa", sum := "3068eba3f9be8906107bb4de7e5477c1fcdceb0e91cd2290f9acc68b8981c6d7", func := "scriptorium/scriptoriumlaw01.RunesStays", spec := "runesStays", apart := false }
def RunesStaysSaid : Prop := runesStaysRow.holds Try.pinned (OpenSpec.ofChange runesStaysSpec)

/-- ITS FALSE NEIGHBOUR: 'it returns false'. Refute it at one input. -/
def runesStaysWrong : ChangeSpec := { name := "runesStays", fn := fun _ => fun
  | [d] => { results := [.lit (.bool false)], args := [d] }
  | _ => none }
def RunesStaysWrongFalsely : Prop := runesStaysRow.holds Try.pinned (OpenSpec.ofChange runesStaysWrong)

/- THE SECOND FORM. 'bulk': how many values and letters a reading holds, each counted each time it is reached (what is shared counts as often as it is met; a slice's spare places count too). A statement '..UptoSaid' is the law's where the arguments, and the package variables that the reading takes, are together of bulk at most 1048576: NARROWER than '..Said'. Prove '..Said' where nothing that the law and all that it calls make is longer than what came in: it says more and counts as full. Else prove '..UptoSaid'. A law counts once. -/
mutual
def uptoBulk {H : Type} : DataW H → Nat
  | .lit (.string bytes) => bytes.length + 1
  | .lit _ => 1
  | .nil => 1
  | .ptr d => uptoBulk d + 1
  | .slice elems spare => uptoBulkAll elems + uptoBulkAll spare + 1
  | .agg parts => uptoBulkAll parts + 1
  | .iface _ d => uptoBulk d + 1
  | .map entries => uptoBulkEntries entries + 1
  | .held _ => 1
def uptoBulkAll {H : Type} : List (DataW H) → Nat
  | [] => 0
  | d :: r => uptoBulk d + uptoBulkAll r
def uptoBulkEntries {H : Type} : List (Lit × DataW H) → Nat
  | [] => 0
  | x :: r => uptoBulkEntry x + uptoBulkEntries r
def uptoBulkEntry {H : Type} : Lit × DataW H → Nat
  | (.string bytes, d) => bytes.length + uptoBulk d + 1
  | (_, d) => uptoBulk d + 1
 end
def uptoSmall : (H : Type) → List (DataW H) → Bool := fun _ ds => decide (uptoBulkAll ds ≤ 1048576)
def OpenSpec.upto (s : _root_.Go.ChangeSpec) : _root_.Go.OpenSpec := { _root_.Go.OpenSpec.ofChange s with cond := some uptoSmall }

/-- 'scriptoriumlaw01.RunesClean', WHERE WHAT IT READS IS OF BULK AT MOST 1048576: true; the input reads as it did. -/
def runesCleanUptoRow : OpenClaim := { program := "ytnpboadefhannaa", sum := "3068eba3f9be8906107bb4de7e5477c1fcdceb0e91cd2290f9acc68b8981c6d7", func := "scriptorium/scriptoriumlaw01.RunesClean", spec := "runesClean", apart := false, narrowed := true }
def RunesCleanUptoSaid : Prop := runesCleanUptoRow.holds Try.pinned (OpenSpec.upto runesCleanSpec)

/-- 'scriptoriumlaw01.RunesLines', WHERE WHAT IT READS IS OF BULK AT MOST 1048576: true; the input reads as it did. -/
def runesLinesUptoRow : OpenClaim := { program := "ytnpboadefhannaa", sum := "3068eba3f9be8906107bb4de7e5477c1fcdceb0e91cd2290f9acc68b8981c6d7", func := "scriptorium/scriptoriumlaw01.RunesLines", spec := "runesLines", apart := false, narrowed := true }
def RunesLinesUptoSaid : Prop := runesLinesUptoRow.holds Try.pinned (OpenSpec.upto runesLinesSpec)

/-- 'scriptoriumlaw01.RunesKinds', WHERE WHAT IT READS IS OF BULK AT MOST 1048576: true; the input reads as it did. -/
def runesKindsUptoRow : OpenClaim := { program := "ytnpboadefhannaa", sum := "3068eba3f9be8906107bb4de7e5477c1fcdceb0e91cd2290f9acc68b8981c6d7", func := "scriptorium/scriptoriumlaw01.RunesKinds", spec := "runesKinds", apart := false, narrowed := true }
def RunesKindsUptoSaid : Prop := runesKindsUptoRow.holds Try.pinned (OpenSpec.upto runesKindsSpec)

/-- 'scriptoriumlaw01.RunesFold', WHERE WHAT IT READS IS OF BULK AT MOST 1048576: true; the input reads as it did. -/
def runesFoldUptoRow : OpenClaim := { program := "ytnpboadefhannaa", sum := "3068eba3f9be8906107bb4de7e5477c1fcdceb0e91cd2290f9acc68b8981c6d7", func := "scriptorium/scriptoriumlaw01.RunesFold", spec := "runesFold", apart := false, narrowed := true }
def RunesFoldUptoSaid : Prop := runesFoldUptoRow.holds Try.pinned (OpenSpec.upto runesFoldSpec)

/-- 'scriptoriumlaw01.RunesJoin', WHERE WHAT IT READS IS OF BULK AT MOST 1048576: true; the input reads as it did. -/
def runesJoinUptoRow : OpenClaim := { program := "ytnpboadefhannaa", sum := "3068eba3f9be8906107bb4de7e5477c1fcdceb0e91cd2290f9acc68b8981c6d7", func := "scriptorium/scriptoriumlaw01.RunesJoin", spec := "runesJoin", apart := false, narrowed := true }
def RunesJoinUptoSaid : Prop := runesJoinUptoRow.holds Try.pinned (OpenSpec.upto runesJoinSpec)

/-- 'scriptoriumlaw01.RunesStays', WHERE WHAT IT READS IS OF BULK AT MOST 1048576: true; the input reads as it did. -/
def runesStaysUptoRow : OpenClaim := { program := "ytnpboadefhannaa", sum := "3068eba3f9be8906107bb4de7e5477c1fcdceb0e91cd2290f9acc68b8981c6d7", func := "scriptorium/scriptoriumlaw01.RunesStays", spec := "runesStays", apart := false, narrowed := true }
def RunesStaysUptoSaid : Prop := runesStaysUptoRow.holds Try.pinned (OpenSpec.upto runesStaysSpec)

end Rows
end Go.Proofs.Ytnpboadefhannaa
