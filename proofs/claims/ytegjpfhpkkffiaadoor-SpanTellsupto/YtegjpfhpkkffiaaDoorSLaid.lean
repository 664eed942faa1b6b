/- What every law of this seat's frame leans on: a start at which the library's two tables hold what its text lays; the library's variable holds some number. -/
import Derived.Test.YtegjpfhpkkffiaaDoorCards
import Derived.Test.YtegjpfhpkkffiaaDoorTie
import Derived.Test.YtegjpfhpkkffiaaDoorSRaw
import Derived.ProofKit
import Derived.OpenShut
import Derived.ShutString
import Derived.ChangeOld
import Derived.Below
import Derived.JoinedCond
import Derived.SizedLaws
import Derived.Deep.DeepHandedRow
import Derived.Lib.LaidTab
set_option linter.unusedVariables false
namespace Go.Proofs.YtegjpfhpkkffiaaDoor
open Go.ChangeShapes Go.WideShapes Go.ChangeAt Go.RowKit

theorem own : ownKnob Tryd.prog.godebug = none := by kernel_rfl
theorem int_range {n : Int} (h : (Lit.int .i64 n).wf = true) : -9223372036854775808 ≤ n ∧ n ≤ 9223372036854775807 := by
  simp only [Lit.wf, Bool.and_eq_true, decide_eq_true_eq] at h
  exact h
theorem ml_shaped {W : World} (h : W.ShapedOpen Tryd.prog) : ML W := Tryd.laysM143.s1_3 W h

def oneCell : DataW Unit → Value
  | .lit (.int k n) => .int k n
  | _ => .bool false
def someCells : DataW Unit → List Value
  | .agg l => l.map oneCell
  | _ => []
def pairCells : DataW Unit → List Value
  | .agg l => l.flatMap someCells
  | _ => []
def putFirst : Obj → Obj
  | .cells _ t frozen => .cells (someCells Rows.laid_unicode_utf8_first).toArray t frozen
  | o => o
def putRanges : Obj → Obj
  | .cells _ t frozen => .cells (pairCells Rows.laid_unicode_utf8_acceptRanges).toArray t frozen
  | o => o
/-- The settled world, the two tables holding what the library's text lays. -/
noncomputable def laidWorld (os : Os) : World :=
  { World.holding Tryd.prog os ⟨#[], #[], []⟩ with heap := ((World.holding Tryd.prog os ⟨#[], #[], []⟩).heap.modify 1 putFirst).modify 2 putRanges }

end Go.Proofs.YtegjpfhpkkffiaaDoor
