/- What runes.Clean answers, of any bytes. -/
import Derived.Test.YthpkoecpmbpnbaaDoorQFMem
set_option linter.unusedVariables false
namespace Go.Proofs.YthpkoecpmbpnbaaDoor.run
open Go.RowKit

theorem drop_ne {l : List UInt8} {p : Nat} (h : p < l.length) : l.drop p ≠ [] := by
  intro e
  have := congrArg List.length e
  simp at this
  omega

theorem enc_cells (r : Nat) : Lib.runeCells (r : Int) = Lib.byteCells (enc r) := (Lib.byteCells_encodeRune (r : Int)).symm

end Go.Proofs.YthpkoecpmbpnbaaDoor.run
