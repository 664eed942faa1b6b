/- Are two letters the same: the document's own, walked. -/
import Derived.Test.YtmlihlnigojmpaaDoorPSame3
set_option linter.unusedVariables false
namespace Go.Proofs.YtmlihlnigojmpaaDoor
open Go.RowKit

theorem lt_eq {M N : Lt} : M = N ↔ M.k = N.k ∧ M.f = N.f ∧ M.t = N.t ∧ M.tm = N.tm ∧ M.i = N.i ∧ M.lt = N.lt ∧ M.cm = N.cm ∧ M.rd = N.rd ∧ M.ok = N.ok ∧ M.es = N.es ∧ (M.sx = N.sx ∧ M.st = N.st ∧ M.ns = N.ns ∧ M.da = N.da) := by
  cases M
  cases N
  simp
instance : DecidableEq Lt := fun M N => decidable_of_iff _ lt_eq.symm

end Go.Proofs.YtmlihlnigojmpaaDoor
