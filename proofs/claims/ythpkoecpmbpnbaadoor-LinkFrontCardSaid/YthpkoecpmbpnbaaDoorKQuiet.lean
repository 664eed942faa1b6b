/- Regions that draw their order, whose callees make memory. -/
import Derived.Test.YthpkoecpmbpnbaaDoorKFront
import Derived.Deep.QuietTactic
import Derived.BigQuiet
import Derived.Deep.RegionWith
set_option linter.unusedVariables false
namespace Go.Proofs.YthpkoecpmbpnbaaDoor
open Go.RowKit

/-- The worlds that are as w0 below its end. -/
def BelW (w0 : World) : Type := { u : World // Below w0.heap.size w0 u }
def BelW.of {w0 w : World} (h : Below w0.heap.size w0 w) : BelW w0 := ⟨w, h⟩
def BelW.wo {w0 : World} (u : BelW w0) : World := u.1
theorem BelW.is {w0 : World} (u : BelW w0) : Below w0.heap.size w0 u.wo := u.2

/-- A region that draws its order, each of whose operations answers the same in every world of a class and leaves a world of it. -/
theorem region_class {P : Program} {id : Nat} {Q : Exit → Act → World → Prop} {a : Act} {w : World} {l : List Oper} (C : World → Prop) (hm : P.follows .mixedOrders = true) (hB : Region.lexB .any l.toArray = true) (hC : C w.drew)
    (h : wpQuiet P l.toArray C (fun a' => ∀ w', C w' → Q .normal a' w') l a) : (Code.region id l.toArray true).wp P Q a w :=
  wp_region_quiet (C := C) hm hB hC (by simpa using h)

theorem bq {w0 : World} {f : FuncId} {args : Array Value} {v : Value} (h : ∀ w, Calls Tryd.prog f args w fun e w' => e = .returned v ∧ Below w.heap.size w w') (u : BelW w0) : Calls Tryd.prog f args u.wo fun e w' => e = .returned v ∧ ∃ u' : BelW w0, w' = u'.wo :=
  (h u.wo).mono fun _ w' ⟨he, hb⟩ => ⟨he, BelW.of (below_next u.is hb), rfl⟩

end Go.Proofs.YthpkoecpmbpnbaaDoor
