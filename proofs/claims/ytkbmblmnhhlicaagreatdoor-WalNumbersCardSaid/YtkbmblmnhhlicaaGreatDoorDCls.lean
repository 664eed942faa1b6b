/- Regions that draw their order, in whatever world grew out of one. -/
import Derived.Test.YtkbmblmnhhlicaaGreatDoorWKeeps
import Derived.BigQuiet
import Derived.Deep.RegionWith
set_option linter.unusedVariables false
namespace Go.Proofs.YtkbmblmnhhlicaaGreatDoor
open Go.RowKit

def BwD (w0 : World) : Type := { u : World // Below w0.heap.size w0 u }
def BwD.of {w0 w : World} (h : Below w0.heap.size w0 w) : BwD w0 := ⟨w, h⟩
def BwD.wo {w0 : World} (u : BwD w0) : World := u.1
theorem BwD.is {w0 : World} (u : BwD w0) : Below w0.heap.size w0 u.wo := u.2
theorem BwD.some (w0 : World) : Nonempty (BwD w0) := ⟨BwD.of (Below.refl _ _)⟩
theorem BwD.first (w0 : World) : ∃ u : BwD w0, w0.drew = u.wo := ⟨BwD.of (Below.refl _ w0).drew, rfl⟩

theorem region_classD {P : Program} {id : Nat} {Q : Exit → Act → World → Prop} {a : Act} {w : World} {l : List Oper} (C : World → Prop) (hm : P.follows .mixedOrders = true) (hB : Region.lexB .any l.toArray = true) (hC : C w.drew)
    (h : wpQuiet P l.toArray C (fun a' => ∀ w', C w' → Q .normal a' w') l a) : (Code.region id l.toArray true).wp P Q a w :=
  wp_region_quiet (C := C) hm hB hC (by simpa using h)

end Go.Proofs.YtkbmblmnhhlicaaGreatDoor
