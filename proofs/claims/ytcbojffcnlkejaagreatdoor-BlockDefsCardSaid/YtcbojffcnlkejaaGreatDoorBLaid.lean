/- What every law of this seat's frame leans on: the start, and the cell that the library's search reads. -/
import Derived.Test.YtcbojffcnlkejaaGreatDoorLLaid
import Derived.Test.YtcbojffcnlkejaaGreatDoorLEnds
set_option linter.unusedVariables false
namespace Go.Proofs.YtcbojffcnlkejaaGreatDoor
open Go.ChangeShapes Go.WideShapes Go.ChangeAt Go.RowKit

theorem mlen_shaped {W : World} (h : W.ShapedOpen Tryz.prog) : MLen W := Go.Proofs.cell_of_shapedOpen_int (zero := #[.int .i64 0]) (t := 3) h (of_decide_eq_true (by kernel_rfl)) (by kernel_rfl) rfl (by kernel_rfl) (by kernel_rfl) Tryz.underlying3

end Go.Proofs.YtcbojffcnlkejaaGreatDoor
