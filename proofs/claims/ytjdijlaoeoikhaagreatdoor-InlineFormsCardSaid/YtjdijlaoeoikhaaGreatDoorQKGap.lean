/- Package link: row, gap, lineEnd; walked. -/
import Derived.Test.YtjdijlaoeoikhaaGreatDoorQKDest
import Derived.Test.YtjdijlaoeoikhaaGreatDoorShelf
import Derived.Shelf.Strings.SlTrimAscii
set_option linter.unusedVariables false
namespace Go.Proofs.YtjdijlaoeoikhaaGreatDoor.lnk
open Go.RowKit

theorem below_next {w0 w w' : World} (h : Below w0.heap.size w0 w) (hb : Below w.heap.size w w') : Below w0.heap.size w0 w' := h.trans (hb.mono h.size)

theorem ktl_at (s cs : ByteArray) (hcs : cs.size < 100) (ha : cs.data.toList.all (fun b => decide (b.toNat < 128)) = true) (r : ByteArray) (hr : r = ⟨(Lib.trimLeftS s.data.toList cs.data.toList).toArray⟩) (w : World) :
    Calls Tryz.prog 45 #[.string s, .string cs] w fun e w' => e = .returned (.string r) ∧ Below w.heap.size w w' := by
  rw [hr]
  exact Go.Proofs.Any.strings_TrimLeft_laid Tryz.lays161 (by kernel_rfl) s cs w (by omega) (Go.Proofs.ascii_of_all ha)

theorem ext_from (s : ByteArray) (k : Nat) : (s.extract k s.size).data.toList = s.data.toList.drop k := by rw [extract_end]
theorem ext_size (s : ByteArray) (k : Nat) : (s.extract k s.size).size ≤ s.size := by rw [ByteArray.size_extract]; omega
theorem gapC_is : (fun b => (ByteArray.mk #[32, 9]).data.toList.contains b) = gapC := rfl

end Go.Proofs.YtjdijlaoeoikhaaGreatDoor.lnk
