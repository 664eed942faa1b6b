/- name, of the laws of layer 10; walked. -/
import Derived.Test.YtkjicdldlnefeaaDoorNSum
import Derived.Test.YtkjicdldlnefeaaDoorPlainChain2
set_option linter.unusedVariables false
namespace Go.Proofs.YtkjicdldlnefeaaDoor
open Go.RowKit

set_option maxHeartbeats 4000000 in
theorem nname_any (n : Nat) (hn : n < 25) (w : World) : Calls Tryd.prog 18 #[.int .i64 (n : Int)] w fun e w' => e = .returned (strA (nmN n)) ∧ Below w.heap.size w w' := by
  have HB0 : Hid (∀ o, Below w.heap.size w (w.alloc o)) := fun o => (Below.refl _ _).alloc (Nat.le_refl _) o
  have hni : (n : Int) < 25 := by omega
  have hc := conv_lit w [(97 + n).toUInt8] #[.int .u8 (97 + (n : Int))] 1 rfl (by
    unfold Lib.byteCells
    simp
    omega)
  have sm : ∀ u, (Op.stringOp .add (ByteArray.mk #[100]) (ByteArray.mk ([(97 + n).toUInt8] : StrA).toArray)).run Tryd.prog u = .ok (.string ⟨(nmN n).toArray⟩) u := nsumT (A := [100]) (B := [(97 + n).toUInt8]) rfl (by show 1 + 1 ≤ _; omega)
  generalize nmN n = Z at *
  generalize ([(97 + n).toUInt8] : StrA) = X at *
  go_enter Tryd.func18, Tryd.ntmps18
  go_wp2
  go_ret
  exact ⟨rfl, HB0.out _⟩
end Go.Proofs.YtkjicdldlnefeaaDoor
