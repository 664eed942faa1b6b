/- AclHome: people of a tenant may write in it, and its root owns it; walked. -/
import Derived.Test.YtocfdpjclmieiaaAShown
import Derived.Test.YtocfdpjclmieiaaPlainHome
import Derived.Laws.Strings3
set_option linter.unusedVariables false
namespace Go.Proofs.Ytocfdpjclmieiaa
open Go.RowKit

theorem hadd_ex (A B : StrA) (h : A.length + B.length ≤ 9000000000000000000) : ∃ C : StrA, Hid (C = A ++ B) ∧ C.length = A.length + B.length ∧ ∀ w, (Op.stringOp .add (ByteArray.mk A.toArray) (ByteArray.mk B.toArray)).run Try.prog w = .ok (strA C) w :=
  ⟨A ++ B, rfl, by simp, fun w => by show _ = Result.ok (Value.string ⟨(A ++ B).toArray⟩) w; rw [← cat_eq]; exact run_string_add_sum (w := w) _ _ (by rw [size_list, size_list]; omega)⟩

end Go.Proofs.Ytocfdpjclmieiaa
