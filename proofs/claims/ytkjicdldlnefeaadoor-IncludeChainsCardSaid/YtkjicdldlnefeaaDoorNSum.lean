/- Sums of texts, and numbers that are folded; for the laws of layer 10. -/
import Derived.Test.YtkjicdldlnefeaaDoorNShown2
import Derived.Laws.Strings3
set_option linter.unusedVariables false
namespace Go.Proofs.YtkjicdldlnefeaaDoor
open Go.RowKit

theorem nsumT {A B C : StrA} (hC : A ++ B = C) (h : A.length + B.length ≤ 9223372036854775000) : ∀ w, (Op.stringOp .add (ByteArray.mk A.toArray) (ByteArray.mk B.toArray)).run Tryd.prog w = .ok (.string ⟨C.toArray⟩) w := by
  intro w
  rw [← hC, ← cat_eq]
  exact run_string_add_sum (w := w) _ _ (by rw [size_list, size_list]; omega)
theorem nfoldT (a m : Int) (h0 : -9223372036854775808 ≤ a) (hm : 0 < m) : ∃ X : Nat, (X : Int) < m ∧ ((¬ a < 0 ∧ a.tmod m = (X : Int)) ∨ (a < 0 ∧ (-(a + 1)).tmod m = (X : Int))) := by
  by_cases h : 0 ≤ a
  · have h1 := Int.tmod_nonneg m h
    have h2 : a.tmod m < m := by rw [Int.tmod_eq_emod_of_nonneg h]; exact Int.emod_lt_of_pos _ hm
    exact ⟨(a.tmod m).toNat, by omega, .inl ⟨by omega, by omega⟩⟩
  · have h1 := Int.tmod_nonneg m (a := -(a + 1)) (by omega)
    have h2 : (-(a + 1)).tmod m < m := by rw [Int.tmod_eq_emod_of_nonneg (by omega)]; exact Int.emod_lt_of_pos _ hm
    exact ⟨((-(a + 1)).tmod m).toNat, by omega, .inr ⟨by omega, by omega⟩⟩
end Go.Proofs.YtkjicdldlnefeaaDoor
