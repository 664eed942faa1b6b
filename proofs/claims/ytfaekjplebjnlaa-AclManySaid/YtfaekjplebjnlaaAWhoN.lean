/- who, of the laws of layer 11; walked. -/
import Derived.Test.YtfaekjplebjnlaaAShown
import Derived.Test.YtfaekjplebjnlaaPlainMany
import Derived.Laws.Strings3
set_option linter.unusedVariables false
namespace Go.Proofs.Ytfaekjplebjnlaa
open Go.RowKit

theorem saddA (A B : StrA) (h : A.length + B.length ≤ 9223372036854775000) : ∀ w, (Op.stringOp .add (ByteArray.mk A.toArray) (ByteArray.mk B.toArray)).run Try.prog w = .ok (.string ⟨(A ++ B).toArray⟩) w := by
  intro w
  rw [← cat_eq]
  exact run_string_add_sum (w := w) _ _ (by rw [size_list, size_list]; omega)
set_option maxHeartbeats 4000000 in
theorem awhoN_any (i : Nat) (hi : i < 80) (w : World) : Calls Try.prog 22 #[.int .i64 (i : Int)] w fun e w' => e = .returned (strA (whoN i)) ∧ Below w.heap.size w w' := by
  obtain ⟨a, ha⟩ : ∃ a : Nat, a = i / 10 := ⟨_, rfl⟩
  obtain ⟨b, hb⟩ : ∃ b : Nat, b = i % 10 := ⟨_, rfl⟩
  have hw : whoN i = [98, 47, 117] ++ [(97 + a).toUInt8, (48 + b).toUInt8] := by rw [ha, hb]; rfl
  have t1 : (i : Int).tdiv 10 = (a : Int) := by rw [Int.tdiv_eq_ediv_of_nonneg (by omega)]; omega
  have t2 : (i : Int).tmod 10 = (b : Int) := by rw [Int.tmod_eq_emod_of_nonneg (by omega)]; omega
  have ha8 : a < 8 := by omega
  have hb10 : b < 10 := by omega
  have u1 : IntKind.u8.wrap (97 + (a : Int)) = ((97 + a : Nat) : Int) := by rw [IntKind.wrap_u8]; omega
  have u2 : IntKind.u8.wrap (48 + (b : Int)) = ((48 + b : Nat) : Int) := by rw [IntKind.wrap_u8]; omega
  have hii : (i : Int) < 80 := by omega
  have hai : (a : Int) < 8 := by omega
  have hbi : (b : Int) < 10 := by omega
  have HWN := (show Hid (whoN i = [98, 47, 117] ++ [(97 + a).toUInt8, (48 + b).toUInt8]) from hw)
  have hc := conv_lit w [(97 + a).toUInt8, (48 + b).toUInt8] #[.int .u8 (97 + (a : Int)), .int .u8 (48 + (b : Int))] 2 rfl (by
    unfold Lib.byteCells
    simp
    constructor <;> omega)
  have hs := saddA [98, 47, 117] [(97 + a).toUInt8, (48 + b).toUInt8] (show (3 : Nat) + 2 ≤ 9223372036854775000 by decide)
  clear ha hb hw u1 u2
  generalize hX : ([(97 + a).toUInt8, (48 + b).toUInt8] : StrA) = X at *
  generalize hY : ([98, 47, 117] ++ X : StrA) = Y at *
  have HB0 : Hid (∀ o, Below w.heap.size w (w.alloc o)) := fun o => (Below.refl _ _).alloc (Nat.le_refl _) o
  clear hX hY
  go_enter Try.func22, Try.ntmps22
  go_wp2
  go_ret
  exact ⟨by rw [HWN.out]; rfl, HB0.out _⟩
end Go.Proofs.Ytfaekjplebjnlaa
