/- digits, of the laws of layer 10; walked. -/
import Derived.Test.YtkjicdldlnefeabDoorNShown2
import Derived.Test.YtkjicdldlnefeabDoorPlainVers
set_option linter.unusedVariables false
namespace Go.Proofs.YtkjicdldlnefeabDoor
open Go.RowKit

set_option maxHeartbeats 4000000 in
theorem ndig_any (n : Nat) (hn : n < 51) (w : World) : Calls Tryd.prog 7 #[.int .i64 (n : Int)] w fun e w' => e = .returned (strA (digN n)) ∧ Below w.heap.size w w' := by
  have HB0 : Hid (∀ o, Below w.heap.size w (w.alloc o)) := fun o => (Below.refl _ _).alloc (Nat.le_refl _) o
  have hni : (n : Int) < 51 := by omega
  by_cases h9 : 9 < n
  · obtain ⟨a, ha⟩ : ∃ a : Nat, a = n / 10 := ⟨_, rfl⟩
    obtain ⟨b, hb⟩ : ∃ b : Nat, b = n % 10 := ⟨_, rfl⟩
    have HD : Hid (digN n = [(48 + a).toUInt8, (48 + b).toUInt8]) := by show _ = _; unfold digN; rw [if_pos h9, ha, hb]
    have t1 : (n : Int).tdiv 10 = (a : Int) := by rw [Int.tdiv_eq_ediv_of_nonneg (by omega)]; omega
    have t2 : (n : Int).tmod 10 = (b : Int) := by rw [Int.tmod_eq_emod_of_nonneg (by omega)]; omega
    have hai : (a : Int) < 10 := by omega
    have hbi : (b : Int) < 10 := by omega
    have h9i : (9 : Int) < (n : Int) := by omega
    have hc := conv_lit w [(48 + a).toUInt8, (48 + b).toUInt8] #[.int .u8 (48 + (a : Int)), .int .u8 (48 + (b : Int))] 2 rfl (by
      unfold Lib.byteCells
      simp
      constructor <;> omega)
    clear ha hb h9
    generalize ([(48 + a).toUInt8, (48 + b).toUInt8] : StrA) = X at *
    go_enter Tryd.func7, Tryd.ntmps7
    go_wp2
    go_ret
    exact ⟨by rw [HD.out]; first | done | rfl, HB0.out _⟩
  · have HD : Hid (digN n = [(48 + n).toUInt8]) := by show _ = _; unfold digN; rw [if_neg h9]
    have h9i : ¬ (9 : Int) < (n : Int) := by omega
    have hn10 : (n : Int) < 10 := by omega
    have hc := conv_lit w [(48 + n).toUInt8] #[.int .u8 (48 + (n : Int))] 1 rfl (by
      unfold Lib.byteCells
      simp
      omega)
    clear h9
    generalize ([(48 + n).toUInt8] : StrA) = X at *
    go_enter Tryd.func7, Tryd.ntmps7
    go_wp2
    go_ret
    exact ⟨by rw [HD.out]; first | done | rfl, HB0.out _⟩
end Go.Proofs.YtkjicdldlnefeabDoor
