/- Bytes and characters in package escape: letter, digit, digitValue, Mark, IndexByte, ValidRune, character. -/
import Derived.Test.YthpkoecpmbpnbaaDoorBase
import Derived.Test.YthpkoecpmbpnbaaDoorPlainEsc
import Derived.Lib.Bytealg
set_option linter.unusedVariables false
namespace Go.Proofs.YthpkoecpmbpnbaaDoor.esc
open Go.RowKit

set_option maxHeartbeats 1000000 in
theorem mark_any (c : Nat) (w : World) :
    Calls Tryd.prog 40 #[.int .u8 (c : Int)] w fun e w' => e = .returned (.bool (markN c)) ∧ w' = w := by
  have hc : c < 33 ∨ (33 ≤ c ∧ c ≤ 47) ∨ (47 < c ∧ c < 58) ∨ (58 ≤ c ∧ c ≤ 64) ∨ (64 < c ∧ c < 91) ∨ (91 ≤ c ∧ c ≤ 96) ∨ (96 < c ∧ c < 123) ∨ (123 ≤ c ∧ c ≤ 126) ∨ 126 < c := by omega
  rcases hc with h | ⟨h, h'⟩ | ⟨h, h'⟩ | ⟨h, h'⟩ | ⟨h, h'⟩ | ⟨h, h'⟩ | ⟨h, h'⟩ | ⟨h, h'⟩ | h
  all_goals
    go_enter Tryd.func40, Tryd.ntmps40
    go_wp2
    go_ret
    exact ⟨ret_bool (by unfold markN; rw [Bool.eq_iff_iff]; simp; omega), rfl⟩

theorem letter_any (c : Nat) (w : World) :
    Calls Tryd.prog 69 #[.int .u8 (c : Int)] w fun e w' => e = .returned (.bool (letterN c)) ∧ w' = w := by
  have hc : c < 65 ∨ (65 ≤ c ∧ c ≤ 90) ∨ (90 < c ∧ c < 97) ∨ (97 ≤ c ∧ c ≤ 122) ∨ 122 < c := by omega
  rcases hc with h | ⟨h, h'⟩ | ⟨h, h'⟩ | ⟨h, h'⟩ | h
  all_goals
    go_enter Tryd.func69, Tryd.ntmps69
    go_wp2
    go_ret
    exact ⟨ret_bool (by unfold letterN; rw [Bool.eq_iff_iff]; simp; omega), rfl⟩

theorem digit_any (c : Nat) (w : World) :
    Calls Tryd.prog 70 #[.int .u8 (c : Int)] w fun e w' => e = .returned (.bool (digitN c)) ∧ w' = w := by
  have hc : c < 48 ∨ (48 ≤ c ∧ c ≤ 57) ∨ 57 < c := by omega
  rcases hc with h | ⟨h, h'⟩ | h
  all_goals
    go_enter Tryd.func70, Tryd.ntmps70
    go_wp2
    go_ret
    exact ⟨ret_bool (by unfold digitN; rw [Bool.eq_iff_iff]; simp; omega), rfl⟩

def digVN (c : Nat) : Nat :=
  if 48 ≤ c ∧ c ≤ 57 then c - 48 else if 97 ≤ c ∧ c ≤ 102 then c - 87 else if 65 ≤ c ∧ c ≤ 70 then c - 55 else 16

theorem digitValue_any (c : Nat) (hc : c ≤ 255) (w : World) :
    Calls Tryd.prog 72 #[.int .u8 (c : Int)] w fun e w' => e = .returned (.int .i32 (digVN c)) ∧ w' = w := by
  have hcc : c < 48 ∨ (48 ≤ c ∧ c ≤ 57) ∨ (57 < c ∧ c < 65) ∨ (65 ≤ c ∧ c ≤ 70) ∨ (70 < c ∧ c < 97) ∨ (97 ≤ c ∧ c ≤ 102) ∨ 102 < c := by omega
  rcases hcc with h | ⟨h, h'⟩ | ⟨h, h'⟩ | ⟨h, h'⟩ | ⟨h, h'⟩ | ⟨h, h'⟩ | h
  all_goals
    have hd : digitN c = decide (48 ≤ c ∧ c ≤ 57) := rfl
    first | rw [decide_eq_true (by omega)] at hd | rw [decide_eq_false (by omega)] at hd
    go_enter Tryd.func72, Tryd.ntmps72
    go_wp2_with (go_at_call 70; refine (digit_any _ _).mono ?_; rintro e w' ⟨rfl, rfl⟩)
    go_ret
    exact ⟨ret_int (by unfold digVN; split; · omega
                       split; · omega
                       split <;> omega), rfl⟩

/-- The entry for which the model stands in. -/
theorem index_entry (s : ByteArray) (c : Int) (w : World) : (callFunc 68 #[.string s, .int .u8 c]).run Tryd.prog w = .ok (.value (.int .i64 (Lib.indexByte s.data.toList c.toNat.toUInt8))) w := by
  rw [run_callFunc_extern (e := Extern.BytealgIndexByte.indexByte) Tryd.func68 (by kernel_rfl) (by kernel_rfl) (by kernel_rfl) (by kernel_rfl), Lib.run_indexByteString]
  rfl

theorem stringslite_any (s : ByteArray) (c : Int) (w : World) :
    Calls Tryd.prog 55 #[.string s, .int .u8 c] w fun e w' => e = .returned (.int .i64 (Lib.indexByte s.data.toList c.toNat.toUInt8)) ∧ w' = w := by
  have hx := index_entry s c
  go_enter Tryd.func55, Tryd.ntmps55
  go_wp2
  go_ret
  exact ⟨rfl, rfl⟩

theorem indexByte_any (s : ByteArray) (c : Int) (w : World) :
    Calls Tryd.prog 41 #[.string s, .int .u8 c] w fun e w' => e = .returned (.int .i64 (Lib.indexByte s.data.toList c.toNat.toUInt8)) ∧ w' = w := by
  go_enter Tryd.func41, Tryd.ntmps41
  go_wp2_with (go_at_call 55; refine (stringslite_any _ _ _).mono ?_; rintro e w' ⟨rfl, rfl⟩)
  go_ret
  exact ⟨rfl, rfl⟩

theorem validRune_any (n : Int) (w : World) :
    Calls Tryd.prog 84 #[.int .i32 n] w fun e w' => e = .returned (.bool (decide ((0 ≤ n ∧ n < 55296) ∨ (57343 < n ∧ n ≤ 1114111)))) ∧ w' = w := by
  have hc : n < 0 ∨ (0 ≤ n ∧ n < 55296) ∨ (55296 ≤ n ∧ n ≤ 57343) ∨ (57343 < n ∧ n ≤ 1114111) ∨ 1114111 < n := by omega
  rcases hc with h | ⟨h, h'⟩ | ⟨h, h'⟩ | ⟨h, h'⟩ | h
  all_goals
    go_enter Tryd.func84, Tryd.ntmps84
    go_wp2
    go_ret
    exact ⟨ret_bool (by rw [Bool.eq_iff_iff]; simp; omega), rfl⟩

end Go.Proofs.YthpkoecpmbpnbaaDoor.esc
