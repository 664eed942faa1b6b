/- Bytes and characters in package escape: letter, digit, digitValue, Mark, IndexByte, ValidRune, character. -/
import Derived.Test.YtnjfkgkcapkfbaaGreatDoorBase
import Derived.Test.YtnjfkgkcapkfbaaGreatDoorPlainEsc
import Derived.Lib.Bytealg
set_option linter.unusedVariables false
namespace Go.Proofs.YtnjfkgkcapkfbaaGreatDoor.esc
open Go.RowKit

set_option maxHeartbeats 1000000 in
theorem mark_any (c : Nat) (w : World) :
    Calls Tryz.prog 49 #[.int .u8 (c : Int)] w fun e w' => e = .returned (.bool (markN c)) ∧ w' = w := by
  have hc : c < 33 ∨ (33 ≤ c ∧ c ≤ 47) ∨ (47 < c ∧ c < 58) ∨ (58 ≤ c ∧ c ≤ 64) ∨ (64 < c ∧ c < 91) ∨ (91 ≤ c ∧ c ≤ 96) ∨ (96 < c ∧ c < 123) ∨ (123 ≤ c ∧ c ≤ 126) ∨ 126 < c := by omega
  rcases hc with h | ⟨h, h'⟩ | ⟨h, h'⟩ | ⟨h, h'⟩ | ⟨h, h'⟩ | ⟨h, h'⟩ | ⟨h, h'⟩ | ⟨h, h'⟩ | h
  all_goals
    go_enter Tryz.func49, Tryz.ntmps49
    go_wp2
    go_ret
    exact ⟨ret_bool (by unfold markN; rw [Bool.eq_iff_iff]; simp; omega), rfl⟩

theorem letter_any (c : Nat) (w : World) :
    Calls Tryz.prog 77 #[.int .u8 (c : Int)] w fun e w' => e = .returned (.bool (letterN c)) ∧ w' = w := by
  have hc : c < 65 ∨ (65 ≤ c ∧ c ≤ 90) ∨ (90 < c ∧ c < 97) ∨ (97 ≤ c ∧ c ≤ 122) ∨ 122 < c := by omega
  rcases hc with h | ⟨h, h'⟩ | ⟨h, h'⟩ | ⟨h, h'⟩ | h
  all_goals
    go_enter Tryz.func77, Tryz.ntmps77
    go_wp2
    go_ret
    exact ⟨ret_bool (by unfold letterN; rw [Bool.eq_iff_iff]; simp; omega), rfl⟩

theorem digit_any (c : Nat) (w : World) :
    Calls Tryz.prog 78 #[.int .u8 (c : Int)] w fun e w' => e = .returned (.bool (digitN c)) ∧ w' = w := by
  have hc : c < 48 ∨ (48 ≤ c ∧ c ≤ 57) ∨ 57 < c := by omega
  rcases hc with h | ⟨h, h'⟩ | h
  all_goals
    go_enter Tryz.func78, Tryz.ntmps78
    go_wp2
    go_ret
    exact ⟨ret_bool (by unfold digitN; rw [Bool.eq_iff_iff]; simp; omega), rfl⟩

def digVN (c : Nat) : Nat :=
  if 48 ≤ c ∧ c ≤ 57 then c - 48 else if 97 ≤ c ∧ c ≤ 102 then c - 87 else if 65 ≤ c ∧ c ≤ 70 then c - 55 else 16

theorem digitValue_any (c : Nat) (hc : c ≤ 255) (w : World) :
    Calls Tryz.prog 80 #[.int .u8 (c : Int)] w fun e w' => e = .returned (.int .i32 (digVN c)) ∧ w' = w := by
  have hcc : c < 48 ∨ (48 ≤ c ∧ c ≤ 57) ∨ (57 < c ∧ c < 65) ∨ (65 ≤ c ∧ c ≤ 70) ∨ (70 < c ∧ c < 97) ∨ (97 ≤ c ∧ c ≤ 102) ∨ 102 < c := by omega
  rcases hcc with h | ⟨h, h'⟩ | ⟨h, h'⟩ | ⟨h, h'⟩ | ⟨h, h'⟩ | ⟨h, h'⟩ | h
  all_goals
    have hd : digitN c = decide (48 ≤ c ∧ c ≤ 57) := rfl
    first | rw [decide_eq_true (by omega)] at hd | rw [decide_eq_false (by omega)] at hd
    go_enter Tryz.func80, Tryz.ntmps80
    go_wp2_with (go_at_call 78; refine (digit_any _ _).mono ?_; rintro e w' ⟨rfl, rfl⟩)
    go_ret
    exact ⟨ret_int (by unfold digVN; split; · omega
                       split; · omega
                       split <;> omega), rfl⟩

/-- The entry for which the model stands in. -/
theorem index_entry (s : ByteArray) (c : Int) (w : World) : (callFunc 57 #[.string s, .int .u8 c]).run Tryz.prog w = .ok (.value (.int .i64 (Lib.indexByte s.data.toList c.toNat.toUInt8))) w := by
  rw [run_callFunc_extern (e := Extern.BytealgIndexByte.indexByte) Tryz.func57 (by kernel_rfl) (by kernel_rfl) (by kernel_rfl) (by kernel_rfl), Lib.run_indexByteString]
  rfl

theorem stringslite_any (s : ByteArray) (c : Int) (w : World) :
    Calls Tryz.prog 36 #[.string s, .int .u8 c] w fun e w' => e = .returned (.int .i64 (Lib.indexByte s.data.toList c.toNat.toUInt8)) ∧ w' = w := by
  have hx := index_entry s c
  go_enter Tryz.func36, Tryz.ntmps36
  go_wp2
  go_ret
  exact ⟨rfl, rfl⟩

theorem indexByte_any (s : ByteArray) (c : Int) (w : World) :
    Calls Tryz.prog 19 #[.string s, .int .u8 c] w fun e w' => e = .returned (.int .i64 (Lib.indexByte s.data.toList c.toNat.toUInt8)) ∧ w' = w := by
  go_enter Tryz.func19, Tryz.ntmps19
  go_wp2_with (go_at_call 36; refine (stringslite_any _ _ _).mono ?_; rintro e w' ⟨rfl, rfl⟩)
  go_ret
  exact ⟨rfl, rfl⟩

theorem validRune_any (n : Int) (w : World) :
    Calls Tryz.prog 93 #[.int .i32 n] w fun e w' => e = .returned (.bool (decide ((0 ≤ n ∧ n < 55296) ∨ (57343 < n ∧ n ≤ 1114111)))) ∧ w' = w := by
  have hc : n < 0 ∨ (0 ≤ n ∧ n < 55296) ∨ (55296 ≤ n ∧ n ≤ 57343) ∨ (57343 < n ∧ n ≤ 1114111) ∨ 1114111 < n := by omega
  rcases hc with h | ⟨h, h'⟩ | ⟨h, h'⟩ | ⟨h, h'⟩ | h
  all_goals
    go_enter Tryz.func93, Tryz.ntmps93
    go_wp2
    go_ret
    exact ⟨ret_bool (by rw [Bool.eq_iff_iff]; simp; omega), rfl⟩

end Go.Proofs.YtnjfkgkcapkfbaaGreatDoor.esc
