/- The kinds of characters: what within, Space, Mark and Punct answer, for every number. -/
import Derived.Test.YtcbojffcnlkejaaGreatDoorRows
import Derived.WalkKit
import Derived.WalkSpells
import Derived.WalkLawsBesides
set_option linter.unusedVariables false
namespace Go.Proofs.YtcbojffcnlkejaaGreatDoor.run
open Go.RowKit

def inB (r a b : Int) : Bool := decide (a ≤ r ∧ r ≤ b)
def spaceB (r : Int) : Bool := decide (r = 9 ∨ r = 10 ∨ r = 12 ∨ r = 13 ∨ r = 32 ∨ r = 160 ∨ r = 5760 ∨ r = 8239 ∨ r = 8287 ∨ r = 12288 ∨ (8192 ≤ r ∧ r ≤ 8202))
def markB (c : Int) : Bool := decide ((33 ≤ c ∧ c ≤ 47) ∨ (58 ≤ c ∧ c ≤ 64) ∨ (91 ≤ c ∧ c ≤ 96) ∨ (123 ≤ c ∧ c ≤ 126))

theorem ret_bool {a b : Bool} (h : a = b) : Ending.returned (.bool a) = .returned (.bool b) := by rw [h]

theorem within_any (r a b : Int) (w : World) :
    Calls Tryz.prog 179 #[.int .i32 r, .int .i32 a, .int .i32 b] w fun e w' => e = .returned (.bool (inB r a b)) ∧ w' = w := by
  by_cases h1 : a ≤ r
  all_goals
    go_enter Tryz.func179, Tryz.ntmps179
    go_wp2
    go_ret
    exact ⟨ret_bool (by rw [Bool.eq_iff_iff]; simp [inB]; omega), rfl⟩

theorem within_t (r a b : Int) (w : World) (h : a ≤ r ∧ r ≤ b) :
    Calls Tryz.prog 179 #[.int .i32 r, .int .i32 a, .int .i32 b] w fun e w' => e = .returned (.bool true) ∧ w' = w :=
  (within_any r a b w).mono fun e w' ⟨he, hw⟩ => ⟨he.trans (ret_bool (by simp [inB]; omega)), hw⟩

theorem within_f (r a b : Int) (w : World) (h : r < a ∨ b < r) :
    Calls Tryz.prog 179 #[.int .i32 r, .int .i32 a, .int .i32 b] w fun e w' => e = .returned (.bool false) ∧ w' = w :=
  (within_any r a b w).mono fun e w' ⟨he, hw⟩ => ⟨he.trans (ret_bool (by simp [inB]; omega)), hw⟩

theorem space_any (r : Int) (w : World) :
    Calls Tryz.prog 150 #[.int .i32 r] w fun e w' => e = .returned (.bool (spaceB r)) ∧ w' = w := by
  by_cases h : 8192 ≤ r ∧ r ≤ 8202
  · go_enter Tryz.func150, Tryz.ntmps150
    go_wp2_with (go_at_call 179; refine (within_t _ _ _ _ h).mono ?_; rintro e w' ⟨rfl, rfl⟩)
    all_goals
      go_ret
      exact ⟨ret_bool (by unfold spaceB; symm; rw [decide_eq_true_iff]; simp_all), rfl⟩
  · have h' : r < 8192 ∨ 8202 < r := by omega
    go_enter Tryz.func150, Tryz.ntmps150
    go_wp2_with (go_at_call 179; refine (within_f _ _ _ _ h').mono ?_; rintro e w' ⟨rfl, rfl⟩)
    all_goals
      go_ret
      first
        | exact ⟨ret_bool (by unfold spaceB; symm; rw [decide_eq_true_iff]; simp_all), rfl⟩
        | exact ⟨ret_bool (by unfold spaceB; symm; rw [decide_eq_false_iff_not]; simp_all), rfl⟩

theorem mark_any (c : Int) (w : World) :
    Calls Tryz.prog 100 #[.int .u8 c] w fun e w' => e = .returned (.bool (markB c)) ∧ w' = w := by
  have hc : c < 33 ∨ (33 ≤ c ∧ c ≤ 47) ∨ (47 < c ∧ c < 58) ∨ (58 ≤ c ∧ c ≤ 64) ∨ (64 < c ∧ c < 91) ∨ (91 ≤ c ∧ c ≤ 96) ∨ (96 < c ∧ c < 123) ∨ (123 ≤ c ∧ c ≤ 126) ∨ 126 < c := by omega
  rcases hc with h | ⟨h, h'⟩ | ⟨h, h'⟩ | ⟨h, h'⟩ | ⟨h, h'⟩ | ⟨h, h'⟩ | ⟨h, h'⟩ | ⟨h, h'⟩ | h
  all_goals
    go_enter Tryz.func100, Tryz.ntmps100
    go_wp2
    go_ret
    exact ⟨ret_bool (by unfold markB; rw [Bool.eq_iff_iff]; simp; omega), rfl⟩

end Go.Proofs.YtcbojffcnlkejaaGreatDoor.run
