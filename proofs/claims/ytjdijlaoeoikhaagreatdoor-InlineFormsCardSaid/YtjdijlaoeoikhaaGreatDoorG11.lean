/- Several texts in one. -/
import Derived.Test.YtjdijlaoeoikhaaGreatDoorRows
import Derived.WalkKit
import Derived.WalkSpells
import Derived.WalkLawsBesides
set_option linter.unusedVariables false
/- The kinds of characters: what within, Space, Mark and Punct answer, for every number. -/
namespace Go.Proofs.YtjdijlaoeoikhaaGreatDoor.run
open Go.RowKit

def inB (r a b : Int) : Bool := decide (a ≤ r ∧ r ≤ b)
def spaceB (r : Int) : Bool := decide (r = 9 ∨ r = 10 ∨ r = 12 ∨ r = 13 ∨ r = 32 ∨ r = 160 ∨ r = 5760 ∨ r = 8239 ∨ r = 8287 ∨ r = 12288 ∨ (8192 ≤ r ∧ r ≤ 8202))
def markB (c : Int) : Bool := decide ((33 ≤ c ∧ c ≤ 47) ∨ (58 ≤ c ∧ c ≤ 64) ∨ (91 ≤ c ∧ c ≤ 96) ∨ (123 ≤ c ∧ c ≤ 126))

theorem ret_bool {a b : Bool} (h : a = b) : Ending.returned (.bool a) = .returned (.bool b) := by rw [h]

theorem within_any (r a b : Int) (w : World) :
    Calls Tryz.prog 96 #[.int .i32 r, .int .i32 a, .int .i32 b] w fun e w' => e = .returned (.bool (inB r a b)) ∧ w' = w := by
  by_cases h1 : a ≤ r
  all_goals
    go_enter Tryz.func96, Tryz.ntmps96
    go_wp2
    go_ret
    exact ⟨ret_bool (by rw [Bool.eq_iff_iff]; simp [inB]; omega), rfl⟩

theorem within_t (r a b : Int) (w : World) (h : a ≤ r ∧ r ≤ b) :
    Calls Tryz.prog 96 #[.int .i32 r, .int .i32 a, .int .i32 b] w fun e w' => e = .returned (.bool true) ∧ w' = w :=
  (within_any r a b w).mono fun e w' ⟨he, hw⟩ => ⟨he.trans (ret_bool (by simp [inB]; omega)), hw⟩

theorem within_f (r a b : Int) (w : World) (h : r < a ∨ b < r) :
    Calls Tryz.prog 96 #[.int .i32 r, .int .i32 a, .int .i32 b] w fun e w' => e = .returned (.bool false) ∧ w' = w :=
  (within_any r a b w).mono fun e w' ⟨he, hw⟩ => ⟨he.trans (ret_bool (by simp [inB]; omega)), hw⟩

theorem space_any (r : Int) (w : World) :
    Calls Tryz.prog 95 #[.int .i32 r] w fun e w' => e = .returned (.bool (spaceB r)) ∧ w' = w := by
  by_cases h : 8192 ≤ r ∧ r ≤ 8202
  · go_enter Tryz.func95, Tryz.ntmps95
    go_wp2_with (go_at_call 96; refine (within_t _ _ _ _ h).mono ?_; rintro e w' ⟨rfl, rfl⟩)
    all_goals
      go_ret
      exact ⟨ret_bool (by unfold spaceB; symm; rw [decide_eq_true_iff]; simp_all), rfl⟩
  · have h' : r < 8192 ∨ 8202 < r := by omega
    go_enter Tryz.func95, Tryz.ntmps95
    go_wp2_with (go_at_call 96; refine (within_f _ _ _ _ h').mono ?_; rintro e w' ⟨rfl, rfl⟩)
    all_goals
      go_ret
      first
        | exact ⟨ret_bool (by unfold spaceB; symm; rw [decide_eq_true_iff]; simp_all), rfl⟩
        | exact ⟨ret_bool (by unfold spaceB; symm; rw [decide_eq_false_iff_not]; simp_all), rfl⟩

theorem mark_any (c : Int) (w : World) :
    Calls Tryz.prog 30 #[.int .u8 c] w fun e w' => e = .returned (.bool (markB c)) ∧ w' = w := by
  have hc : c < 33 ∨ (33 ≤ c ∧ c ≤ 47) ∨ (47 < c ∧ c < 58) ∨ (58 ≤ c ∧ c ≤ 64) ∨ (64 < c ∧ c < 91) ∨ (91 ≤ c ∧ c ≤ 96) ∨ (96 < c ∧ c < 123) ∨ (123 ≤ c ∧ c ≤ 126) ∨ 126 < c := by omega
  rcases hc with h | ⟨h, h'⟩ | ⟨h, h'⟩ | ⟨h, h'⟩ | ⟨h, h'⟩ | ⟨h, h'⟩ | ⟨h, h'⟩ | ⟨h, h'⟩ | h
  all_goals
    go_enter Tryz.func30, Tryz.ntmps30
    go_wp2
    go_ret
    exact ⟨ret_bool (by unfold markB; rw [Bool.eq_iff_iff]; simp; omega), rfl⟩

end Go.Proofs.YtjdijlaoeoikhaaGreatDoor.run

/- What Punct answers, for every number. -/
namespace Go.Proofs.YtjdijlaoeoikhaaGreatDoor.run
open Go.RowKit

def punctB (r : Int) : Bool := markB r || decide ((161 ≤ r ∧ r ≤ 169) ∨ (171 ≤ r ∧ r ≤ 177) ∨ (182 ≤ r ∧ r ≤ 184) ∨ (8208 ≤ r ∧ r ≤ 8231) ∨ (8240 ≤ r ∧ r ≤ 8286) ∨ (8352 ≤ r ∧ r ≤ 8384) ∨ (8592 ≤ r ∧ r ≤ 8703) ∨ (12289 ≤ r ∧ r ≤ 12291) ∨ (12296 ≤ r ∧ r ≤ 12305) ∨ r = 180 ∨ r = 187 ∨ r = 191 ∨ r = 215 ∨ r = 247)

theorem punct_low (r : Int) (w : World) (h : 0 ≤ r) (h' : r ≤ 127) :
    Calls Tryz.prog 60 #[.int .i32 r] w fun e w' => e = .returned (.bool (markB r)) ∧ w' = w := by
  have e0 : inB r 0 127 = true := by simp [inB]; omega
  go_enter Tryz.func60, Tryz.ntmps60
  go_wp2_with (first | (go_at_call 96; refine (within_any _ _ _ _).mono ?_; rintro e w' ⟨rfl, rfl⟩) | (go_at_call 30; refine (mark_any _ _).mono ?_; rintro e w' ⟨rfl, rfl⟩))
  go_ret
  exact ⟨rfl, rfl⟩

theorem punct_high (r : Int) (w : World) (h0 : r < 0 ∨ 127 < r) :
    Calls Tryz.prog 60 #[.int .i32 r] w fun e w' => e = .returned (.bool (punctB r)) ∧ w' = w := by
  have hm : markB r = false := by simp [markB]; omega
  have e0 : inB r 0 127 = false := by simp [inB]; omega
  have hp : punctB r = (inB r 161 169 || inB r 171 177 || inB r 182 184 || inB r 8208 8231 || inB r 8240 8286 || inB r 8352 8384 || inB r 8592 8703 || inB r 12289 12291 || inB r 12296 12305 || (r == 180) || (r == 187) || (r == 191) || (r == 215) || (r == 247)) := by
    rw [Bool.eq_iff_iff]; simp [punctB, hm, inB]; omega
  clear hm h0
  rw [hp]; clear hp
  go_enter Tryz.func60, Tryz.ntmps60
  go_wp2_with (go_at_call 96; refine (within_any _ _ _ _).mono ?_; rintro e w' ⟨rfl, rfl⟩)
  all_goals
    go_ret
    exact ⟨ret_bool (by first | (simp_all; done) | (rw [Bool.eq_iff_iff]; simp_all)), rfl⟩

theorem punct_any (r : Int) (w : World) :
    Calls Tryz.prog 60 #[.int .i32 r] w fun e w' => e = .returned (.bool (punctB r)) ∧ w' = w := by
  by_cases h : 0 ≤ r ∧ r ≤ 127
  · refine (punct_low r w h.1 h.2).mono fun e w' ⟨he, hw⟩ => ⟨he.trans (ret_bool ?_), hw⟩
    rw [Bool.eq_iff_iff]; simp [punctB]; omega
  · exact punct_high r w (by omega)

end Go.Proofs.YtjdijlaoeoikhaaGreatDoor.run
