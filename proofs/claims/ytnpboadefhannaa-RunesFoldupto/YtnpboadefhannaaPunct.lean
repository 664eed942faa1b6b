/- What Punct answers, for every number. -/
import Derived.Test.YtnpboadefhannaaKinds
set_option linter.unusedVariables false
namespace Go.Proofs.Ytnpboadefhannaa
open Go.RowKit

def punctB (r : Int) : Bool := markB r || decide ((161 ≤ r ∧ r ≤ 169) ∨ (171 ≤ r ∧ r ≤ 177) ∨ (182 ≤ r ∧ r ≤ 184) ∨ (8208 ≤ r ∧ r ≤ 8231) ∨ (8240 ≤ r ∧ r ≤ 8286) ∨ (8352 ≤ r ∧ r ≤ 8384) ∨ (8592 ≤ r ∧ r ≤ 8703) ∨ (12289 ≤ r ∧ r ≤ 12291) ∨ (12296 ≤ r ∧ r ≤ 12305) ∨ r = 180 ∨ r = 187 ∨ r = 191 ∨ r = 215 ∨ r = 247)

theorem punct_low (r : Int) (w : World) (h : 0 ≤ r) (h' : r ≤ 127) :
    Calls Try.prog 18 #[.int .i32 r] w fun e w' => e = .returned (.bool (markB r)) ∧ w' = w := by
  have e0 : inB r 0 127 = true := by simp [inB]; omega
  go_enter Try.func18, Try.ntmps18
  go_wp2_with (first | (go_at_call 28; refine (within_any _ _ _ _).mono ?_; rintro e w' ⟨rfl, rfl⟩) | (go_at_call 20; refine (mark_any _ _).mono ?_; rintro e w' ⟨rfl, rfl⟩))
  go_ret
  exact ⟨rfl, rfl⟩

theorem punct_high (r : Int) (w : World) (h0 : r < 0 ∨ 127 < r) :
    Calls Try.prog 18 #[.int .i32 r] w fun e w' => e = .returned (.bool (punctB r)) ∧ w' = w := by
  have hm : markB r = false := by simp [markB]; omega
  have e0 : inB r 0 127 = false := by simp [inB]; omega
  have hp : punctB r = (inB r 161 169 || inB r 171 177 || inB r 182 184 || inB r 8208 8231 || inB r 8240 8286 || inB r 8352 8384 || inB r 8592 8703 || inB r 12289 12291 || inB r 12296 12305 || (r == 180) || (r == 187) || (r == 191) || (r == 215) || (r == 247)) := by
    rw [Bool.eq_iff_iff]; simp [punctB, hm, inB]; omega
  clear hm h0
  rw [hp]; clear hp
  go_enter Try.func18, Try.ntmps18
  go_wp2_with (go_at_call 28; refine (within_any _ _ _ _).mono ?_; rintro e w' ⟨rfl, rfl⟩)
  all_goals
    go_ret
    exact ⟨ret_bool (by first | (simp_all; done) | (rw [Bool.eq_iff_iff]; simp_all)), rfl⟩

theorem punct_any (r : Int) (w : World) :
    Calls Try.prog 18 #[.int .i32 r] w fun e w' => e = .returned (.bool (punctB r)) ∧ w' = w := by
  by_cases h : 0 ≤ r ∧ r ≤ 127
  · refine (punct_low r w h.1 h.2).mono fun e w' ⟨he, hw⟩ => ⟨he.trans (ret_bool ?_), hw⟩
    rw [Bool.eq_iff_iff]; simp [punctB]; omega
  · exact punct_high r w (by omega)

end Go.Proofs.Ytnpboadefhannaa
