/- The document's answer for the kinds of characters: what the reference's Mark, Space, in and Punct answer, for every number. -/
import Derived.Test.YthpkoecpmbpnbaaDoorQFKinds
set_option linter.unusedVariables false
namespace Go.Proofs.YthpkoecpmbpnbaaDoor.run
open Go.RowKit

theorem refin_any (r a b : Int) (w : World) :
    Calls Tryd.prog 53 #[.int .i64 r, .int .i64 a, .int .i64 b] w fun e w' => e = .returned (.bool (inB r a b)) ∧ w = w' := by
  by_cases h1 : a ≤ r
  all_goals
    go_enter Tryd.func53, Tryd.ntmps53
    go_wp2
    go_ret
    exact ⟨ret_bool (by rw [Bool.eq_iff_iff]; simp [inB]; omega), rfl⟩

theorem refspace_any (r : Int) (w : World) :
    Calls Tryd.prog 38 #[.int .i64 r] w fun e w' => e = .returned (.bool (spaceB r)) ∧ w = w' := by
  have hc : (8192 ≤ r ∧ r ≤ 8202) ∨ r < 8192 ∨ 8202 < r := by omega
  rcases hc with ⟨h, h'⟩ | h | h
  all_goals
    go_enter Tryd.func38, Tryd.ntmps38
    go_wp2
    all_goals
      go_ret
      exact ⟨ret_bool (by rw [Bool.eq_iff_iff]; simp only [spaceB, decide_eq_true_eq]; first | omega | (simp; omega) | (simp_all; done) | (simp_all; omega)), rfl⟩

theorem refmark_any (c : Int) (w : World) :
    Calls Tryd.prog 44 #[.int .i64 c] w fun e w' => e = .returned (.bool (markB c)) ∧ w = w' := by
  have hc : c < 33 ∨ (33 ≤ c ∧ c ≤ 47) ∨ (47 < c ∧ c < 58) ∨ (58 ≤ c ∧ c ≤ 64) ∨ (64 < c ∧ c < 91) ∨ (91 ≤ c ∧ c ≤ 96) ∨ (96 < c ∧ c < 123) ∨ (123 ≤ c ∧ c ≤ 126) ∨ 126 < c := by omega
  rcases hc with h | ⟨h, h'⟩ | ⟨h, h'⟩ | ⟨h, h'⟩ | ⟨h, h'⟩ | ⟨h, h'⟩ | ⟨h, h'⟩ | ⟨h, h'⟩ | h
  all_goals
    go_enter Tryd.func44, Tryd.ntmps44
    go_wp2
    go_ret
    exact ⟨ret_bool (by unfold markB; rw [Bool.eq_iff_iff]; simp; omega), rfl⟩

end Go.Proofs.YthpkoecpmbpnbaaDoor.run
