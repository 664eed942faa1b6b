/- What escape's names stand for. -/
import Derived.Test.YthpkoecpmbpnbaaDoorQENum
set_option linter.unusedVariables false
namespace Go.Proofs.YthpkoecpmbpnbaaDoor.esc
open Go.RowKit

set_option maxHeartbeats 4000000 in
set_option maxRecDepth 100000 in
theorem namedPair_any (s : ByteArray) (w : World) :
    Calls Tryd.prog 83 #[.string s] w fun e w' => e = .returned (.string ⟨((tPair.lookup s.toList).getD []).toArray⟩) ∧ w' = w := by
  go_enter Tryd.func83, Tryd.ntmps83
  go_wp2
  all_goals
    go_ret
    refine ⟨ret_str ?_, rfl⟩
    simp only [tPair, List.lookup_cons, List.lookup_nil, Option.getD, *]

set_option maxHeartbeats 4000000 in
set_option maxRecDepth 100000 in
theorem namedSign_any (s : ByteArray) (w : World) :
    Calls Tryd.prog 80 #[.string s] w fun e w' => e = .returned (.string ⟨((tSign.lookup s.toList).getD []).toArray⟩) ∧ w' = w := by
  go_enter Tryd.func80, Tryd.ntmps80
  go_wp2
  all_goals
    go_ret
    refine ⟨ret_str ?_, rfl⟩
    simp only [tSign, List.lookup_cons, List.lookup_nil, Option.getD, *]

set_option maxHeartbeats 4000000 in
set_option maxRecDepth 100000 in
theorem namedLetter_any (s : ByteArray) (w : World) :
    Calls Tryd.prog 81 #[.string s] w fun e w' => e = .returned (.string ⟨((tLetter.lookup s.toList).getD []).toArray⟩) ∧ w' = w := by
  go_enter Tryd.func81, Tryd.ntmps81
  go_wp2
  all_goals
    go_ret
    refine ⟨ret_str ?_, rfl⟩
    simp only [tLetter, List.lookup_cons, List.lookup_nil, Option.getD, *]

set_option maxHeartbeats 4000000 in
set_option maxRecDepth 100000 in
theorem namedFar_any (s : ByteArray) (w : World) :
    Calls Tryd.prog 82 #[.string s] w fun e w' => e = .returned (.string ⟨((tFar.lookup s.toList).getD []).toArray⟩) ∧ w' = w := by
  go_enter Tryd.func82, Tryd.ntmps82
  go_wp2
  all_goals
    go_ret
    refine ⟨ret_str ?_, rfl⟩
    simp only [tFar, List.lookup_cons, List.lookup_nil, Option.getD, *]

theorem empty_mk (p : List UInt8) : (ByteArray.mk p.toArray).toList.isEmpty = p.isEmpty := by
  rw [ByteArray.toList_eq]

set_option maxHeartbeats 1000000 in
set_option maxRecDepth 100000 in
theorem named_any (s : ByteArray) (w : World) :
    Calls Tryd.prog 71 #[.string s] w fun e w' => e = .returned (.string ⟨(nameT s.toList).toArray⟩) ∧ w' = w := by
  have c1 := namedSign_any s
  have c2 := namedLetter_any s
  have c3 := namedFar_any s
  have c4 := namedPair_any s
  rw [nameT_parts]
  have e1 := empty_mk ((tSign.lookup s.toList).getD [])
  have e2 := empty_mk ((tLetter.lookup s.toList).getD [])
  have e3 := empty_mk ((tFar.lookup s.toList).getD [])
  generalize (tSign.lookup s.toList).getD [] = p1 at *
  generalize (tLetter.lookup s.toList).getD [] = p2 at *
  generalize (tFar.lookup s.toList).getD [] = p3 at *
  generalize (tPair.lookup s.toList).getD [] = p4 at *
  by_cases h1 : p1 = []
  · subst h1
    by_cases h2 : p2 = []
    · subst h2
      by_cases h3 : p3 = []
      · subst h3
        simp only [ne_eq, not_true_eq_false, if_false]
        clear e1 e2 e3
        go_enter Tryd.func71, Tryd.ntmps71
        go_wp2_with (first | (go_at_call 80; refine (c1 _).mono ?_; rintro e w' ⟨rfl, rfl⟩) | (go_at_call 81; refine (c2 _).mono ?_; rintro e w' ⟨rfl, rfl⟩) | (go_at_call 82; refine (c3 _).mono ?_; rintro e w' ⟨rfl, rfl⟩) | (go_at_call 83; refine (c4 _).mono ?_; rintro e w' ⟨rfl, rfl⟩))
        go_ret
        exact ⟨rfl, rfl⟩
      · have f3 : p3.isEmpty = false := by simpa using h3
        rw [f3] at e3
        simp only [ne_eq, not_true_eq_false, if_false, if_pos (show ¬ p3 = [] from h3)]
        clear e1 e2
        go_enter Tryd.func71, Tryd.ntmps71
        go_wp2_with (first | (go_at_call 80; refine (c1 _).mono ?_; rintro e w' ⟨rfl, rfl⟩) | (go_at_call 81; refine (c2 _).mono ?_; rintro e w' ⟨rfl, rfl⟩) | (go_at_call 82; refine (c3 _).mono ?_; rintro e w' ⟨rfl, rfl⟩))
        go_ret
        exact ⟨rfl, rfl⟩
    · have f2 : p2.isEmpty = false := by simpa using h2
      rw [f2] at e2
      simp only [ne_eq, not_true_eq_false, if_false, if_pos (show ¬ p2 = [] from h2)]
      clear e1 e3
      go_enter Tryd.func71, Tryd.ntmps71
      go_wp2_with (first | (go_at_call 80; refine (c1 _).mono ?_; rintro e w' ⟨rfl, rfl⟩) | (go_at_call 81; refine (c2 _).mono ?_; rintro e w' ⟨rfl, rfl⟩))
      go_ret
      exact ⟨rfl, rfl⟩
  · have f1 : p1.isEmpty = false := by simpa using h1
    rw [f1] at e1
    simp only [ne_eq, if_pos (show ¬ p1 = [] from h1)]
    clear e2 e3
    go_enter Tryd.func71, Tryd.ntmps71
    go_wp2_with (first | (go_at_call 80; refine (c1 _).mono ?_; rintro e w' ⟨rfl, rfl⟩))
    go_ret
    exact ⟨rfl, rfl⟩

end Go.Proofs.YthpkoecpmbpnbaaDoor.esc
