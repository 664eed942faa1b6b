/- The document's small: a letter as a small one. -/
import Derived.Test.YthpkoecpmbpnbaaDoorQFRefKinds
import Derived.Test.YthpkoecpmbpnbaaDoorQFRefPut
set_option linter.unusedVariables false
namespace Go.Proofs.YthpkoecpmbpnbaaDoor.run
open Go.RowKit

set_option maxHeartbeats 1000000 in
set_option maxRecDepth 100000 in
theorem rsmall_a (r : Int) (h0 : 65 ≤ r) (h1 : r ≤ 90) (w : World) :
    Calls Tryd.prog 39 #[.int .i64 r] w fun e w' => e = .returned (.string ⟨(enc (r + 32).toNat).toArray⟩) ∧ Below w.heap.size w w' := by
  have q1 : (r == 223) = false := by simp; omega
  have q2 : (r == 7838) = false := by simp; omega
  have e0 : inB r 65 90 = true := by simp [inB]; omega
  have e1 : inB r 192 222 = false := by simp [inB]; omega
  have e2 : inB r 913 937 = false := by simp [inB]; omega
  have e3 : inB r 1040 1071 = false := by simp [inB]; omega
  have e4 : inB r 1024 1039 = false := by simp [inB]; omega
  go_enter Tryd.func39, Tryd.ntmps39
  go_wp2_with (first | (go_at_call 53; refine (refin_any _ _ _ _).mono ?_; rintro e w' ⟨rfl, rfl⟩) | (go_at_call 54; refine (put_int (r + 32) (by omega) (by omega) _).mono ?_))
  first | rintro e w1 rfl g1 | rintro e w1 ⟨rfl, g1⟩
  go_wp2
  go_ret
  exact ⟨rfl, g1⟩

set_option maxHeartbeats 1000000 in
set_option maxRecDepth 100000 in
theorem rsmall_b (r : Int) (h0 : 192 ≤ r) (h1 : r ≤ 222) (h2 : r ≠ 215) (w : World) :
    Calls Tryd.prog 39 #[.int .i64 r] w fun e w' => e = .returned (.string ⟨(enc (r + 32).toNat).toArray⟩) ∧ Below w.heap.size w w' := by
  have q1 : (r == 223) = false := by simp; omega
  have q2 : (r == 7838) = false := by simp; omega
  have q3 : (r != 215) = true := by simp; omega
  have e0 : inB r 65 90 = false := by simp [inB]; omega
  have e1 : inB r 192 222 = true := by simp [inB]; omega
  have e2 : inB r 913 937 = false := by simp [inB]; omega
  have e3 : inB r 1040 1071 = false := by simp [inB]; omega
  have e4 : inB r 1024 1039 = false := by simp [inB]; omega
  go_enter Tryd.func39, Tryd.ntmps39
  go_wp2_with (first | (go_at_call 53; refine (refin_any _ _ _ _).mono ?_; rintro e w' ⟨rfl, rfl⟩) | (go_at_call 54; refine (put_int (r + 32) (by omega) (by omega) _).mono ?_))
  first | rintro e w1 rfl g1 | rintro e w1 ⟨rfl, g1⟩
  go_wp2
  go_ret
  exact ⟨rfl, g1⟩

set_option maxHeartbeats 1000000 in
set_option maxRecDepth 100000 in
theorem rsmall_c (r : Int) (h0 : 913 ≤ r) (h1 : r ≤ 937) (w : World) :
    Calls Tryd.prog 39 #[.int .i64 r] w fun e w' => e = .returned (.string ⟨(enc (r + 32).toNat).toArray⟩) ∧ Below w.heap.size w w' := by
  have q1 : (r == 223) = false := by simp; omega
  have q2 : (r == 7838) = false := by simp; omega
  have e0 : inB r 65 90 = false := by simp [inB]; omega
  have e1 : inB r 192 222 = false := by simp [inB]; omega
  have e2 : inB r 913 937 = true := by simp [inB]; omega
  have e3 : inB r 1040 1071 = false := by simp [inB]; omega
  have e4 : inB r 1024 1039 = false := by simp [inB]; omega
  go_enter Tryd.func39, Tryd.ntmps39
  go_wp2_with (first | (go_at_call 53; refine (refin_any _ _ _ _).mono ?_; rintro e w' ⟨rfl, rfl⟩) | (go_at_call 54; refine (put_int (r + 32) (by omega) (by omega) _).mono ?_))
  first | rintro e w1 rfl g1 | rintro e w1 ⟨rfl, g1⟩
  go_wp2
  go_ret
  exact ⟨rfl, g1⟩

set_option maxHeartbeats 1000000 in
set_option maxRecDepth 100000 in
theorem rsmall_d (r : Int) (h0 : 1040 ≤ r) (h1 : r ≤ 1071) (w : World) :
    Calls Tryd.prog 39 #[.int .i64 r] w fun e w' => e = .returned (.string ⟨(enc (r + 32).toNat).toArray⟩) ∧ Below w.heap.size w w' := by
  have q1 : (r == 223) = false := by simp; omega
  have q2 : (r == 7838) = false := by simp; omega
  have e0 : inB r 65 90 = false := by simp [inB]; omega
  have e1 : inB r 192 222 = false := by simp [inB]; omega
  have e2 : inB r 913 937 = false := by simp [inB]; omega
  have e3 : inB r 1040 1071 = true := by simp [inB]; omega
  have e4 : inB r 1024 1039 = false := by simp [inB]; omega
  go_enter Tryd.func39, Tryd.ntmps39
  go_wp2_with (first | (go_at_call 53; refine (refin_any _ _ _ _).mono ?_; rintro e w' ⟨rfl, rfl⟩) | (go_at_call 54; refine (put_int (r + 32) (by omega) (by omega) _).mono ?_))
  first | rintro e w1 rfl g1 | rintro e w1 ⟨rfl, g1⟩
  go_wp2
  go_ret
  exact ⟨rfl, g1⟩

set_option maxHeartbeats 1000000 in
set_option maxRecDepth 100000 in
theorem rsmall_e (r : Int) (h0 : 1024 ≤ r) (h1 : r ≤ 1039) (w : World) :
    Calls Tryd.prog 39 #[.int .i64 r] w fun e w' => e = .returned (.string ⟨(enc (r + 80).toNat).toArray⟩) ∧ Below w.heap.size w w' := by
  have q1 : (r == 223) = false := by simp; omega
  have q2 : (r == 7838) = false := by simp; omega
  have e0 : inB r 65 90 = false := by simp [inB]; omega
  have e1 : inB r 192 222 = false := by simp [inB]; omega
  have e2 : inB r 913 937 = false := by simp [inB]; omega
  have e3 : inB r 1040 1071 = false := by simp [inB]; omega
  have e4 : inB r 1024 1039 = true := by simp [inB]; omega
  go_enter Tryd.func39, Tryd.ntmps39
  go_wp2_with (first | (go_at_call 53; refine (refin_any _ _ _ _).mono ?_; rintro e w' ⟨rfl, rfl⟩) | (go_at_call 54; refine (put_int (r + 80) (by omega) (by omega) _).mono ?_))
  first | rintro e w1 rfl g1 | rintro e w1 ⟨rfl, g1⟩
  go_wp2
  go_ret
  exact ⟨rfl, g1⟩

set_option maxHeartbeats 1000000 in
set_option maxRecDepth 100000 in
theorem rsmall_f (r : Int) (h0 : 215 ≤ r) (h1 : r ≤ 215) (w : World) :
    Calls Tryd.prog 39 #[.int .i64 r] w fun e w' => e = .returned (.string ⟨(enc (r).toNat).toArray⟩) ∧ Below w.heap.size w w' := by
  have q1 : (r == 223) = false := by simp; omega
  have q2 : (r == 7838) = false := by simp; omega
  have q3 : (r != 215) = false := by simp; omega
  have e0 : inB r 65 90 = false := by simp [inB]; omega
  have e1 : inB r 192 222 = true := by simp [inB]; omega
  have e2 : inB r 913 937 = false := by simp [inB]; omega
  have e3 : inB r 1040 1071 = false := by simp [inB]; omega
  have e4 : inB r 1024 1039 = false := by simp [inB]; omega
  go_enter Tryd.func39, Tryd.ntmps39
  go_wp2_with (first | (go_at_call 53; refine (refin_any _ _ _ _).mono ?_; rintro e w' ⟨rfl, rfl⟩) | (go_at_call 54; refine (put_int (r) (by omega) (by omega) _).mono ?_))
  first | rintro e w1 rfl g1 | rintro e w1 ⟨rfl, g1⟩
  go_wp2
  go_ret
  exact ⟨rfl, g1⟩

set_option maxHeartbeats 1000000 in
set_option maxRecDepth 100000 in
theorem rsmall_g (r : Int) (h0 : 0 ≤ r) (hok : r < 55296 ∨ (57343 < r ∧ r ≤ 1114111)) (h1 : ¬ (65 ≤ r ∧ r ≤ 90)) (h2 : ¬ (192 ≤ r ∧ r ≤ 222)) (h3 : ¬ (913 ≤ r ∧ r ≤ 937)) (h4 : ¬ (1024 ≤ r ∧ r ≤ 1071)) (h5 : r ≠ 223) (h6 : r ≠ 7838) (w : World) :
    Calls Tryd.prog 39 #[.int .i64 r] w fun e w' => e = .returned (.string ⟨(enc (r).toNat).toArray⟩) ∧ Below w.heap.size w w' := by
  have q1 : (r == 223) = false := by simp; omega
  have q2 : (r == 7838) = false := by simp; omega
  have e0 : inB r 65 90 = false := by simp [inB]; omega
  have e1 : inB r 192 222 = false := by simp [inB]; omega
  have e2 : inB r 913 937 = false := by simp [inB]; omega
  have e3 : inB r 1040 1071 = false := by simp [inB]; omega
  have e4 : inB r 1024 1039 = false := by simp [inB]; omega
  go_enter Tryd.func39, Tryd.ntmps39
  go_wp2_with (first | (go_at_call 53; refine (refin_any _ _ _ _).mono ?_; rintro e w' ⟨rfl, rfl⟩) | (go_at_call 54; refine (put_int (r) (by omega) (by omega) _).mono ?_))
  first | rintro e w1 rfl g1 | rintro e w1 ⟨rfl, g1⟩
  go_wp2
  go_ret
  exact ⟨rfl, g1⟩

set_option maxHeartbeats 1000000 in
set_option maxRecDepth 100000 in
theorem rsmall_ss (r : Int) (h : r = 223 ∨ r = 7838) (w : World) :
    Calls Tryd.prog 39 #[.int .i64 r] w fun e w' => e = .returned (.string ⟨#[115, 115]⟩) ∧ Below w.heap.size w w' := by
  rcases h with rfl | rfl
  all_goals
    go_enter Tryd.func39, Tryd.ntmps39
    go_wp2
    go_ret
    exact ⟨rfl, Below.refl _ _⟩

/-- small, of every right character. -/
theorem rsmall_any (r : Nat) (hr : Ok r) (w : World) :
    Calls Tryd.prog 39 #[.int .i64 (r : Int)] w fun e w' => e = .returned (.string ⟨(encAll (smallR r)).toArray⟩) ∧ Below w.heap.size w w' := by
  by_cases hs : r = 223 ∨ r = 7838
  · have e1 : encAll (smallR r) = [115, 115] := by unfold smallR; rw [if_pos hs]; decide
    rw [e1]
    exact rsmall_ss r (by omega) w
  · have e1 : encAll (smallR r) = enc (lower r) := by unfold smallR; rw [if_neg hs, encAll_cons, encAll_nil, List.append_nil]
    rw [e1]
    by_cases c1 : (65 ≤ r ∧ r ≤ 90) ∨ (192 ≤ r ∧ r ≤ 222 ∧ r ≠ 215) ∨ (913 ≤ r ∧ r ≤ 937) ∨ (1040 ≤ r ∧ r ≤ 1071)
    · have e3 : lower r = ((r : Int) + 32).toNat := by unfold lower; rw [if_pos c1]; omega
      rw [e3]
      rcases c1 with c | c | c | c
      · exact rsmall_a r (by omega) (by omega) w
      · exact rsmall_b r (by omega) (by omega) (by omega) w
      · exact rsmall_c r (by omega) (by omega) w
      · exact rsmall_d r (by omega) (by omega) w
    · by_cases c2 : 1024 ≤ r ∧ r ≤ 1039
      · have e3 : lower r = ((r : Int) + 80).toNat := by unfold lower; rw [if_neg c1, if_pos c2]; omega
        rw [e3]
        exact rsmall_e r (by omega) (by omega) w
      · have e3 : lower r = ((r : Int)).toNat := by unfold lower; rw [if_neg c1, if_neg c2]; omega
        rw [e3]
        by_cases c3 : r = 215
        · exact rsmall_f r (by omega) (by omega) w
        · exact rsmall_g r (by omega) (by omega) (by omega) (by omega) (by omega) (by omega) (by omega) (by omega) w

end Go.Proofs.YthpkoecpmbpnbaaDoor.run
