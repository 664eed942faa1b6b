/- Are two letters the same: the document's own. -/
import Derived.Test.YtmlihlnigojmpaaDoorWSameA
import Derived.Test.YtmlihlnigojmpaaDoorWSameB
import Derived.Test.YtmlihlnigojmpaaDoorWSameC
import Derived.Test.YtmlihlnigojmpaaDoorWSameD
set_option linter.unusedVariables false
namespace Go.Proofs.YtmlihlnigojmpaaDoor
open Go.RowKit

theorem same_any {w : World} (M N : Lt) (A C : LtA) (h : LtW w M A) (k : LtW w N C) : Calls Tryd.prog 15 #[ltV M A, ltV N C] w fun e w' => e = .returned (.bool (decide (M = N))) ∧ Below w.heap.size w w' := by
  cases h0 : (M.k == N.k) with
  | false =>
    have hd : decide (M = N) = false := by
      simp only [decide_eq_false_iff_not]
      intro e
      rw [e] at h0
      simp at h0
    rw [hd]
    exact same_leaf0 M N A C h k h0
  | true =>
    cases h1 : (M.f == N.f) with
    | false =>
      have hd : decide (M = N) = false := by
        simp only [decide_eq_false_iff_not]
        intro e
        rw [e] at h1
        simp at h1
      rw [hd]
      exact same_leaf1 M N A C h k h0 h1
    | true =>
      cases h2 : (M.t == N.t) with
      | false =>
        have hd : decide (M = N) = false := by
          simp only [decide_eq_false_iff_not]
          intro e
          rw [e] at h2
          simp at h2
        rw [hd]
        exact same_leaf2 M N A C h k h0 h1 h2
      | true =>
        cases h3 : (M.tm == N.tm) with
        | false =>
          have hd : decide (M = N) = false := by
            simp only [decide_eq_false_iff_not]
            intro e
            rw [e] at h3
            simp at h3
          rw [hd]
          exact same_leaf3 M N A C h k h0 h1 h2 h3
        | true =>
          cases h4 : (M.i == N.i) with
          | false =>
            have hd : decide (M = N) = false := by
              simp only [decide_eq_false_iff_not]
              intro e
              rw [e] at h4
              simp at h4
            rw [hd]
            exact same_leaf4 M N A C h k h0 h1 h2 h3 h4
          | true =>
            cases h5 : (M.lt == N.lt) with
            | false =>
              have hd : decide (M = N) = false := by
                simp only [decide_eq_false_iff_not]
                intro e
                rw [e] at h5
                simp at h5
              rw [hd]
              exact same_leaf5 M N A C h k h0 h1 h2 h3 h4 h5
            | true =>
              cases h6 : (M.cm == N.cm) with
              | false =>
                have hd : decide (M = N) = false := by
                  simp only [decide_eq_false_iff_not]
                  intro e
                  rw [e] at h6
                  simp at h6
                rw [hd]
                exact same_leaf6 M N A C h k h0 h1 h2 h3 h4 h5 h6
              | true =>
                cases h7 : (M.rd == N.rd) with
                | false =>
                  have hd : decide (M = N) = false := by
                    simp only [decide_eq_false_iff_not]
                    intro e
                    rw [e] at h7
                    simp at h7
                  rw [hd]
                  exact same_leaf7 M N A C h k h0 h1 h2 h3 h4 h5 h6 h7
                | true =>
                  cases h8 : (M.ok == N.ok) with
                  | false =>
                    have hd : decide (M = N) = false := by
                      simp only [decide_eq_false_iff_not]
                      intro e
                      rw [e] at h8
                      simp at h8
                    rw [hd]
                    exact same_leaf8 M N A C h k h0 h1 h2 h3 h4 h5 h6 h7 h8
                  | true =>
                    cases hE : decide (M.es = N.es) with
                    | false =>
                      have hd : decide (M = N) = false := by
                        simp only [decide_eq_false_iff_not] at hE ⊢
                        intro e
                        exact hE (by rw [e])
                      rw [hd]
                      exact same_leaf9 M N A C h k h0 h1 h2 h3 h4 h5 h6 h7 h8 hE
                    | true =>
                      have hd : decide (M = N) = decide (M.sx = N.sx ∧ M.st = N.st ∧ M.ns = N.ns ∧ M.da = N.da) := by
                        simp only [beq_iff_eq] at h0 h1 h2 h3 h4 h5 h6 h7 h8
                        simp only [decide_eq_true_eq] at hE
                        simp [lt_eq, h0, h1, h2, h3, h4, h5, h6, h7, h8, hE]
                      rw [hd]
                      exact same_leaf10 M N A C h k h0 h1 h2 h3 h4 h5 h6 h7 h8 hE
end Go.Proofs.YtmlihlnigojmpaaDoor
