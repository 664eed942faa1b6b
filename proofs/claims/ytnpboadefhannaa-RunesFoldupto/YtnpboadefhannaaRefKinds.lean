/- The document's answer for the kinds of characters: what the reference's Mark, Space, in and Punct answer, for every number. -/
import Derived.Test.YtnpboadefhannaaPunct
set_option linter.unusedVariables false
namespace Go.Proofs.Ytnpboadefhannaa
open Go.RowKit

theorem refin_any (r a b : Int) (w : World) :
    Calls Try.prog 29 #[.int .i64 r, .int .i64 a, .int .i64 b] w fun e w' => e = .returned (.bool (inB r a b)) ∧ w = w' := by
  by_cases h1 : a ≤ r
  all_goals
    go_enter Try.func29, Try.ntmps29
    go_wp2
    go_ret
    exact ⟨ret_bool (by rw [Bool.eq_iff_iff]; simp [inB]; omega), rfl⟩

theorem refspace_any (r : Int) (w : World) :
    Calls Try.prog 17 #[.int .i64 r] w fun e w' => e = .returned (.bool (spaceB r)) ∧ w = w' := by
  have hc : (8192 ≤ r ∧ r ≤ 8202) ∨ r < 8192 ∨ 8202 < r := by omega
  rcases hc with ⟨h, h'⟩ | h | h
  all_goals
    go_enter Try.func17, Try.ntmps17
    go_wp2
    all_goals
      go_ret
      exact ⟨ret_bool (by rw [Bool.eq_iff_iff]; simp only [spaceB, decide_eq_true_eq]; first | omega | (simp; omega) | (simp_all; done) | (simp_all; omega)), rfl⟩

theorem refmark_any (c : Int) (w : World) :
    Calls Try.prog 15 #[.int .i64 c] w fun e w' => e = .returned (.bool (markB c)) ∧ w = w' := by
  have hc : c < 33 ∨ (33 ≤ c ∧ c ≤ 47) ∨ (47 < c ∧ c < 58) ∨ (58 ≤ c ∧ c ≤ 64) ∨ (64 < c ∧ c < 91) ∨ (91 ≤ c ∧ c ≤ 96) ∨ (96 < c ∧ c < 123) ∨ (123 ≤ c ∧ c ≤ 126) ∨ 126 < c := by omega
  rcases hc with h | ⟨h, h'⟩ | ⟨h, h'⟩ | ⟨h, h'⟩ | ⟨h, h'⟩ | ⟨h, h'⟩ | ⟨h, h'⟩ | ⟨h, h'⟩ | h
  all_goals
    go_enter Try.func15, Try.ntmps15
    go_wp2
    go_ret
    exact ⟨ret_bool (by unfold markB; rw [Bool.eq_iff_iff]; simp; omega), rfl⟩

theorem refpunct_low (r : Int) (w : World) (h : r < 128) :
    Calls Try.prog 19 #[.int .i64 r] w fun e w' => e = .returned (.bool (markB r)) ∧ w = w' := by
  have e0 : inB r 161 169 = false := by simp [inB]; omega
  have e1 : inB r 171 177 = false := by simp [inB]; omega
  have e2 : (r == 180) = false := by simp; omega
  have e3 : inB r 182 184 = false := by simp [inB]; omega
  have e4 : (r == 187) = false := by simp; omega
  have e5 : (r == 191) = false := by simp; omega
  have e6 : (r == 215) = false := by simp; omega
  have e7 : (r == 247) = false := by simp; omega
  have e8 : inB r 8208 8231 = false := by simp [inB]; omega
  have e9 : inB r 8240 8286 = false := by simp [inB]; omega
  have e10 : inB r 8352 8384 = false := by simp [inB]; omega
  have e11 : inB r 8592 8703 = false := by simp [inB]; omega
  have e12 : inB r 12289 12291 = false := by simp [inB]; omega
  have e13 : inB r 12296 12305 = false := by simp [inB]; omega
  go_enter Try.func19, Try.ntmps19
  go_wp2_with (first | (go_at_call 29; refine (refin_any _ _ _ _).mono ?_; rintro e w' ⟨rfl, rfl⟩) | (go_at_call 15; refine (refmark_any _ _).mono ?_; rintro e w' ⟨rfl, rfl⟩))
  all_goals
    go_ret
    exact ⟨ret_bool (by simp_all), rfl⟩

theorem refpunct_0 (r : Int) (w : World) (h : 161 ≤ r) (h' : r ≤ 169) :
    Calls Try.prog 19 #[.int .i64 r] w fun e w' => e = .returned (.bool true) ∧ w = w' := by
  have hm : markB r = false := by simp [markB]; omega
  have e0 : inB r 161 169 = true := by simp [inB]; omega
  have e1 : inB r 171 177 = false := by simp [inB]; omega
  have e2 : (r == 180) = false := by simp; omega
  have e3 : inB r 182 184 = false := by simp [inB]; omega
  have e4 : (r == 187) = false := by simp; omega
  have e5 : (r == 191) = false := by simp; omega
  have e6 : (r == 215) = false := by simp; omega
  have e7 : (r == 247) = false := by simp; omega
  have e8 : inB r 8208 8231 = false := by simp [inB]; omega
  have e9 : inB r 8240 8286 = false := by simp [inB]; omega
  have e10 : inB r 8352 8384 = false := by simp [inB]; omega
  have e11 : inB r 8592 8703 = false := by simp [inB]; omega
  have e12 : inB r 12289 12291 = false := by simp [inB]; omega
  have e13 : inB r 12296 12305 = false := by simp [inB]; omega
  go_enter Try.func19, Try.ntmps19
  go_wp2_with (first | (go_at_call 29; refine (refin_any _ _ _ _).mono ?_; rintro e w' ⟨rfl, rfl⟩) | (go_at_call 15; refine (refmark_any _ _).mono ?_; rintro e w' ⟨rfl, rfl⟩))
  go_ret
  exact ⟨rfl, rfl⟩

theorem refpunct_1 (r : Int) (w : World) (h : 171 ≤ r) (h' : r ≤ 177) :
    Calls Try.prog 19 #[.int .i64 r] w fun e w' => e = .returned (.bool true) ∧ w = w' := by
  have hm : markB r = false := by simp [markB]; omega
  have e0 : inB r 161 169 = false := by simp [inB]; omega
  have e1 : inB r 171 177 = true := by simp [inB]; omega
  have e2 : (r == 180) = false := by simp; omega
  have e3 : inB r 182 184 = false := by simp [inB]; omega
  have e4 : (r == 187) = false := by simp; omega
  have e5 : (r == 191) = false := by simp; omega
  have e6 : (r == 215) = false := by simp; omega
  have e7 : (r == 247) = false := by simp; omega
  have e8 : inB r 8208 8231 = false := by simp [inB]; omega
  have e9 : inB r 8240 8286 = false := by simp [inB]; omega
  have e10 : inB r 8352 8384 = false := by simp [inB]; omega
  have e11 : inB r 8592 8703 = false := by simp [inB]; omega
  have e12 : inB r 12289 12291 = false := by simp [inB]; omega
  have e13 : inB r 12296 12305 = false := by simp [inB]; omega
  go_enter Try.func19, Try.ntmps19
  go_wp2_with (first | (go_at_call 29; refine (refin_any _ _ _ _).mono ?_; rintro e w' ⟨rfl, rfl⟩) | (go_at_call 15; refine (refmark_any _ _).mono ?_; rintro e w' ⟨rfl, rfl⟩))
  go_ret
  exact ⟨rfl, rfl⟩

theorem refpunct_2 (r : Int) (w : World) (h : 180 ≤ r) (h' : r ≤ 180) :
    Calls Try.prog 19 #[.int .i64 r] w fun e w' => e = .returned (.bool true) ∧ w = w' := by
  have hm : markB r = false := by simp [markB]; omega
  have e0 : inB r 161 169 = false := by simp [inB]; omega
  have e1 : inB r 171 177 = false := by simp [inB]; omega
  have e2 : (r == 180) = true := by simp; omega
  have e3 : inB r 182 184 = false := by simp [inB]; omega
  have e4 : (r == 187) = false := by simp; omega
  have e5 : (r == 191) = false := by simp; omega
  have e6 : (r == 215) = false := by simp; omega
  have e7 : (r == 247) = false := by simp; omega
  have e8 : inB r 8208 8231 = false := by simp [inB]; omega
  have e9 : inB r 8240 8286 = false := by simp [inB]; omega
  have e10 : inB r 8352 8384 = false := by simp [inB]; omega
  have e11 : inB r 8592 8703 = false := by simp [inB]; omega
  have e12 : inB r 12289 12291 = false := by simp [inB]; omega
  have e13 : inB r 12296 12305 = false := by simp [inB]; omega
  go_enter Try.func19, Try.ntmps19
  go_wp2_with (first | (go_at_call 29; refine (refin_any _ _ _ _).mono ?_; rintro e w' ⟨rfl, rfl⟩) | (go_at_call 15; refine (refmark_any _ _).mono ?_; rintro e w' ⟨rfl, rfl⟩))
  go_ret
  exact ⟨rfl, rfl⟩

theorem refpunct_3 (r : Int) (w : World) (h : 182 ≤ r) (h' : r ≤ 184) :
    Calls Try.prog 19 #[.int .i64 r] w fun e w' => e = .returned (.bool true) ∧ w = w' := by
  have hm : markB r = false := by simp [markB]; omega
  have e0 : inB r 161 169 = false := by simp [inB]; omega
  have e1 : inB r 171 177 = false := by simp [inB]; omega
  have e2 : (r == 180) = false := by simp; omega
  have e3 : inB r 182 184 = true := by simp [inB]; omega
  have e4 : (r == 187) = false := by simp; omega
  have e5 : (r == 191) = false := by simp; omega
  have e6 : (r == 215) = false := by simp; omega
  have e7 : (r == 247) = false := by simp; omega
  have e8 : inB r 8208 8231 = false := by simp [inB]; omega
  have e9 : inB r 8240 8286 = false := by simp [inB]; omega
  have e10 : inB r 8352 8384 = false := by simp [inB]; omega
  have e11 : inB r 8592 8703 = false := by simp [inB]; omega
  have e12 : inB r 12289 12291 = false := by simp [inB]; omega
  have e13 : inB r 12296 12305 = false := by simp [inB]; omega
  go_enter Try.func19, Try.ntmps19
  go_wp2_with (first | (go_at_call 29; refine (refin_any _ _ _ _).mono ?_; rintro e w' ⟨rfl, rfl⟩) | (go_at_call 15; refine (refmark_any _ _).mono ?_; rintro e w' ⟨rfl, rfl⟩))
  go_ret
  exact ⟨rfl, rfl⟩

theorem refpunct_4 (r : Int) (w : World) (h : 187 ≤ r) (h' : r ≤ 187) :
    Calls Try.prog 19 #[.int .i64 r] w fun e w' => e = .returned (.bool true) ∧ w = w' := by
  have hm : markB r = false := by simp [markB]; omega
  have e0 : inB r 161 169 = false := by simp [inB]; omega
  have e1 : inB r 171 177 = false := by simp [inB]; omega
  have e2 : (r == 180) = false := by simp; omega
  have e3 : inB r 182 184 = false := by simp [inB]; omega
  have e4 : (r == 187) = true := by simp; omega
  have e5 : (r == 191) = false := by simp; omega
  have e6 : (r == 215) = false := by simp; omega
  have e7 : (r == 247) = false := by simp; omega
  have e8 : inB r 8208 8231 = false := by simp [inB]; omega
  have e9 : inB r 8240 8286 = false := by simp [inB]; omega
  have e10 : inB r 8352 8384 = false := by simp [inB]; omega
  have e11 : inB r 8592 8703 = false := by simp [inB]; omega
  have e12 : inB r 12289 12291 = false := by simp [inB]; omega
  have e13 : inB r 12296 12305 = false := by simp [inB]; omega
  go_enter Try.func19, Try.ntmps19
  go_wp2_with (first | (go_at_call 29; refine (refin_any _ _ _ _).mono ?_; rintro e w' ⟨rfl, rfl⟩) | (go_at_call 15; refine (refmark_any _ _).mono ?_; rintro e w' ⟨rfl, rfl⟩))
  go_ret
  exact ⟨rfl, rfl⟩

theorem refpunct_5 (r : Int) (w : World) (h : 191 ≤ r) (h' : r ≤ 191) :
    Calls Try.prog 19 #[.int .i64 r] w fun e w' => e = .returned (.bool true) ∧ w = w' := by
  have hm : markB r = false := by simp [markB]; omega
  have e0 : inB r 161 169 = false := by simp [inB]; omega
  have e1 : inB r 171 177 = false := by simp [inB]; omega
  have e2 : (r == 180) = false := by simp; omega
  have e3 : inB r 182 184 = false := by simp [inB]; omega
  have e4 : (r == 187) = false := by simp; omega
  have e5 : (r == 191) = true := by simp; omega
  have e6 : (r == 215) = false := by simp; omega
  have e7 : (r == 247) = false := by simp; omega
  have e8 : inB r 8208 8231 = false := by simp [inB]; omega
  have e9 : inB r 8240 8286 = false := by simp [inB]; omega
  have e10 : inB r 8352 8384 = false := by simp [inB]; omega
  have e11 : inB r 8592 8703 = false := by simp [inB]; omega
  have e12 : inB r 12289 12291 = false := by simp [inB]; omega
  have e13 : inB r 12296 12305 = false := by simp [inB]; omega
  go_enter Try.func19, Try.ntmps19
  go_wp2_with (first | (go_at_call 29; refine (refin_any _ _ _ _).mono ?_; rintro e w' ⟨rfl, rfl⟩) | (go_at_call 15; refine (refmark_any _ _).mono ?_; rintro e w' ⟨rfl, rfl⟩))
  go_ret
  exact ⟨rfl, rfl⟩

theorem refpunct_6 (r : Int) (w : World) (h : 215 ≤ r) (h' : r ≤ 215) :
    Calls Try.prog 19 #[.int .i64 r] w fun e w' => e = .returned (.bool true) ∧ w = w' := by
  have hm : markB r = false := by simp [markB]; omega
  have e0 : inB r 161 169 = false := by simp [inB]; omega
  have e1 : inB r 171 177 = false := by simp [inB]; omega
  have e2 : (r == 180) = false := by simp; omega
  have e3 : inB r 182 184 = false := by simp [inB]; omega
  have e4 : (r == 187) = false := by simp; omega
  have e5 : (r == 191) = false := by simp; omega
  have e6 : (r == 215) = true := by simp; omega
  have e7 : (r == 247) = false := by simp; omega
  have e8 : inB r 8208 8231 = false := by simp [inB]; omega
  have e9 : inB r 8240 8286 = false := by simp [inB]; omega
  have e10 : inB r 8352 8384 = false := by simp [inB]; omega
  have e11 : inB r 8592 8703 = false := by simp [inB]; omega
  have e12 : inB r 12289 12291 = false := by simp [inB]; omega
  have e13 : inB r 12296 12305 = false := by simp [inB]; omega
  go_enter Try.func19, Try.ntmps19
  go_wp2_with (first | (go_at_call 29; refine (refin_any _ _ _ _).mono ?_; rintro e w' ⟨rfl, rfl⟩) | (go_at_call 15; refine (refmark_any _ _).mono ?_; rintro e w' ⟨rfl, rfl⟩))
  go_ret
  exact ⟨rfl, rfl⟩

theorem refpunct_7 (r : Int) (w : World) (h : 247 ≤ r) (h' : r ≤ 247) :
    Calls Try.prog 19 #[.int .i64 r] w fun e w' => e = .returned (.bool true) ∧ w = w' := by
  have hm : markB r = false := by simp [markB]; omega
  have e0 : inB r 161 169 = false := by simp [inB]; omega
  have e1 : inB r 171 177 = false := by simp [inB]; omega
  have e2 : (r == 180) = false := by simp; omega
  have e3 : inB r 182 184 = false := by simp [inB]; omega
  have e4 : (r == 187) = false := by simp; omega
  have e5 : (r == 191) = false := by simp; omega
  have e6 : (r == 215) = false := by simp; omega
  have e7 : (r == 247) = true := by simp; omega
  have e8 : inB r 8208 8231 = false := by simp [inB]; omega
  have e9 : inB r 8240 8286 = false := by simp [inB]; omega
  have e10 : inB r 8352 8384 = false := by simp [inB]; omega
  have e11 : inB r 8592 8703 = false := by simp [inB]; omega
  have e12 : inB r 12289 12291 = false := by simp [inB]; omega
  have e13 : inB r 12296 12305 = false := by simp [inB]; omega
  go_enter Try.func19, Try.ntmps19
  go_wp2_with (first | (go_at_call 29; refine (refin_any _ _ _ _).mono ?_; rintro e w' ⟨rfl, rfl⟩) | (go_at_call 15; refine (refmark_any _ _).mono ?_; rintro e w' ⟨rfl, rfl⟩))
  go_ret
  exact ⟨rfl, rfl⟩

theorem refpunct_8 (r : Int) (w : World) (h : 8208 ≤ r) (h' : r ≤ 8231) :
    Calls Try.prog 19 #[.int .i64 r] w fun e w' => e = .returned (.bool true) ∧ w = w' := by
  have hm : markB r = false := by simp [markB]; omega
  have e0 : inB r 161 169 = false := by simp [inB]; omega
  have e1 : inB r 171 177 = false := by simp [inB]; omega
  have e2 : (r == 180) = false := by simp; omega
  have e3 : inB r 182 184 = false := by simp [inB]; omega
  have e4 : (r == 187) = false := by simp; omega
  have e5 : (r == 191) = false := by simp; omega
  have e6 : (r == 215) = false := by simp; omega
  have e7 : (r == 247) = false := by simp; omega
  have e8 : inB r 8208 8231 = true := by simp [inB]; omega
  have e9 : inB r 8240 8286 = false := by simp [inB]; omega
  have e10 : inB r 8352 8384 = false := by simp [inB]; omega
  have e11 : inB r 8592 8703 = false := by simp [inB]; omega
  have e12 : inB r 12289 12291 = false := by simp [inB]; omega
  have e13 : inB r 12296 12305 = false := by simp [inB]; omega
  go_enter Try.func19, Try.ntmps19
  go_wp2_with (first | (go_at_call 29; refine (refin_any _ _ _ _).mono ?_; rintro e w' ⟨rfl, rfl⟩) | (go_at_call 15; refine (refmark_any _ _).mono ?_; rintro e w' ⟨rfl, rfl⟩))
  go_ret
  exact ⟨rfl, rfl⟩

theorem refpunct_9 (r : Int) (w : World) (h : 8240 ≤ r) (h' : r ≤ 8286) :
    Calls Try.prog 19 #[.int .i64 r] w fun e w' => e = .returned (.bool true) ∧ w = w' := by
  have hm : markB r = false := by simp [markB]; omega
  have e0 : inB r 161 169 = false := by simp [inB]; omega
  have e1 : inB r 171 177 = false := by simp [inB]; omega
  have e2 : (r == 180) = false := by simp; omega
  have e3 : inB r 182 184 = false := by simp [inB]; omega
  have e4 : (r == 187) = false := by simp; omega
  have e5 : (r == 191) = false := by simp; omega
  have e6 : (r == 215) = false := by simp; omega
  have e7 : (r == 247) = false := by simp; omega
  have e8 : inB r 8208 8231 = false := by simp [inB]; omega
  have e9 : inB r 8240 8286 = true := by simp [inB]; omega
  have e10 : inB r 8352 8384 = false := by simp [inB]; omega
  have e11 : inB r 8592 8703 = false := by simp [inB]; omega
  have e12 : inB r 12289 12291 = false := by simp [inB]; omega
  have e13 : inB r 12296 12305 = false := by simp [inB]; omega
  go_enter Try.func19, Try.ntmps19
  go_wp2_with (first | (go_at_call 29; refine (refin_any _ _ _ _).mono ?_; rintro e w' ⟨rfl, rfl⟩) | (go_at_call 15; refine (refmark_any _ _).mono ?_; rintro e w' ⟨rfl, rfl⟩))
  go_ret
  exact ⟨rfl, rfl⟩

theorem refpunct_10 (r : Int) (w : World) (h : 8352 ≤ r) (h' : r ≤ 8384) :
    Calls Try.prog 19 #[.int .i64 r] w fun e w' => e = .returned (.bool true) ∧ w = w' := by
  have hm : markB r = false := by simp [markB]; omega
  have e0 : inB r 161 169 = false := by simp [inB]; omega
  have e1 : inB r 171 177 = false := by simp [inB]; omega
  have e2 : (r == 180) = false := by simp; omega
  have e3 : inB r 182 184 = false := by simp [inB]; omega
  have e4 : (r == 187) = false := by simp; omega
  have e5 : (r == 191) = false := by simp; omega
  have e6 : (r == 215) = false := by simp; omega
  have e7 : (r == 247) = false := by simp; omega
  have e8 : inB r 8208 8231 = false := by simp [inB]; omega
  have e9 : inB r 8240 8286 = false := by simp [inB]; omega
  have e10 : inB r 8352 8384 = true := by simp [inB]; omega
  have e11 : inB r 8592 8703 = false := by simp [inB]; omega
  have e12 : inB r 12289 12291 = false := by simp [inB]; omega
  have e13 : inB r 12296 12305 = false := by simp [inB]; omega
  go_enter Try.func19, Try.ntmps19
  go_wp2_with (first | (go_at_call 29; refine (refin_any _ _ _ _).mono ?_; rintro e w' ⟨rfl, rfl⟩) | (go_at_call 15; refine (refmark_any _ _).mono ?_; rintro e w' ⟨rfl, rfl⟩))
  go_ret
  exact ⟨rfl, rfl⟩

theorem refpunct_11 (r : Int) (w : World) (h : 8592 ≤ r) (h' : r ≤ 8703) :
    Calls Try.prog 19 #[.int .i64 r] w fun e w' => e = .returned (.bool true) ∧ w = w' := by
  have hm : markB r = false := by simp [markB]; omega
  have e0 : inB r 161 169 = false := by simp [inB]; omega
  have e1 : inB r 171 177 = false := by simp [inB]; omega
  have e2 : (r == 180) = false := by simp; omega
  have e3 : inB r 182 184 = false := by simp [inB]; omega
  have e4 : (r == 187) = false := by simp; omega
  have e5 : (r == 191) = false := by simp; omega
  have e6 : (r == 215) = false := by simp; omega
  have e7 : (r == 247) = false := by simp; omega
  have e8 : inB r 8208 8231 = false := by simp [inB]; omega
  have e9 : inB r 8240 8286 = false := by simp [inB]; omega
  have e10 : inB r 8352 8384 = false := by simp [inB]; omega
  have e11 : inB r 8592 8703 = true := by simp [inB]; omega
  have e12 : inB r 12289 12291 = false := by simp [inB]; omega
  have e13 : inB r 12296 12305 = false := by simp [inB]; omega
  go_enter Try.func19, Try.ntmps19
  go_wp2_with (first | (go_at_call 29; refine (refin_any _ _ _ _).mono ?_; rintro e w' ⟨rfl, rfl⟩) | (go_at_call 15; refine (refmark_any _ _).mono ?_; rintro e w' ⟨rfl, rfl⟩))
  go_ret
  exact ⟨rfl, rfl⟩

theorem refpunct_12 (r : Int) (w : World) (h : 12289 ≤ r) (h' : r ≤ 12291) :
    Calls Try.prog 19 #[.int .i64 r] w fun e w' => e = .returned (.bool true) ∧ w = w' := by
  have hm : markB r = false := by simp [markB]; omega
  have e0 : inB r 161 169 = false := by simp [inB]; omega
  have e1 : inB r 171 177 = false := by simp [inB]; omega
  have e2 : (r == 180) = false := by simp; omega
  have e3 : inB r 182 184 = false := by simp [inB]; omega
  have e4 : (r == 187) = false := by simp; omega
  have e5 : (r == 191) = false := by simp; omega
  have e6 : (r == 215) = false := by simp; omega
  have e7 : (r == 247) = false := by simp; omega
  have e8 : inB r 8208 8231 = false := by simp [inB]; omega
  have e9 : inB r 8240 8286 = false := by simp [inB]; omega
  have e10 : inB r 8352 8384 = false := by simp [inB]; omega
  have e11 : inB r 8592 8703 = false := by simp [inB]; omega
  have e12 : inB r 12289 12291 = true := by simp [inB]; omega
  have e13 : inB r 12296 12305 = false := by simp [inB]; omega
  go_enter Try.func19, Try.ntmps19
  go_wp2_with (first | (go_at_call 29; refine (refin_any _ _ _ _).mono ?_; rintro e w' ⟨rfl, rfl⟩) | (go_at_call 15; refine (refmark_any _ _).mono ?_; rintro e w' ⟨rfl, rfl⟩))
  go_ret
  exact ⟨rfl, rfl⟩

theorem refpunct_13 (r : Int) (w : World) (h : 12296 ≤ r) (h' : r ≤ 12305) :
    Calls Try.prog 19 #[.int .i64 r] w fun e w' => e = .returned (.bool true) ∧ w = w' := by
  have hm : markB r = false := by simp [markB]; omega
  have e0 : inB r 161 169 = false := by simp [inB]; omega
  have e1 : inB r 171 177 = false := by simp [inB]; omega
  have e2 : (r == 180) = false := by simp; omega
  have e3 : inB r 182 184 = false := by simp [inB]; omega
  have e4 : (r == 187) = false := by simp; omega
  have e5 : (r == 191) = false := by simp; omega
  have e6 : (r == 215) = false := by simp; omega
  have e7 : (r == 247) = false := by simp; omega
  have e8 : inB r 8208 8231 = false := by simp [inB]; omega
  have e9 : inB r 8240 8286 = false := by simp [inB]; omega
  have e10 : inB r 8352 8384 = false := by simp [inB]; omega
  have e11 : inB r 8592 8703 = false := by simp [inB]; omega
  have e12 : inB r 12289 12291 = false := by simp [inB]; omega
  have e13 : inB r 12296 12305 = true := by simp [inB]; omega
  go_enter Try.func19, Try.ntmps19
  go_wp2_with (first | (go_at_call 29; refine (refin_any _ _ _ _).mono ?_; rintro e w' ⟨rfl, rfl⟩) | (go_at_call 15; refine (refmark_any _ _).mono ?_; rintro e w' ⟨rfl, rfl⟩))
  go_ret
  exact ⟨rfl, rfl⟩

theorem refpunct_none (r : Int) (w : World) (h : 128 ≤ r) (n0 : r < 161 ∨ 169 < r) (n1 : r < 171 ∨ 177 < r) (n2 : r < 180 ∨ 180 < r) (n3 : r < 182 ∨ 184 < r) (n4 : r < 187 ∨ 187 < r) (n5 : r < 191 ∨ 191 < r) (n6 : r < 215 ∨ 215 < r) (n7 : r < 247 ∨ 247 < r) (n8 : r < 8208 ∨ 8231 < r) (n9 : r < 8240 ∨ 8286 < r) (n10 : r < 8352 ∨ 8384 < r) (n11 : r < 8592 ∨ 8703 < r) (n12 : r < 12289 ∨ 12291 < r) (n13 : r < 12296 ∨ 12305 < r) :
    Calls Try.prog 19 #[.int .i64 r] w fun e w' => e = .returned (.bool false) ∧ w = w' := by
  have hm : markB r = false := by simp [markB]; omega
  have e0 : inB r 161 169 = false := by simp [inB]; omega
  have e1 : inB r 171 177 = false := by simp [inB]; omega
  have e2 : (r == 180) = false := by simp; omega
  have e3 : inB r 182 184 = false := by simp [inB]; omega
  have e4 : (r == 187) = false := by simp; omega
  have e5 : (r == 191) = false := by simp; omega
  have e6 : (r == 215) = false := by simp; omega
  have e7 : (r == 247) = false := by simp; omega
  have e8 : inB r 8208 8231 = false := by simp [inB]; omega
  have e9 : inB r 8240 8286 = false := by simp [inB]; omega
  have e10 : inB r 8352 8384 = false := by simp [inB]; omega
  have e11 : inB r 8592 8703 = false := by simp [inB]; omega
  have e12 : inB r 12289 12291 = false := by simp [inB]; omega
  have e13 : inB r 12296 12305 = false := by simp [inB]; omega
  clear n0 n1 n2 n3 n4 n5 n6 n7 n8 n9 n10 n11 n12 n13
  go_enter Try.func19, Try.ntmps19
  go_wp2_with (first | (go_at_call 29; refine (refin_any _ _ _ _).mono ?_; rintro e w' ⟨rfl, rfl⟩) | (go_at_call 15; refine (refmark_any _ _).mono ?_; rintro e w' ⟨rfl, rfl⟩))
  go_ret
  exact ⟨rfl, rfl⟩

theorem refpunct_any (r : Int) (w : World) :
    Calls Try.prog 19 #[.int .i64 r] w fun e w' => e = .returned (.bool (punctB r)) ∧ w = w' := by
  by_cases h : r < 128
  · refine (refpunct_low r w h).mono fun e w' ⟨he, hw⟩ => ⟨he.trans (ret_bool ?_), hw⟩
    rw [Bool.eq_iff_iff]; simp [punctB]; omega
  by_cases c0 : 161 ≤ r ∧ r ≤ 169
  · refine (refpunct_0 r w c0.1 c0.2).mono fun e w' ⟨he, hw⟩ => ⟨he.trans (ret_bool ?_), hw⟩
    symm; simp only [punctB, Bool.or_eq_true, decide_eq_true_eq]; right; omega
  by_cases c1 : 171 ≤ r ∧ r ≤ 177
  · refine (refpunct_1 r w c1.1 c1.2).mono fun e w' ⟨he, hw⟩ => ⟨he.trans (ret_bool ?_), hw⟩
    symm; simp only [punctB, Bool.or_eq_true, decide_eq_true_eq]; right; omega
  by_cases c2 : 180 ≤ r ∧ r ≤ 180
  · refine (refpunct_2 r w c2.1 c2.2).mono fun e w' ⟨he, hw⟩ => ⟨he.trans (ret_bool ?_), hw⟩
    symm; simp only [punctB, Bool.or_eq_true, decide_eq_true_eq]; right; omega
  by_cases c3 : 182 ≤ r ∧ r ≤ 184
  · refine (refpunct_3 r w c3.1 c3.2).mono fun e w' ⟨he, hw⟩ => ⟨he.trans (ret_bool ?_), hw⟩
    symm; simp only [punctB, Bool.or_eq_true, decide_eq_true_eq]; right; omega
  by_cases c4 : 187 ≤ r ∧ r ≤ 187
  · refine (refpunct_4 r w c4.1 c4.2).mono fun e w' ⟨he, hw⟩ => ⟨he.trans (ret_bool ?_), hw⟩
    symm; simp only [punctB, Bool.or_eq_true, decide_eq_true_eq]; right; omega
  by_cases c5 : 191 ≤ r ∧ r ≤ 191
  · refine (refpunct_5 r w c5.1 c5.2).mono fun e w' ⟨he, hw⟩ => ⟨he.trans (ret_bool ?_), hw⟩
    symm; simp only [punctB, Bool.or_eq_true, decide_eq_true_eq]; right; omega
  by_cases c6 : 215 ≤ r ∧ r ≤ 215
  · refine (refpunct_6 r w c6.1 c6.2).mono fun e w' ⟨he, hw⟩ => ⟨he.trans (ret_bool ?_), hw⟩
    symm; simp only [punctB, Bool.or_eq_true, decide_eq_true_eq]; right; omega
  by_cases c7 : 247 ≤ r ∧ r ≤ 247
  · refine (refpunct_7 r w c7.1 c7.2).mono fun e w' ⟨he, hw⟩ => ⟨he.trans (ret_bool ?_), hw⟩
    symm; simp only [punctB, Bool.or_eq_true, decide_eq_true_eq]; right; omega
  by_cases c8 : 8208 ≤ r ∧ r ≤ 8231
  · refine (refpunct_8 r w c8.1 c8.2).mono fun e w' ⟨he, hw⟩ => ⟨he.trans (ret_bool ?_), hw⟩
    symm; simp only [punctB, Bool.or_eq_true, decide_eq_true_eq]; right; omega
  by_cases c9 : 8240 ≤ r ∧ r ≤ 8286
  · refine (refpunct_9 r w c9.1 c9.2).mono fun e w' ⟨he, hw⟩ => ⟨he.trans (ret_bool ?_), hw⟩
    symm; simp only [punctB, Bool.or_eq_true, decide_eq_true_eq]; right; omega
  by_cases c10 : 8352 ≤ r ∧ r ≤ 8384
  · refine (refpunct_10 r w c10.1 c10.2).mono fun e w' ⟨he, hw⟩ => ⟨he.trans (ret_bool ?_), hw⟩
    symm; simp only [punctB, Bool.or_eq_true, decide_eq_true_eq]; right; omega
  by_cases c11 : 8592 ≤ r ∧ r ≤ 8703
  · refine (refpunct_11 r w c11.1 c11.2).mono fun e w' ⟨he, hw⟩ => ⟨he.trans (ret_bool ?_), hw⟩
    symm; simp only [punctB, Bool.or_eq_true, decide_eq_true_eq]; right; omega
  by_cases c12 : 12289 ≤ r ∧ r ≤ 12291
  · refine (refpunct_12 r w c12.1 c12.2).mono fun e w' ⟨he, hw⟩ => ⟨he.trans (ret_bool ?_), hw⟩
    symm; simp only [punctB, Bool.or_eq_true, decide_eq_true_eq]; right; omega
  by_cases c13 : 12296 ≤ r ∧ r ≤ 12305
  · refine (refpunct_13 r w c13.1 c13.2).mono fun e w' ⟨he, hw⟩ => ⟨he.trans (ret_bool ?_), hw⟩
    symm; simp only [punctB, Bool.or_eq_true, decide_eq_true_eq]; right; omega
  refine (refpunct_none r w (by omega) (by omega) (by omega) (by omega) (by omega) (by omega) (by omega) (by omega) (by omega) (by omega) (by omega) (by omega) (by omega) (by omega) (by omega)).mono fun e w' ⟨he, hw⟩ => ⟨he.trans (ret_bool ?_), hw⟩
  symm; simp only [punctB, markB, Bool.or_eq_false_iff, decide_eq_false_iff_not]; omega

end Go.Proofs.Ytnpboadefhannaa
