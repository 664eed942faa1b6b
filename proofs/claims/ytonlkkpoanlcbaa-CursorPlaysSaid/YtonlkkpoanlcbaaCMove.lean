/- What strings.Repeat, Rest, Skip and Move answer, of any place in a line. -/
import Derived.Test.YtonlkkpoanlcbaaCCode
set_option linter.unusedVariables false
namespace Go.Proofs.Ytonlkkpoanlcbaa
open Go.RowKit

set_option maxHeartbeats 400000 in
theorem prefix_in (s p : ByteArray) (w : World) (h : s.extract 0 p.size = p) (hp : p.size ≤ s.size) : Calls Try.prog 39 #[.string s, .string p] w fun e w' => e = .returned (.bool true) ∧ w' = w := by
  have hi : (p.size : Int) ≤ (s.size : Int) := by omega
  have H : Hid (s.extract 0 p.size = p) := h
  clear h
  go_enter Try.func39, Try.ntmps39
  go_wp2
  go_ret
  refine ⟨ret_bool ?_, rfl⟩
  have := H.out
  simp [this]

set_option maxHeartbeats 400000 in
theorem prefix_any (s p : ByteArray) (w : World) (h : s.extract 0 p.size = p) (hp : p.size ≤ s.size) : Calls Try.prog 32 #[.string s, .string p] w fun e w' => e = .returned (.bool true) ∧ w' = w := by
  have H : Hid (s.extract 0 p.size = p) := h
  clear h
  go_enter Try.func32, Try.ntmps32
  go_wp2_with (go_at_call 39; refine (prefix_in _ _ _ H.out hp).mono ?_; rintro e w1 ⟨rfl, rfl⟩)
  go_ret
  exact ⟨rfl, rfl⟩

set_option maxHeartbeats 800000 in
set_option maxRecDepth 100000 in
theorem mul_two (w : World) : Calls Try.prog 31 #[.int .u64 1, .int .u64 2] w fun e w' => e = .returned (.tuple #[.int .u64 0, .int .u64 2]) ∧ w' = w := by
  go_enter Try.func31, Try.ntmps31
  go_wp2_with go_in
  go_ret2
  exact ⟨by kernel_rfl, rfl⟩

set_option maxHeartbeats 800000 in
set_option maxRecDepth 100000 in
theorem repeat_two (w : World) : Calls Try.prog 30 #[.string ⟨#[32]⟩, .int .i64 2] w fun e w' => e = .returned (.string ⟨(List.replicate 2 32).toArray⟩) ∧ w' = w := by
  go_enter Try.func30, Try.ntmps30
  go_wp2_with (first | (go_at_call 31; refine (mul_two _).mono ?_; rintro e w1 ⟨rfl, rfl⟩) | (go_at_call 32; refine (prefix_any _ _ _ (by decide) (by decide)).mono ?_; rintro e w1 ⟨rfl, rfl⟩))
  go_ret
  exact ⟨by kernel_rfl, rfl⟩

set_option maxHeartbeats 800000 in
set_option maxRecDepth 100000 in
theorem mul_three (w : World) : Calls Try.prog 31 #[.int .u64 1, .int .u64 3] w fun e w' => e = .returned (.tuple #[.int .u64 0, .int .u64 3]) ∧ w' = w := by
  go_enter Try.func31, Try.ntmps31
  go_wp2_with go_in
  go_ret2
  exact ⟨by kernel_rfl, rfl⟩

set_option maxHeartbeats 800000 in
set_option maxRecDepth 100000 in
theorem repeat_three (w : World) : Calls Try.prog 30 #[.string ⟨#[32]⟩, .int .i64 3] w fun e w' => e = .returned (.string ⟨(List.replicate 3 32).toArray⟩) ∧ w' = w := by
  go_enter Try.func30, Try.ntmps30
  go_wp2_with (first | (go_at_call 31; refine (mul_three _).mono ?_; rintro e w1 ⟨rfl, rfl⟩) | (go_at_call 32; refine (prefix_any _ _ _ (by decide) (by decide)).mono ?_; rintro e w1 ⟨rfl, rfl⟩))
  go_ret
  exact ⟨by kernel_rfl, rfl⟩

set_option maxHeartbeats 800000 in
set_option maxRecDepth 100000 in
theorem repeat_one (w : World) : Calls Try.prog 30 #[.string ⟨#[32]⟩, .int .i64 1] w fun e w' => e = .returned (.string ⟨(List.replicate 1 32).toArray⟩) ∧ w' = w := by
  go_enter Try.func30, Try.ntmps30
  go_wp2
  go_ret
  exact ⟨by kernel_rfl, rfl⟩

theorem repeat_any (k : Nat) (h0 : 1 ≤ k) (h3 : k ≤ 3) (w : World) : Calls Try.prog 30 #[.string ⟨#[32]⟩, .int .i64 (k : Int)] w fun e w' => e = .returned (.string ⟨(List.replicate k 32).toArray⟩) ∧ w' = w := by
  rcases (by omega : k = 1 ∨ k = 2 ∨ k = 3) with rfl | rfl | rfl
  · exact repeat_one w
  · exact repeat_two w
  · exact repeat_three w

set_option maxHeartbeats 400000 in
theorem rest_any {b : Nat} {σ : Pl} {w : World} (h : Cur w b σ) : Calls Try.prog 20 #[cptr b] w fun e w' => e = .returned (.string ⟨(restR σ).toArray⟩) ∧ ∃ m, w' = w.drewN m := by
  obtain ⟨s, p, c, wi, h1, h2, h3, h4, h5⟩ := h
  have c0 := cell_blk h1 (i := 0) rfl
  have c1 := cell_blk h1 (i := 1) rfl
  have c2 := cell_blk h1 (i := 2) rfl
  have c3 := cell_blk h1 (i := 3) rfl
  clear h1
  have hcw := h5.wt
  have hp' : (p : Int) ≤ (s.size : Int) := by omega
  rcases h5 with ⟨rfl, rfl⟩ | ⟨rfl, t, hl, hc, rfl⟩
  · clear h4 hcw
    go_enter Try.func20, Try.ntmps20
    go_wp2
    go_quiet (fail)
    go_wp2
    go_ret
    refine ⟨ret_str ?_, _, rfl⟩
    exact extract_end s p
  · have hlt : p < s.size := by
      rcases Nat.lt_or_ge p s.size with h | h
      · exact h
      · rw [drop_nil s p h] at hl; cases hl
    rw [drop_cons s p hlt] at hl
    have ht := (List.cons.inj hl).2
    subst ht
    clear hl
    have hw := wid_tab c
    have hplt : (p : Int) + 1 ≤ (s.size : Int) := by omega
    have hr := repeat_any (4 - c % 4) (by omega) (by omega)
    have HR : Hid (∀ w : World, Calls Try.prog 30 #[.string ⟨#[32]⟩, .int .i64 ((4 - c % 4 : Nat) : Int)] w fun e w' => e = .returned (.string ⟨(List.replicate (4 - c % 4) 32).toArray⟩) ∧ w' = w) := hr
    have hww := fun w => width_any 9 c w (by omega)
    rw [hw] at hww
    have HW : Hid (∀ w : World, Calls Try.prog 25 #[.int .u8 9, .int .i64 (c : Int)] w fun e w' => e = .returned (.int .i64 ((4 - c % 4 : Nat) : Int)) ∧ w' = w) := hww
    clear hr hww hw
    have hk4 : 4 - c % 4 ≤ 4 := by omega
    simp only [restR]
    generalize 4 - c % 4 = k at *
    clear hc h4 hcw
    go_enter Try.func20, Try.ntmps20
    go_wp2
    go_quiet (first | (go_at_call 25; exact Calls.quiet_of_same (HW.out _)) | (go_at_call 30; exact Calls.quiet_of_same (HR.out _)))
    go_wp2
    go_ret
    refine ⟨ret_str ?_, _, rfl⟩
    rw [extract_end, cat_eq]
    simp

end Go.Proofs.Ytonlkkpoanlcbaa
