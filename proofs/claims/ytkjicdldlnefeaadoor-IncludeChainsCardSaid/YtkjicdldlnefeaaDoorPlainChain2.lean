/- Plain mathematics: rows that are too long, or go in a circle. -/
import Derived.Test.YtkjicdldlnefeaaDoorPlainChain
set_option linter.unusedVariables false
namespace Go.Proofs.YtkjicdldlnefeaaDoor

theorem chT_b (n b i : Nat) : chT n b false i = chT n 0 false i := rfl
theorem chL_b (n b : Nat) : ∀ k, chL n b false k = chL n 0 false k
  | 0 => rfl
  | k + 1 => by show chL n b false k ++ [chP n b false k] = chL n 0 false k ++ [chP n 0 false k]; rw [chL_b n b k]; rfl
theorem ch_ok (n b : Nat) (h1 : 1 ≤ n) (h2 : n ≤ 9) : (chR n b false).1 = rwN n n ∧ (chR n b false).2.1.length = n - 1 ∧ (chR n b false).2.2 = 0 := by
  have := chk_of (ch_ok0 (n - 1) (by omega))
  rw [show n - 1 + 1 = n by omega] at this
  rw [show chR n b false = chR n 0 false by unfold chR; rw [chL_b]]
  exact this
theorem ch_cyc0 : ∀ n < 9, ∀ b < n + 1, chk (chR (n + 1) b true) [] 0 3 = true := by decide +kernel
theorem ch_cyc (n b : Nat) (h1 : 1 ≤ n) (h2 : n ≤ 9) (hb : b < n) : (chR n b true).1 = [] ∧ (chR n b true).2.1.length = 0 ∧ (chR n b true).2.2 = 3 := by
  have := chk_of (ch_cyc0 (n - 1) (by omega) b (by omega))
  rwa [show n - 1 + 1 = n by omega] at this
theorem ch_deep10 (b : Nat) (c : Bool) : chk (chR 10 b c) [] 0 4 = true := by kernel_rfl
theorem ch_deep11 (b : Nat) (c : Bool) : chk (chR 11 b c) [] 0 4 = true := by kernel_rfl
theorem ch_deep12 (b : Nat) (c : Bool) : chk (chR 12 b c) [] 0 4 = true := by kernel_rfl
theorem ch_deep13 (b : Nat) (c : Bool) : chk (chR 13 b c) [] 0 4 = true := by kernel_rfl
theorem ch_deep14 (b : Nat) (c : Bool) : chk (chR 14 b c) [] 0 4 = true := by kernel_rfl
theorem ch_deep15 (b : Nat) (c : Bool) : chk (chR 15 b c) [] 0 4 = true := by kernel_rfl
theorem ch_deep16 (b : Nat) (c : Bool) : chk (chR 16 b c) [] 0 4 = true := by kernel_rfl
theorem ch_deep17 (b : Nat) (c : Bool) : chk (chR 17 b c) [] 0 4 = true := by kernel_rfl
theorem ch_deep18 (b : Nat) (c : Bool) : chk (chR 18 b c) [] 0 4 = true := by kernel_rfl
theorem ch_deep19 (b : Nat) (c : Bool) : chk (chR 19 b c) [] 0 4 = true := by kernel_rfl
theorem ch_deep20 (b : Nat) (c : Bool) : chk (chR 20 b c) [] 0 4 = true := by kernel_rfl
theorem ch_deep (n b : Nat) (c : Bool) (h1 : 9 < n) (h2 : n ≤ 20) : (chR n b c).1 = [] ∧ (chR n b c).2.1.length = 0 ∧ (chR n b c).2.2 = 4 := by
  refine chk_of ?_
  have h : n = 10 ∨ n = 11 ∨ n = 12 ∨ n = 13 ∨ n = 14 ∨ n = 15 ∨ n = 16 ∨ n = 17 ∨ n = 18 ∨ n = 19 ∨ n = 20 := by omega
  rcases h with rfl | rfl | rfl | rfl | rfl | rfl | rfl | rfl | rfl | rfl | rfl
  · exact ch_deep10 b c
  · exact ch_deep11 b c
  · exact ch_deep12 b c
  · exact ch_deep13 b c
  · exact ch_deep14 b c
  · exact ch_deep15 b c
  · exact ch_deep16 b c
  · exact ch_deep17 b c
  · exact ch_deep18 b c
  · exact ch_deep19 b c
  · exact ch_deep20 b c
end Go.Proofs.YtkjicdldlnefeaaDoor
