/- What reader's Text answers. -/
import Derived.Test.YtmlihlnigojmpaaDoorZGet
set_option linter.unusedVariables false
namespace Go.Proofs.YtmlihlnigojmpaaDoor
open Go.RowKit

theorem brow_slice {w : World} {x : Addr} {len cap : Nat} {l : List UInt8} (h : BRow w (some x) len cap l) (a b : Nat) (hab : a ≤ b) (hb : b ≤ len) (cap' : Nat) : BRow w (some (x.add a)) (b - a) cap' ((l.drop a).take (b - a)) := by
  have hl := h.1
  rcases h.2 with ⟨h2, _⟩ | ⟨x', h2, hc⟩
  · cases h2
  · obtain rfl := Option.some.inj h2
    refine ⟨by rw [List.length_take, List.length_drop]; omega, .inr ⟨_, rfl, fun j hj => ?_⟩⟩
    rw [List.length_take, List.length_drop] at hj
    have := hc (a + j) (by omega)
    rw [List.getElem_take, List.getElem_drop]
    rw [← this]
    rw [Addr.add_add]

set_option maxHeartbeats 2000000 in
set_option maxRecDepth 100000 in
theorem rdtext_any (a : Option Addr) (len cap : Nat) (l : List UInt8) (most : Int) (w : World) (h : BRow w a len cap l) (hm : len ≤ 140737488355328) (hcap : len ≤ cap) (hcap2 : cap ≤ 9223372036854775807) (hmo : -9223372036854775808 ≤ most ∧ most ≤ 9223372036854775807) :
    Calls Tryd.prog 83 #[.slice a len cap, .int .i64 most] w fun e w' => e = .returned (.tuple #[.string ⟨(getT l most).1.toArray⟩, .int .i64 ((getT l most).2 : Int)]) ∧ w' = w := by
  have hl := h.1
  have hc := rdnum_any a len cap l w h (by unfold maxLen; omega)
  have hbd := getN_bound l 0 0 (by omega) (by simp)
  obtain ⟨T, hT⟩ : ∃ T, getT l most = T := ⟨_, rfl⟩
  rw [hT]
  unfold getT at hT
  obtain ⟨n, k, hnk⟩ : ∃ n k, getN 0 0 l = (n, k) := ⟨_, _, rfl⟩
  rw [hnk] at hc hT hbd
  dsimp only at hc hT hbd
  rw [hl] at hT
  obtain ⟨hb1, hb2, hb3⟩ := hbd
  have hn64 : n < 18446744073709551616 := hb1
  clear hb1
  go_enter Tryd.func83, Tryd.ntmps83
  go_wp2_with (go_at_call 71; refine hc.mono ?_)
  rintro e w3 ⟨rfl, rfl⟩
  by_cases c1 : k = 0
  · subst c1
    rw [if_pos (Or.inl rfl)] at hT
    subst hT
    go_wp2
    go_ret2
    exact ⟨rfl, rfl⟩
  by_cases c2 : most < 0
  · rw [if_pos (Or.inr (Or.inl c2))] at hT
    subst hT
    go_wp2
    go_ret2
    exact ⟨rfl, rfl⟩
  by_cases c3 : most < (n : Int)
  · rw [if_pos (Or.inr (Or.inr (Or.inl c3)))] at hT
    subst hT
    go_wp2
    go_ret2
    exact ⟨rfl, rfl⟩
  by_cases c4 : len - k < n
  · rw [if_pos (Or.inr (Or.inr (Or.inr c4)))] at hT
    subst hT
    go_wp2
    go_ret2
    exact ⟨rfl, rfl⟩
  rw [if_neg (by omega)] at hT
  subst hT
  obtain ⟨x, rfl, _⟩ := h.at 0 (by omega)
  have hs := (brow_slice h k (k + n) (by omega) (by omega) (cap - k)).string
  rw [show k + n - k = n by omega] at hs
  have q1 : ((k : Int) == 0) = false := by simp; omega
  have q2 : decide (most < 0) = false := by simp; omega
  have q3 : decide (most < (n : Int)) = false := by simp; omega
  have q4 : decide ((len : Int) - (k : Int) < (n : Int)) = false := by simp; omega
  by_cases q5 : cap = k
  · obtain rfl : n = 0 := by omega
    have hs0 := (show BRow w3 (some x) 0 0 [] from ⟨rfl, .inr ⟨x, rfl, fun j hj => by simp at hj⟩⟩).string
    subst q5
    clear hs
    go_wp2
    go_ret2
    exact ⟨rfl, rfl⟩
  · have q6 : ¬ cap - k = 0 := by omega
    go_wp2
    go_ret2
    exact ⟨rfl, rfl⟩
end Go.Proofs.YtmlihlnigojmpaaDoor
