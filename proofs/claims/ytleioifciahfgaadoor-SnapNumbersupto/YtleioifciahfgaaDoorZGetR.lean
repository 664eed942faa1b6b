/- The document's GetNumber: the same. -/
import Derived.Test.YtleioifciahfgaaDoorZText
set_option linter.unusedVariables false
namespace Go.Proofs.YtleioifciahfgaaDoor
open Go.RowKit

set_option maxHeartbeats 2000000 in
set_option maxRecDepth 100000 in
theorem rgetnum_any (a : Option Addr) (len cap : Nat) (l : List UInt8) (w : World) (h : BRow w a len cap l) (hm : len ≤ maxLen) :
    Calls Tryd.prog 7 #[.slice a len cap] w fun e w' => e = .returned (.tuple #[.int .u64 ((getN 0 0 l).1 : Int), .int .i64 ((getN 0 0 l).2 : Int)]) ∧ w' = w := by
  obtain ⟨g, hg⟩ : ∃ g, getN 0 0 l = g := ⟨_, rfl⟩
  rw [hg]
  have hl := h.1
  unfold maxLen at hm
  go_enter Tryd.func7, Tryd.ntmps7
  go_wp2
  go_loopw [4, 5] (fun n i wr => Hid (wr = w) ∧ ∃ (k A : Nat), n = .int .u64 A ∧ i = .int .i64 k ∧ k ≤ 10 ∧ k ≤ len ∧ Hid ((k ≤ 9 ∧ A < 2 ^ (7 * k) ∧ getN k A (l.drop k) = g) ∨ (k = 10 ∧ g = (0, 0)))) (fun _ i _ => len - (intOf i).toNat)
  case atStart => exact ⟨rfl, 0, 0, rfl, rfl, by omega, by omega, .inl ⟨by omega, by simp, by simpa using hg⟩⟩
  case round =>
    obtain ⟨HW, k, A, rfl, rfl, hk10, hkl, HH⟩ := hrel
    obtain rfl : wr = w := HW
    have HH2 := HH.out
    clear HH
    by_cases hlt : k < len ∧ k < 10
    · obtain ⟨hlt, hlt10⟩ := hlt
      rcases HH2 with ⟨hk9, HA, HG2⟩ | ⟨h10, _⟩
      case inr => omega
      obtain ⟨x, rfl, hc⟩ := h.at k hlt
      have hdr : l.drop k = l.getD k 0 :: l.drop (k + 1) := by
        rw [List.drop_eq_getElem_cons (by omega)]
        congr 1
        simp [List.getD_eq_getElem?_getD, hl.symm ▸ hlt]
      generalize l.getD k 0 = cc at hc hdr
      obtain ⟨c, hcc⟩ : ∃ c, cc.toNat = c := ⟨_, rfl⟩
      rw [hcc] at hc
      have hc256 : c < 256 := by have := cc.toNat_lt; omega
      rw [hdr] at HG2
      simp only [getN, hcc] at HG2
      clear hdr hk10
      by_cases hb : k = 9 ∧ 1 < c % 128
      · rw [if_pos (by omega)] at HG2
        subst HG2
        obtain ⟨h9, h1⟩ := hb
        have q9 : ((k : Int) == 9) = true := by simp; omega
        have q1 : decide ((1 : Int) < (c : Int) % 128) = true := by simp; omega
        clear h9 HA
        go_wp2
        go_ret2
        exact ⟨rfl, rfl⟩
      have hor := or_step k A c HA (by omega)
      have hA2 : A + c % 128 * 2 ^ (7 * k) < 2 ^ (7 * (k + 1)) := by
        have : (c % 128 + 1) * 2 ^ (7 * k) ≤ 128 * 2 ^ (7 * k) := Nat.mul_le_mul_right _ (by omega)
        rw [Nat.add_mul] at this
        rw [pow7]; omega
      obtain ⟨A', hA'⟩ : ∃ A', A + c % 128 * 2 ^ (7 * k) = A' := ⟨_, rfl⟩
      rw [hA'] at HG2 hor hA2
      have q9 : (((k : Int) == 9) = true ∧ decide ((1 : Int) < (c : Int) % 128) = false) ∨ ((k : Int) == 9) = false := by simp; omega
      by_cases h128 : 128 ≤ c
      · have HH3 : Hid ((k + 1 ≤ 9 ∧ A' < 2 ^ (7 * (k + 1)) ∧ getN (k + 1) A' (l.drop (k + 1)) = g) ∨ (k + 1 = 10 ∧ g = (0, 0))) := by
          by_cases h9 : k = 9
          · rw [if_pos (by omega)] at HG2
            exact .inr ⟨by omega, HG2.symm⟩
          · rw [if_neg (by omega), if_pos h128] at HG2
            exact .inl ⟨by omega, hA2, HG2⟩
        clear HG2 hA2 hA' hb HA
        rcases q9 with ⟨q9, q1⟩ | q9
        all_goals
          go_wp2
          go_roundw
          case rel => exact ⟨True.intro, k + 1, A', rfl, rfl, by omega, by omega, HH3⟩
          case measure => simp [intOf]; omega
      · rw [if_neg (by omega), if_neg h128] at HG2
        by_cases h0 : c = 0 ∧ 0 < k
        · rw [if_pos h0] at HG2
          obtain ⟨h0c, h0⟩ := h0
          have qc : ((c : Int) == 0) = true := by simp; omega
          have q128 : decide ((128 : Int) ≤ (c : Int)) = false := by simp; omega
          subst HG2
          clear hA2 hA' HA h0c h128 hb
          rcases q9 with ⟨q9, q1⟩ | q9
          all_goals
            go_wp2
            go_ret2
            exact ⟨rfl, rfl⟩
        · rw [if_neg h0] at HG2
          subst HG2
          have q128 : decide ((128 : Int) ≤ (c : Int)) = false := by simp; omega
          have qc : (((c : Int) == 0) = false ∧ 0 < k) ∨ ¬ (0 < k) := by simp; omega
          clear hA2 hA' HA h128 h0 hb
          rcases q9 with ⟨q9, q1⟩ | q9
          all_goals
            rcases qc with ⟨qc, qd⟩ | qd
            all_goals
              go_wp2
              go_ret2
              exact ⟨rfl, rfl⟩
    · have hg0 : g = (0, 0) := by
        rcases HH2 with ⟨hk9, HA, HG2⟩ | ⟨_, h10⟩
        · rw [List.drop_eq_nil_of_le (by omega)] at HG2
          simp only [getN] at HG2
          exact HG2.symm
        · exact h10
      subst hg0
      clear HH2
      have hcase : ¬ k < len ∨ (k < len ∧ ¬ k < 10) := by omega
      clear hlt
      rcases hcase with h1 | ⟨h1, h2⟩
      all_goals
        go_wp2
        go_ret2
        exact ⟨rfl, rfl⟩
end Go.Proofs.YtleioifciahfgaaDoor
