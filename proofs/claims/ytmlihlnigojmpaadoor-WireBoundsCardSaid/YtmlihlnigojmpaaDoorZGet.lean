/- What reader's Number answers. -/
import Derived.Test.YtmlihlnigojmpaaDoorZBytes
import Derived.Test.YtmlihlnigojmpaaDoorPlainSnap
set_option linter.unusedVariables false
namespace Go.Proofs.YtmlihlnigojmpaaDoor
open Go.RowKit

theorem or_step (k A c : Nat) (hA : A < 2 ^ (7 * k)) (hk : k ≤ 8 ∨ (k = 9 ∧ c % 128 ≤ 1)) : bits BinOp.or IntKind.u64 (A : Int) (IntKind.u64.wrap ((c : Int) % 128 * 2 ^ (7 * k))) = ((A + c % 128 * 2 ^ (7 * k) : Nat) : Int) := by
  have hlt : c % 128 * 2 ^ (7 * k) < 2 ^ 64 := by
    rcases hk with h | ⟨rfl, h⟩
    · have h1 : c % 128 * 2 ^ (7 * k) ≤ 127 * 2 ^ 56 := Nat.mul_le_mul (by omega) (Nat.pow_le_pow_right (by omega) (by omega))
      omega
    · have h1 : c % 128 * 2 ^ (7 * 9) ≤ 1 * 2 ^ 63 := Nat.mul_le_mul h (Nat.le_refl _)
      omega
  have hA2 : A < 2 ^ 64 := by
    have : 2 ^ (7 * k) ≤ 2 ^ 63 := Nat.pow_le_pow_right (by omega) (by omega)
    omega
  have e1 : ((c : Int) % 128 * 2 ^ (7 * k)) = ((c % 128 * 2 ^ (7 * k) : Nat) : Int) := by
    rw [Int.natCast_mul, Int.natCast_pow, Int.natCast_emod]; rfl
  rw [e1, IntKind.wrap_u64, Int.emod_eq_of_lt (by omega) (by omega), bits_or_u64_nat _ _ (by omega) (by omega)]
  congr 1
  rw [Nat.mul_comm (c % 128), Nat.or_comm, ← Nat.two_pow_add_eq_or_of_lt hA]
  omega

set_option maxHeartbeats 2000000 in
set_option maxRecDepth 100000 in
theorem rdnum_any (a : Option Addr) (len cap : Nat) (l : List UInt8) (w : World) (h : BRow w a len cap l) (hm : len ≤ maxLen) :
    Calls Tryd.prog 71 #[.slice a len cap] w fun e w' => e = .returned (.tuple #[.int .u64 ((getN 0 0 l).1 : Int), .int .i64 ((getN 0 0 l).2 : Int)]) ∧ w' = w := by
  obtain ⟨g, hg⟩ : ∃ g, getN 0 0 l = g := ⟨_, rfl⟩
  rw [hg]
  have hl := h.1
  unfold maxLen at hm
  go_enter Tryd.func71, Tryd.ntmps71
  go_wp2
  go_loopw [4, 9] (fun n i wr => Hid (wr = w) ∧ ∃ (k A : Nat), n = .int .u64 A ∧ i = .int .i64 k ∧ k ≤ 9 ∧ k ≤ len ∧ Hid (A < 2 ^ (7 * k)) ∧ Hid (getN k A (l.drop k) = g)) (fun _ i _ => len - (intOf i).toNat)
  case atStart => exact ⟨rfl, 0, 0, rfl, rfl, by omega, by omega, by show 0 < 2 ^ (7 * 0); simp, by show getN 0 0 (l.drop 0) = g; simpa using hg⟩
  case round =>
    obtain ⟨HW, k, A, rfl, rfl, hk9, hkl, HA, HG⟩ := hrel
    by_cases hlt : k < len
    · obtain ⟨x, rfl, hc⟩ := h.at k hlt
      obtain rfl : wr = w := HW
      have hdr : l.drop k = l.getD k 0 :: l.drop (k + 1) := by
        rw [List.drop_eq_getElem_cons (by omega)]
        congr 1
        simp [List.getD_eq_getElem?_getD, hl.symm ▸ hlt]
      generalize l.getD k 0 = cc at hc hdr
      obtain ⟨c, hcc⟩ : ∃ c, cc.toNat = c := ⟨_, rfl⟩
      rw [hcc] at hc
      have hc256 : c < 256 := by have := cc.toNat_lt; omega
      have HG2 := HG.out
      rw [hdr] at HG2
      simp only [getN, hcc] at HG2
      by_cases h9 : k = 9 ∧ 1 < c
      · rw [if_pos h9] at HG2
        obtain ⟨h9, h1⟩ := h9
        have q9 : ((k : Int) == 9) = true := by simp; omega
        subst HG2
        clear HG hdr h9 hk9 HA
        go_wp2
        go_ret2
        exact ⟨rfl, rfl⟩
      · rw [if_neg h9] at HG2
        have hor := or_step k A c HA.out (by omega)
        have hdec : (((k : Int) == 9) && decide ((1 : Int) < (c : Int))) = false := by simp; omega
        have hA2 : A + c % 128 * 2 ^ (7 * k) < 2 ^ (7 * (k + 1)) := by
          have : (c % 128 + 1) * 2 ^ (7 * k) ≤ 128 * 2 ^ (7 * k) := Nat.mul_le_mul_right _ (by omega)
          have := HA.out
          rw [Nat.add_mul] at *
          rw [pow7]; omega
        obtain ⟨A', hA'⟩ : ∃ A', A + c % 128 * 2 ^ (7 * k) = A' := ⟨_, rfl⟩
        rw [hA'] at HG2 hor hA2
        by_cases h128 : 128 ≤ c
        · rw [if_pos h128] at HG2
          have hk8 : ¬ k = 9 := by omega
          have HA3 : Hid (A' < 2 ^ (7 * (k + 1))) := hA2
          have HG3 : Hid (getN (k + 1) A' (l.drop (k + 1)) = g) := HG2
          clear HG hdr HG2 hA2 hA' h9 hdec
          go_wp2
          go_roundw
          case rel => exact ⟨True.intro, k + 1, A', rfl, rfl, by omega, by omega, HA3, HG3⟩
          case measure => simp [intOf]; omega
        · rw [if_neg h128] at HG2
          by_cases h0 : c = 0 ∧ 0 < k
          · rw [if_pos h0] at HG2
            obtain ⟨h0c, h0⟩ := h0
            have qc : ((c : Int) == 0) = true := by simp; omega
            have q1 : decide ((1 : Int) < (c : Int)) = false := by simp; omega
            have q128 : decide ((128 : Int) ≤ (c : Int)) = false := by simp; omega
            have qk : decide ((0 : Int) < (k : Int)) = true := by simp; omega
            subst HG2
            clear HG hdr hA2 hA' HA hdec h0c h9 h128
            by_cases hk9' : k = 9
            · have q9 : ((k : Int) == 9) = true := by simp; omega
              clear hk9'
              go_wp2
              go_ret2
              exact ⟨rfl, rfl⟩
            · have q9 : ((k : Int) == 9) = false := by simp; omega
              clear hk9'
              go_wp2
              go_ret2
              exact ⟨rfl, rfl⟩
          · rw [if_neg h0] at HG2
            subst HG2
            have q1 : k = 9 → decide ((1 : Int) < (c : Int)) = false := by simp; omega
            have q128 : decide ((128 : Int) ≤ (c : Int)) = false := by simp; omega
            have qc : ((c : Int) == 0) = false ∨ (((c : Int) == 0) = true ∧ ¬ (0 < k)) := by simp; omega
            clear HG hdr hA2 hA' HA h9 h128 h0 hdec
            by_cases hk9' : k = 9
            · have q9 : ((k : Int) == 9) = true := by simp; omega
              have q1 := q1 hk9'
              rcases qc with qc | ⟨qc, qd⟩
              · clear hk9'
                go_wp2
                go_ret2
                exact ⟨rfl, rfl⟩
              · omega
            · have q9 : ((k : Int) == 9) = false := by simp; omega
              clear hk9' q1
              rcases qc with qc | ⟨qc, qd⟩
              all_goals
                go_wp2
                go_ret2
                exact ⟨rfl, rfl⟩
    · have HG2 := HG.out
      rw [List.drop_eq_nil_of_le (by omega)] at HG2
      simp only [getN] at HG2
      subst HG2
      obtain rfl : wr = w := HW
      clear HG
      go_wp2
      go_ret2
      exact ⟨rfl, rfl⟩
end Go.Proofs.YtmlihlnigojmpaaDoor
