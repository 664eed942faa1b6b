/- The document's bytes and characters in layer 2: Plain, digit, Mark, Put. -/
import Derived.Test.YtebnobhalffalaaEShown
set_option linter.unusedVariables false
namespace Go.Proofs.Ytebnobhalffalaa
open Go.RowKit

set_option maxHeartbeats 2000000 in
theorem refmark_any (c : Nat) (w : World) :
    Calls Try.prog 26 #[.int .i64 (c : Int)] w fun e w' => e = .returned (.bool (markN c)) ∧ w' = w := by
  have hc : c < 33 ∨ (33 ≤ c ∧ c ≤ 47) ∨ (47 < c ∧ c < 58) ∨ (58 ≤ c ∧ c ≤ 64) ∨ (64 < c ∧ c < 91) ∨ (91 ≤ c ∧ c ≤ 96) ∨ (96 < c ∧ c < 123) ∨ (123 ≤ c ∧ c ≤ 126) ∨ 126 < c := by omega
  rcases hc with h | ⟨h, h'⟩ | ⟨h, h'⟩ | ⟨h, h'⟩ | ⟨h, h'⟩ | ⟨h, h'⟩ | ⟨h, h'⟩ | ⟨h, h'⟩ | h
  all_goals
    go_enter Try.func26, Try.ntmps26
    go_wp2
    go_ret
    exact ⟨ret_bool (by unfold markN; rw [Bool.eq_iff_iff]; simp; omega), rfl⟩

set_option maxHeartbeats 1000000 in
theorem refdigit_any (c : Nat) (hc : c ≤ 255) (w : World) :
    Calls Try.prog 33 #[.int .u8 (c : Int)] w fun e w' => e = .returned (.int .i64 (digVN c)) ∧ w' = w := by
  have hcc : c < 48 ∨ (48 ≤ c ∧ c ≤ 57) ∨ (57 < c ∧ c < 65) ∨ (65 ≤ c ∧ c ≤ 70) ∨ (70 < c ∧ c < 97) ∨ (97 ≤ c ∧ c ≤ 102) ∨ 102 < c := by omega
  rcases hcc with h | ⟨h, h'⟩ | ⟨h, h'⟩ | ⟨h, h'⟩ | ⟨h, h'⟩ | ⟨h, h'⟩ | h
  all_goals
    go_enter Try.func33, Try.ntmps33
    go_wp2
    go_ret
    exact ⟨ret_int (by unfold digVN; split; · omega
                       split; · omega
                       split <;> omega), rfl⟩

/-- Is this byte among the marks from place k on? -/
def marksFrom (k : Nat) (c : UInt8) : Bool := (plainMarks.drop k).contains c

theorem mark_byte (k : Nat) (h : k < 20) (h' : k < (ByteArray.mk #[45, 95, 46, 33, 126, 42, 39, 40, 41, 59, 47, 63, 58, 64, 61, 43, 36, 44, 35, 37]).size) (c : UInt8) :
    marksFrom k c = (c == (ByteArray.mk #[45, 95, 46, 33, 126, 42, 39, 40, 41, 59, 47, 63, 58, 64, 61, 43, 36, 44, 35, 37])[k] || marksFrom (k + 1) c) := by
  unfold marksFrom
  have e := drop_byte (ByteArray.mk #[45, 95, 46, 33, 126, 42, 39, 40, 41, 59, 47, 63, 58, 64, 61, 43, 36, 44, 35, 37]) k h'
  have e2 : (ByteArray.mk #[45, 95, 46, 33, 126, 42, 39, 40, 41, 59, 47, 63, 58, 64, 61, 43, 36, 44, 35, 37]).data.toList = plainMarks := rfl
  rw [e2] at e
  rw [e, List.contains_cons]

set_option maxHeartbeats 2000000 in
set_option maxRecDepth 100000 in
theorem plain_any (c : UInt8) (w : World) :
    Calls Try.prog 18 #[.int .u8 (c.toNat : Int)] w fun e w' => e = .returned (.bool (plainB c)) ∧ w' = w := by
  have hpl : plainB c = (letterN c.toNat || digitN c.toNat || marksFrom 0 c) := rfl
  have hc : (97 ≤ c.toNat ∧ c.toNat ≤ 122) ∨ (65 ≤ c.toNat ∧ c.toNat ≤ 90) ∨ (48 ≤ c.toNat ∧ c.toNat ≤ 57) ∨ c.toNat < 48 ∨ (57 < c.toNat ∧ c.toNat < 65) ∨ (90 < c.toNat ∧ c.toNat < 97) ∨ 122 < c.toNat := by omega
  rcases hc with ⟨h, h'⟩ | ⟨h, h'⟩ | ⟨h, h'⟩ | h | ⟨h, h'⟩ | ⟨h, h'⟩ | h
  case inl | inr.inl | inr.inr.inl =>
    have ht : plainB c = true := by
      rw [hpl]
      first | (have h1 : letterN c.toNat = true := by unfold letterN; rw [decide_eq_true_iff]; omega); rw [h1]; rfl | (have h1 : digitN c.toNat = true := by unfold digitN; rw [decide_eq_true_iff]; omega); rw [h1]; simp
    rw [ht]
    clear hpl ht
    go_enter Try.func18, Try.ntmps18
    go_wp2
    go_ret
    exact ⟨rfl, rfl⟩
  all_goals
    have ht : plainB c = marksFrom 0 c := by
      rw [hpl, show letterN c.toNat = false by unfold letterN; rw [decide_eq_false_iff_not]; omega, show digitN c.toNat = false by unfold digitN; rw [decide_eq_false_iff_not]; omega]
      rfl
    rw [ht]
    obtain ⟨b, HB⟩ : ∃ b, Hid (marksFrom 0 c = b) := ⟨_, rfl⟩
    rw [HB.out]
    clear hpl ht
    go_enter Try.func18, Try.ntmps18
    go_wp2
    go_loopw [4] (fun t wr => Hid (w = wr) ∧ ∃ k : Nat, k ≤ 20 ∧ t = .int .i64 (k : Int) ∧ Hid (marksFrom k c = b)) (fun t _ => 20 - (intOf t).toNat)
    case atStart => exact ⟨rfl, 0, by omega, rfl, HB⟩
    case round =>
      obtain ⟨HW, k, hk, rfl, HK⟩ := hrel
      have hW := HW.out
      by_cases hlt : k < 20
      · have hs := mark_byte k hlt hlt c
        by_cases hcc : c = (ByteArray.mk #[45, 95, 46, 33, 126, 42, 39, 40, 41, 59, 47, 63, 58, 64, 61, 43, 36, 44, 35, 37])[k]
        · have hb : b = true := by rw [← HK.out, hs, ← hcc]; simp
          subst hb
          have q : (((ByteArray.mk #[45, 95, 46, 33, 126, 42, 39, 40, 41, 59, 47, 63, 58, 64, 61, 43, 36, 44, 35, 37])[k].toNat : Int) == (c.toNat : Int)) = true := by rw [← hcc]; simp
          subst hW
          clear HK HW HB hs hcc
          go_wp2
          go_ret
          exact ⟨rfl, rfl⟩
        · have HK' : Hid (marksFrom (k + 1) c = b) := by show _ = _; rw [← HK.out, hs, beq_eq_false_iff_ne.2 hcc, Bool.false_or]
          have q : (((ByteArray.mk #[45, 95, 46, 33, 126, 42, 39, 40, 41, 59, 47, 63, 58, 64, 61, 43, 36, 44, 35, 37])[k].toNat : Int) == (c.toNat : Int)) = false := by
            rw [beq_eq_false_iff_ne]
            intro e
            refine hcc (UInt8.toNat_inj.1 ?_)
            omega
          clear HK hs hcc HB
          go_wp2
          go_roundw
          case rel => exact ⟨HW, k + 1, by omega, by go_num, HK'⟩
          case measure => simp [intOf]; omega
      · have hb : b = false := by rw [← HK.out, show k = 20 by omega]; rfl
        subst hb
        subst hW
        clear HK HW HB
        go_wp2
        go_ret
        exact ⟨rfl, rfl⟩

end Go.Proofs.Ytebnobhalffalaa
