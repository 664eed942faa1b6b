/- DiskArms, walked. -/
import Derived.Test.YtmkgaegodemglaaDCls
import Derived.Test.YtmkgaegodemglaaPlainArms
set_option linter.unusedVariables false
namespace Go.Proofs.Ytmkgaegodemglaa
open Go.RowKit

theorem byte_of (k : Nat) (h : k < 256) : ((UInt8.ofNat k).toNat : Int) = (k : Int) := by
  rw [UInt8.toNat_ofNat']
  omega

set_option maxHeartbeats 4000000 in
set_option maxRecDepth 20000 in
theorem warms (deeds : Int) (hd : -9223372036854775808 ≤ deeds ∧ deeds ≤ 9223372036854775807) (after : Int) (hn : -9223372036854775808 ≤ after ∧ after ≤ 9223372036854775807)
    (keep : Nat) (hk : keep < 18446744073709551616) (w : World) :
    Calls Try.prog 8 #[.int .i64 deeds, .int .i64 after, .int .u64 (keep : Int)] w fun e w' => e = .returned (.bool true) ∧ Below w.heap.size w w' := by
  have HK : Hid (keep < 18446744073709551616) := hk
  clear hk
  by_cases hs : deeds < 0
  · have qd : decide (deeds < 0) = true := by simpa using hs
    obtain ⟨D, hD⟩ : ∃ D : Nat, -(deeds + 1) = (D : Int) := ⟨(-(deeds + 1)).toNat, by omega⟩
    have jD : (D : Int) ≤ 9223372036854775807 := by omega
    have jd1 : -9223372036854775808 ≤ deeds + 1 := by omega
    have jd2 : deeds + 1 ≤ 9223372036854775807 := by omega
    obtain ⟨G, hG⟩ : ∃ G : Nat, G = D % 60 := ⟨_, rfl⟩
    have hG6 : G < 60 := by rw [hG]; omega
    have hmD : (D : Int).tmod 60 = (G : Int) := by rw [hG, Int.tmod_eq_emod_of_nonneg (by omega)]; norm_cast
    have jG : (G : Int) ≤ 59 := by omega
    clear hG
    by_cases h1 : after = -1
    · subst h1
      clear hn
      obtain ⟨A, hA⟩ : ∃ A : Int, A = -1 := ⟨_, rfl⟩
      have HA : Hid (A = -1) := hA
      clear hA
      go_enter Try.func8, Try.ntmps8
      go_wp2_with (fail)
      refine (shown_any w).mono ?_
      rintro e w1 ⟨rfl, hb1⟩
      go_wp2_with (fail)
      refine (newL hb1 1099511627776 (by omega)).mono ?_
      rintro e w2 ⟨b, m, S1, rfl, hL⟩
      have L2 : Hid (Lv w w2 b m S1 (newD 1099511627776)) := hL
      clear hL hb1
      go_wp2_with (fail)
      refine (armL L2.out (-1) (by omega) keep HK.out).mono ?_
      rintro e w3 ⟨rfl, hL, _⟩
      have R3 : Hid (ArmR A 0 (armD (newD 1099511627776) (-1) keep)) := by have := arm_start A keep (by rw [HA.out]; omega); rwa [HA.out] at this ⊢
      generalize armD (newD 1099511627776) (-1) keep = D3 at *
      have L3 : Hid (Lv w w3 b m S1 D3) := hL
      clear hL
      go_wp2_with (fail)
      go_loopw [9] (fun i wr => ∃ (k : Nat) (S : Nat → Prop) (d : Dk), i = .int .i64 (k : Int) ∧ k ≤ G ∧ Hid (ArmR A k d) ∧ Hid (Lv w wr b m S d)) (fun i _ => G - (intOf i).toNat)
      case atStart => exact ⟨0, S1, D3, rfl, Nat.zero_le _, R3, L3⟩
      case round =>
        obtain ⟨k, S, d, rfl, hkG, HR, HL⟩ := hrel
        by_cases hlt : k < G
        · have dlt : decide ((k : Int) < (G : Int)) = true := by simpa using hlt
          have hlt' : (k : Int) < (G : Int) := by omega
          have hus := arm_used HR.out (by rw [HA.out]; omega)
          have HUS : Hid (usedL d.files ≤ k + 100 ∧ d.files.length ≤ 1) := hus
          clear hus
          by_cases hev : k % 2 = 0
          · have hm2 : (k : Int).tmod 2 = 0 := by rw [Int.tmod_eq_emod_of_nonneg (by omega)]; omega
            have hu8 : IntKind.u8.wrap (k : Int) = (k : Int) := by rw [IntKind.wrap_u8]; omega
            have P := arm_app HR.out hev (by omega) (UInt8.ofNat k)
            clear hev
            have hok : armOk A k := .inl (by rw [HA.out]; omega)
            have HC : Hid ((appendP d nF [UInt8.ofNat k]).1 = 0) := P.1 hok
            have HR2 : Hid (ArmR A (k + 1) (appendP d nF [UInt8.ofNat k]).2) := P.2.2.1
            have HUP : Hid ((appendP d nF [UInt8.ofNat k]).2.up = true) := P.2.2.2.1 hok
            clear P
            go_wp2_with (fail)
            refine (appendL (HL.out.alloc _) nF (by decide) (brow_one wr (k : Int) (UInt8.ofNat k) (byte_of k (by omega)).symm 1) (by have := HUS.out; simp only [List.length_cons, List.length_nil]; omega) (by have := HUS.out; omega)).mono ?_
            rintro e w5 ⟨rfl, S5, hL, _⟩
            rw [HC.out]
            have L5 : Hid (Lv w w5 b m S5 (appendP d nF [UInt8.ofNat k]).2) := hL
            clear hL
            go_wp2_with (fail)
            refine (upL L5.out).mono ?_
            rintro e w6 ⟨rfl, hw⟩
            subst w6
            rw [HUP.out]
            go_wp2_with (fail)
            go_roundw
            case rel => exact ⟨k + 1, S5, _, by go_num, by omega, HR2, L5⟩
            case measure => simp [intOf]; omega
          · have hm2 : (k : Int).tmod 2 = 1 := by rw [Int.tmod_eq_emod_of_nonneg (by omega)]; omega
            have P := arm_sync HR.out (by omega) (by omega)
            clear hev
            have hok : armOk A k := .inl (by rw [HA.out]; omega)
            have HC : Hid ((syncP d nF).1 = 0) := P.1 hok
            have HR2 : Hid (ArmR A (k + 1) (syncP d nF).2) := P.2.2.1
            have HUP : Hid ((syncP d nF).2.up = true) := P.2.2.2.1 hok
            clear P
            go_wp2_with (fail)
            refine (syncL HL.out nF (by decide)).mono ?_
            rintro e w5 ⟨rfl, hL, _⟩
            rw [HC.out]
            have L5 : Hid (Lv w w5 b m S (syncP d nF).2) := hL
            clear hL
            go_wp2_with (fail)
            refine (upL L5.out).mono ?_
            rintro e w6 ⟨rfl, hw⟩
            subst w6
            rw [HUP.out]
            go_wp2_with (fail)
            go_roundw
            case rel => exact ⟨k + 1, S, _, by go_num, by omega, HR2, L5⟩
            case measure => simp [intOf]; omega
        · have dlt : decide ((k : Int) < (G : Int)) = false := by simpa using hlt
          have hge : ¬ (k : Int) < (G : Int) := by omega
          have hkG2 : k = G := by omega
          have HR2 : Hid (ArmR A G d) := by show ArmR _ _ _; rw [← hkG2]; exact HR.out
          clear hkG2 HR
          go_wp2_with (fail)
          refine (startL HL.out).mono ?_
          rintro e w4 ⟨rfl, hL, _⟩
          have L4 : Hid (Lv w w4 b m S (startD d)) := hL
          clear hL
          have hend := arm_end HR2.out
          rw [HA.out] at hend
          generalize hT : (theF (startD d) nF).bs.length = T at *
          go_wp2_with (fail)
          refine (readL L4.out nF (by decide)).mono ?_
          rintro e w5 ⟨a5, c5, rfl, _, hL, _⟩
          rw [hT]
          generalize findV (startD d) nF = E5
          have B5 : Hid (Below w.heap.size w w5) := hL.below
          clear hL hT
          rw [if_neg (by omega)] at hend
          obtain ⟨d2, hd2⟩ : ∃ d2 : Nat, d2 = G / 2 := ⟨_, rfl⟩
          obtain ⟨d3, hd3⟩ : ∃ d3 : Nat, d3 = (G + 1) / 2 := ⟨_, rfl⟩
          have t1 : (G : Int).tdiv 2 = (d2 : Int) := by rw [hd2, Int.tdiv_eq_ediv_of_nonneg (by omega)]; norm_cast
          have t2 : ((G : Int) + 1).tdiv 2 = (d3 : Int) := by rw [hd3, Int.tdiv_eq_ediv_of_nonneg (by omega)]; norm_cast
          have u1 : decide ((d2 : Int) ≤ (T : Int)) = true := by simp; omega
          have u2 : decide ((T : Int) ≤ (d3 : Int) + 1) = true := by simp; omega
          have u1' : (d2 : Int) ≤ (T : Int) := by omega
          have u2' : (T : Int) ≤ (d3 : Int) + 1 := by omega
          have u3 : (d2 : Int) ≤ 1000 := by omega
          have u4 : (d3 : Int) ≤ 1000 := by omega
          have u5 : (T : Int) ≤ 1000 := by omega
          clear hend hd2 hd3
          go_wp2_with (fail)
          go_ret
          exact ⟨by first | rfl | (refine ret_bool ?_; simp; omega), B5.out⟩
    · by_cases h2 : after < -1
      · have q2 : decide (after < -1) = true := by simpa using h2
        obtain ⟨B, hB⟩ : ∃ B : Nat, wrap64 (wrap64 (-after) - 1) = (B : Int) ∧ (B : Int) ≤ 9223372036854775807 := by
          by_cases h3 : after = -9223372036854775808
          · subst h3
            exact ⟨9223372036854775807, by rw [← IntWalk.i64_left, ← IntWalk.i64_left]; decide, by decide⟩
          · refine ⟨(-after - 1).toNat, ?_, by omega⟩
            rw [← IntWalk.i64_left, ← IntWalk.i64_left, IntWalk.i64_in (-after) (by omega), IntWalk.i64_in (-after - 1) (by omega)]
            omega
        obtain ⟨hB, jB⟩ := hB
        clear hn h1 h2
        obtain ⟨r, hr⟩ : ∃ r : Nat, r = B % 80 := ⟨_, rfl⟩
        have hr8 : r < 80 := by rw [hr]; omega
        have hmB : (B : Int).tmod 80 = (r : Int) := by rw [hr, Int.tmod_eq_emod_of_nonneg (by omega)]; norm_cast
        have jr : (r : Int) ≤ 79 := by omega
        have jr0 : (0 : Int) ≤ (r : Int) := by omega
        clear hr
        obtain ⟨A, hA⟩ : ∃ A : Int, A = (r : Int) := ⟨_, rfl⟩
        have HA : Hid (A = (r : Int)) := hA
        clear hA
        go_enter Try.func8, Try.ntmps8
        go_wp2_with (fail)
        refine (shown_any w).mono ?_
        rintro e w1 ⟨rfl, hb1⟩
        go_wp2_with (fail)
        refine (newL hb1 1099511627776 (by omega)).mono ?_
        rintro e w2 ⟨b, m, S1, rfl, hL⟩
        have L2 : Hid (Lv w w2 b m S1 (newD 1099511627776)) := hL
        clear hL hb1
        go_wp2_with (fail)
        refine (armL L2.out ((r : Int)) (by omega) keep HK.out).mono ?_
        rintro e w3 ⟨rfl, hL, _⟩
        have R3 : Hid (ArmR A 0 (armD (newD 1099511627776) ((r : Int)) keep)) := by have := arm_start A keep (by rw [HA.out]; omega); rwa [HA.out] at this ⊢
        generalize armD (newD 1099511627776) ((r : Int)) keep = D3 at *
        have L3 : Hid (Lv w w3 b m S1 D3) := hL
        clear hL
        go_wp2_with (fail)
        go_loopw [9] (fun i wr => ∃ (k : Nat) (S : Nat → Prop) (d : Dk), i = .int .i64 (k : Int) ∧ k ≤ G ∧ Hid (ArmR A k d) ∧ Hid (Lv w wr b m S d)) (fun i _ => G - (intOf i).toNat)
        case atStart => exact ⟨0, S1, D3, rfl, Nat.zero_le _, R3, L3⟩
        case round =>
          obtain ⟨k, S, d, rfl, hkG, HR, HL⟩ := hrel
          by_cases hlt : k < G
          · have dlt : decide ((k : Int) < (G : Int)) = true := by simpa using hlt
            have hlt' : (k : Int) < (G : Int) := by omega
            have hus := arm_used HR.out (by rw [HA.out]; omega)
            have HUS : Hid (usedL d.files ≤ k + 100 ∧ d.files.length ≤ 1) := hus
            clear hus
            by_cases hev : k % 2 = 0
            · have hm2 : (k : Int).tmod 2 = 0 := by rw [Int.tmod_eq_emod_of_nonneg (by omega)]; omega
              have hu8 : IntKind.u8.wrap (k : Int) = (k : Int) := by rw [IntKind.wrap_u8]; omega
              have P := arm_app HR.out hev (by omega) (UInt8.ofNat k)
              clear hev
              by_cases hc : k < r
              · have hok : armOk A k := .inr (by rw [HA.out]; omega)
                have hkr : (k : Int) < (r : Int) := by omega
                have dkr : decide ((k : Int) < (r : Int)) = true := by simpa using hc
                have HC : Hid ((appendP d nF [UInt8.ofNat k]).1 = 0) := P.1 hok
                have HR2 : Hid (ArmR A (k + 1) (appendP d nF [UInt8.ofNat k]).2) := P.2.2.1
                have HUP : Hid ((appendP d nF [UInt8.ofNat k]).2.up = true) := P.2.2.2.1 hok
                clear P
                go_wp2_with (fail)
                refine (appendL (HL.out.alloc _) nF (by decide) (brow_one wr (k : Int) (UInt8.ofNat k) (byte_of k (by omega)).symm 1) (by have := HUS.out; simp only [List.length_cons, List.length_nil]; omega) (by have := HUS.out; omega)).mono ?_
                rintro e w5 ⟨rfl, S5, hL, _⟩
                rw [HC.out]
                have L5 : Hid (Lv w w5 b m S5 (appendP d nF [UInt8.ofNat k]).2) := hL
                clear hL
                go_wp2_with (fail)
                refine (upL L5.out).mono ?_
                rintro e w6 ⟨rfl, hw⟩
                subst w6
                rw [HUP.out]
                go_wp2_with (fail)
                go_roundw
                case rel => exact ⟨k + 1, S5, _, by go_num, by omega, HR2, L5⟩
                case measure => simp [intOf]; omega
              · have hok : ¬ armOk A k := by unfold armOk; rw [HA.out]; omega
                have hkr : ¬ (k : Int) < (r : Int) := by omega
                have dkr : decide ((k : Int) < (r : Int)) = false := by simpa using hc
                have HC : Hid ((appendP d nF [UInt8.ofNat k]).1 = 13) := P.2.1 hok
                have HR2 : Hid (ArmR A (k + 1) (appendP d nF [UInt8.ofNat k]).2) := P.2.2.1
                have HUP : Hid ((appendP d nF [UInt8.ofNat k]).2.up = false) := by show _ = _; cases hc : (appendP d nF [UInt8.ofNat k]).2.up with
                  | false => rfl
                  | true => exact absurd (P.2.2.2.2 hc) hok
                clear P
                go_wp2_with (fail)
                refine (appendL (HL.out.alloc _) nF (by decide) (brow_one wr (k : Int) (UInt8.ofNat k) (byte_of k (by omega)).symm 1) (by have := HUS.out; simp only [List.length_cons, List.length_nil]; omega) (by have := HUS.out; omega)).mono ?_
                rintro e w5 ⟨rfl, S5, hL, _⟩
                rw [HC.out]
                have L5 : Hid (Lv w w5 b m S5 (appendP d nF [UInt8.ofNat k]).2) := hL
                clear hL
                go_wp2_with (fail)
                refine (upL L5.out).mono ?_
                rintro e w6 ⟨rfl, hw⟩
                subst w6
                rw [HUP.out]
                go_wp2_with (fail)
                go_roundw
                case rel => exact ⟨k + 1, S5, _, by go_num, by omega, HR2, L5⟩
                case measure => simp [intOf]; omega
            · have hm2 : (k : Int).tmod 2 = 1 := by rw [Int.tmod_eq_emod_of_nonneg (by omega)]; omega
              have P := arm_sync HR.out (by omega) (by omega)
              clear hev
              by_cases hc : k < r
              · have hok : armOk A k := .inr (by rw [HA.out]; omega)
                have hkr : (k : Int) < (r : Int) := by omega
                have dkr : decide ((k : Int) < (r : Int)) = true := by simpa using hc
                have HC : Hid ((syncP d nF).1 = 0) := P.1 hok
                have HR2 : Hid (ArmR A (k + 1) (syncP d nF).2) := P.2.2.1
                have HUP : Hid ((syncP d nF).2.up = true) := P.2.2.2.1 hok
                clear P
                go_wp2_with (fail)
                refine (syncL HL.out nF (by decide)).mono ?_
                rintro e w5 ⟨rfl, hL, _⟩
                rw [HC.out]
                have L5 : Hid (Lv w w5 b m S (syncP d nF).2) := hL
                clear hL
                go_wp2_with (fail)
                refine (upL L5.out).mono ?_
                rintro e w6 ⟨rfl, hw⟩
                subst w6
                rw [HUP.out]
                go_wp2_with (fail)
                go_roundw
                case rel => exact ⟨k + 1, S, _, by go_num, by omega, HR2, L5⟩
                case measure => simp [intOf]; omega
              · have hok : ¬ armOk A k := by unfold armOk; rw [HA.out]; omega
                have hkr : ¬ (k : Int) < (r : Int) := by omega
                have dkr : decide ((k : Int) < (r : Int)) = false := by simpa using hc
                have HC : Hid ((syncP d nF).1 = 13) := P.2.1 hok
                have HR2 : Hid (ArmR A (k + 1) (syncP d nF).2) := P.2.2.1
                have HUP : Hid ((syncP d nF).2.up = false) := by show _ = _; cases hc : (syncP d nF).2.up with
                  | false => rfl
                  | true => exact absurd (P.2.2.2.2 hc) hok
                clear P
                go_wp2_with (fail)
                refine (syncL HL.out nF (by decide)).mono ?_
                rintro e w5 ⟨rfl, hL, _⟩
                rw [HC.out]
                have L5 : Hid (Lv w w5 b m S (syncP d nF).2) := hL
                clear hL
                go_wp2_with (fail)
                refine (upL L5.out).mono ?_
                rintro e w6 ⟨rfl, hw⟩
                subst w6
                rw [HUP.out]
                go_wp2_with (fail)
                go_roundw
                case rel => exact ⟨k + 1, S, _, by go_num, by omega, HR2, L5⟩
                case measure => simp [intOf]; omega
          · have dlt : decide ((k : Int) < (G : Int)) = false := by simpa using hlt
            have hge : ¬ (k : Int) < (G : Int) := by omega
            have hkG2 : k = G := by omega
            have HR2 : Hid (ArmR A G d) := by show ArmR _ _ _; rw [← hkG2]; exact HR.out
            clear hkG2 HR
            go_wp2_with (fail)
            refine (startL HL.out).mono ?_
            rintro e w4 ⟨rfl, hL, _⟩
            have L4 : Hid (Lv w w4 b m S (startD d)) := hL
            clear hL
            have hend := arm_end HR2.out
            rw [HA.out] at hend
            generalize hT : (theF (startD d) nF).bs.length = T at *
            go_wp2_with (fail)
            refine (readL L4.out nF (by decide)).mono ?_
            rintro e w5 ⟨a5, c5, rfl, _, hL, _⟩
            rw [hT]
            generalize findV (startD d) nF = E5
            have B5 : Hid (Below w.heap.size w w5) := hL.below
            clear hL hT
            rw [if_pos (by omega)] at hend
            obtain ⟨M, hM⟩ : ∃ M : Nat, M = min G r := ⟨_, rfl⟩
            have hM2 : min (G : Int) (r : Int) = (M : Int) := by rw [hM]; omega
            rw [hM2] at hend
            obtain ⟨d2, hd2⟩ : ∃ d2 : Nat, d2 = M / 2 := ⟨_, rfl⟩
            obtain ⟨d3, hd3⟩ : ∃ d3 : Nat, d3 = (M + 1) / 2 := ⟨_, rfl⟩
            have hMG : (M : Int) ≤ 59 := by omega
            have t1 : (M : Int).tdiv 2 = (d2 : Int) := by rw [hd2, Int.tdiv_eq_ediv_of_nonneg (by omega)]; norm_cast
            have t2 : ((M : Int) + 1).tdiv 2 = (d3 : Int) := by rw [hd3, Int.tdiv_eq_ediv_of_nonneg (by omega)]; norm_cast
            have u1 : decide ((d2 : Int) ≤ (T : Int)) = true := by simp; omega
            have u2 : decide ((T : Int) ≤ (d3 : Int) + 1) = true := by simp; omega
            have u1' : (d2 : Int) ≤ (T : Int) := by omega
            have u2' : (T : Int) ≤ (d3 : Int) + 1 := by omega
            have u3 : (d2 : Int) ≤ 1000 := by omega
            have u4 : (d3 : Int) ≤ 1000 := by omega
            have u5 : (T : Int) ≤ 1000 := by omega
            clear hend hd2 hd3 hM
            go_wp2_with (fail)
            go_ret
            exact ⟨by first | rfl | (refine ret_bool ?_; simp; omega), B5.out⟩
      · have q2 : decide (after < -1) = false := by simpa using h2
        obtain ⟨B, hB⟩ : ∃ B : Nat, after = (B : Int) := ⟨after.toNat, by omega⟩
        subst hB
        have jB : (B : Int) ≤ 9223372036854775807 := by omega
        clear hn h1 h2
        obtain ⟨r, hr⟩ : ∃ r : Nat, r = B % 80 := ⟨_, rfl⟩
        have hr8 : r < 80 := by rw [hr]; omega
        have hmB : (B : Int).tmod 80 = (r : Int) := by rw [hr, Int.tmod_eq_emod_of_nonneg (by omega)]; norm_cast
        have jr : (r : Int) ≤ 79 := by omega
        have jr0 : (0 : Int) ≤ (r : Int) := by omega
        clear hr
        obtain ⟨A, hA⟩ : ∃ A : Int, A = (r : Int) := ⟨_, rfl⟩
        have HA : Hid (A = (r : Int)) := hA
        clear hA
        go_enter Try.func8, Try.ntmps8
        go_wp2_with (fail)
        refine (shown_any w).mono ?_
        rintro e w1 ⟨rfl, hb1⟩
        go_wp2_with (fail)
        refine (newL hb1 1099511627776 (by omega)).mono ?_
        rintro e w2 ⟨b, m, S1, rfl, hL⟩
        have L2 : Hid (Lv w w2 b m S1 (newD 1099511627776)) := hL
        clear hL hb1
        go_wp2_with (fail)
        refine (armL L2.out ((r : Int)) (by omega) keep HK.out).mono ?_
        rintro e w3 ⟨rfl, hL, _⟩
        have R3 : Hid (ArmR A 0 (armD (newD 1099511627776) ((r : Int)) keep)) := by have := arm_start A keep (by rw [HA.out]; omega); rwa [HA.out] at this ⊢
        generalize armD (newD 1099511627776) ((r : Int)) keep = D3 at *
        have L3 : Hid (Lv w w3 b m S1 D3) := hL
        clear hL
        go_wp2_with (fail)
        go_loopw [9] (fun i wr => ∃ (k : Nat) (S : Nat → Prop) (d : Dk), i = .int .i64 (k : Int) ∧ k ≤ G ∧ Hid (ArmR A k d) ∧ Hid (Lv w wr b m S d)) (fun i _ => G - (intOf i).toNat)
        case atStart => exact ⟨0, S1, D3, rfl, Nat.zero_le _, R3, L3⟩
        case round =>
          obtain ⟨k, S, d, rfl, hkG, HR, HL⟩ := hrel
          by_cases hlt : k < G
          · have dlt : decide ((k : Int) < (G : Int)) = true := by simpa using hlt
            have hlt' : (k : Int) < (G : Int) := by omega
            have hus := arm_used HR.out (by rw [HA.out]; omega)
            have HUS : Hid (usedL d.files ≤ k + 100 ∧ d.files.length ≤ 1) := hus
            clear hus
            by_cases hev : k % 2 = 0
            · have hm2 : (k : Int).tmod 2 = 0 := by rw [Int.tmod_eq_emod_of_nonneg (by omega)]; omega
              have hu8 : IntKind.u8.wrap (k : Int) = (k : Int) := by rw [IntKind.wrap_u8]; omega
              have P := arm_app HR.out hev (by omega) (UInt8.ofNat k)
              clear hev
              by_cases hc : k < r
              · have hok : armOk A k := .inr (by rw [HA.out]; omega)
                have hkr : (k : Int) < (r : Int) := by omega
                have dkr : decide ((k : Int) < (r : Int)) = true := by simpa using hc
                have HC : Hid ((appendP d nF [UInt8.ofNat k]).1 = 0) := P.1 hok
                have HR2 : Hid (ArmR A (k + 1) (appendP d nF [UInt8.ofNat k]).2) := P.2.2.1
                have HUP : Hid ((appendP d nF [UInt8.ofNat k]).2.up = true) := P.2.2.2.1 hok
                clear P
                go_wp2_with (fail)
                refine (appendL (HL.out.alloc _) nF (by decide) (brow_one wr (k : Int) (UInt8.ofNat k) (byte_of k (by omega)).symm 1) (by have := HUS.out; simp only [List.length_cons, List.length_nil]; omega) (by have := HUS.out; omega)).mono ?_
                rintro e w5 ⟨rfl, S5, hL, _⟩
                rw [HC.out]
                have L5 : Hid (Lv w w5 b m S5 (appendP d nF [UInt8.ofNat k]).2) := hL
                clear hL
                go_wp2_with (fail)
                refine (upL L5.out).mono ?_
                rintro e w6 ⟨rfl, hw⟩
                subst w6
                rw [HUP.out]
                go_wp2_with (fail)
                go_roundw
                case rel => exact ⟨k + 1, S5, _, by go_num, by omega, HR2, L5⟩
                case measure => simp [intOf]; omega
              · have hok : ¬ armOk A k := by unfold armOk; rw [HA.out]; omega
                have hkr : ¬ (k : Int) < (r : Int) := by omega
                have dkr : decide ((k : Int) < (r : Int)) = false := by simpa using hc
                have HC : Hid ((appendP d nF [UInt8.ofNat k]).1 = 13) := P.2.1 hok
                have HR2 : Hid (ArmR A (k + 1) (appendP d nF [UInt8.ofNat k]).2) := P.2.2.1
                have HUP : Hid ((appendP d nF [UInt8.ofNat k]).2.up = false) := by show _ = _; cases hc : (appendP d nF [UInt8.ofNat k]).2.up with
                  | false => rfl
                  | true => exact absurd (P.2.2.2.2 hc) hok
                clear P
                go_wp2_with (fail)
                refine (appendL (HL.out.alloc _) nF (by decide) (brow_one wr (k : Int) (UInt8.ofNat k) (byte_of k (by omega)).symm 1) (by have := HUS.out; simp only [List.length_cons, List.length_nil]; omega) (by have := HUS.out; omega)).mono ?_
                rintro e w5 ⟨rfl, S5, hL, _⟩
                rw [HC.out]
                have L5 : Hid (Lv w w5 b m S5 (appendP d nF [UInt8.ofNat k]).2) := hL
                clear hL
                go_wp2_with (fail)
                refine (upL L5.out).mono ?_
                rintro e w6 ⟨rfl, hw⟩
                subst w6
                rw [HUP.out]
                go_wp2_with (fail)
                go_roundw
                case rel => exact ⟨k + 1, S5, _, by go_num, by omega, HR2, L5⟩
                case measure => simp [intOf]; omega
            · have hm2 : (k : Int).tmod 2 = 1 := by rw [Int.tmod_eq_emod_of_nonneg (by omega)]; omega
              have P := arm_sync HR.out (by omega) (by omega)
              clear hev
              by_cases hc : k < r
              · have hok : armOk A k := .inr (by rw [HA.out]; omega)
                have hkr : (k : Int) < (r : Int) := by omega
                have dkr : decide ((k : Int) < (r : Int)) = true := by simpa using hc
                have HC : Hid ((syncP d nF).1 = 0) := P.1 hok
                have HR2 : Hid (ArmR A (k + 1) (syncP d nF).2) := P.2.2.1
                have HUP : Hid ((syncP d nF).2.up = true) := P.2.2.2.1 hok
                clear P
                go_wp2_with (fail)
                refine (syncL HL.out nF (by decide)).mono ?_
                rintro e w5 ⟨rfl, hL, _⟩
                rw [HC.out]
                have L5 : Hid (Lv w w5 b m S (syncP d nF).2) := hL
                clear hL
                go_wp2_with (fail)
                refine (upL L5.out).mono ?_
                rintro e w6 ⟨rfl, hw⟩
                subst w6
                rw [HUP.out]
                go_wp2_with (fail)
                go_roundw
                case rel => exact ⟨k + 1, S, _, by go_num, by omega, HR2, L5⟩
                case measure => simp [intOf]; omega
              · have hok : ¬ armOk A k := by unfold armOk; rw [HA.out]; omega
                have hkr : ¬ (k : Int) < (r : Int) := by omega
                have dkr : decide ((k : Int) < (r : Int)) = false := by simpa using hc
                have HC : Hid ((syncP d nF).1 = 13) := P.2.1 hok
                have HR2 : Hid (ArmR A (k + 1) (syncP d nF).2) := P.2.2.1
                have HUP : Hid ((syncP d nF).2.up = false) := by show _ = _; cases hc : (syncP d nF).2.up with
                  | false => rfl
                  | true => exact absurd (P.2.2.2.2 hc) hok
                clear P
                go_wp2_with (fail)
                refine (syncL HL.out nF (by decide)).mono ?_
                rintro e w5 ⟨rfl, hL, _⟩
                rw [HC.out]
                have L5 : Hid (Lv w w5 b m S (syncP d nF).2) := hL
                clear hL
                go_wp2_with (fail)
                refine (upL L5.out).mono ?_
                rintro e w6 ⟨rfl, hw⟩
                subst w6
                rw [HUP.out]
                go_wp2_with (fail)
                go_roundw
                case rel => exact ⟨k + 1, S, _, by go_num, by omega, HR2, L5⟩
                case measure => simp [intOf]; omega
          · have dlt : decide ((k : Int) < (G : Int)) = false := by simpa using hlt
            have hge : ¬ (k : Int) < (G : Int) := by omega
            have hkG2 : k = G := by omega
            have HR2 : Hid (ArmR A G d) := by show ArmR _ _ _; rw [← hkG2]; exact HR.out
            clear hkG2 HR
            go_wp2_with (fail)
            refine (startL HL.out).mono ?_
            rintro e w4 ⟨rfl, hL, _⟩
            have L4 : Hid (Lv w w4 b m S (startD d)) := hL
            clear hL
            have hend := arm_end HR2.out
            rw [HA.out] at hend
            generalize hT : (theF (startD d) nF).bs.length = T at *
            go_wp2_with (fail)
            refine (readL L4.out nF (by decide)).mono ?_
            rintro e w5 ⟨a5, c5, rfl, _, hL, _⟩
            rw [hT]
            generalize findV (startD d) nF = E5
            have B5 : Hid (Below w.heap.size w w5) := hL.below
            clear hL hT
            rw [if_pos (by omega)] at hend
            obtain ⟨M, hM⟩ : ∃ M : Nat, M = min G r := ⟨_, rfl⟩
            have hM2 : min (G : Int) (r : Int) = (M : Int) := by rw [hM]; omega
            rw [hM2] at hend
            obtain ⟨d2, hd2⟩ : ∃ d2 : Nat, d2 = M / 2 := ⟨_, rfl⟩
            obtain ⟨d3, hd3⟩ : ∃ d3 : Nat, d3 = (M + 1) / 2 := ⟨_, rfl⟩
            have hMG : (M : Int) ≤ 59 := by omega
            have t1 : (M : Int).tdiv 2 = (d2 : Int) := by rw [hd2, Int.tdiv_eq_ediv_of_nonneg (by omega)]; norm_cast
            have t2 : ((M : Int) + 1).tdiv 2 = (d3 : Int) := by rw [hd3, Int.tdiv_eq_ediv_of_nonneg (by omega)]; norm_cast
            have u1 : decide ((d2 : Int) ≤ (T : Int)) = true := by simp; omega
            have u2 : decide ((T : Int) ≤ (d3 : Int) + 1) = true := by simp; omega
            have u1' : (d2 : Int) ≤ (T : Int) := by omega
            have u2' : (T : Int) ≤ (d3 : Int) + 1 := by omega
            have u3 : (d2 : Int) ≤ 1000 := by omega
            have u4 : (d3 : Int) ≤ 1000 := by omega
            have u5 : (T : Int) ≤ 1000 := by omega
            clear hend hd2 hd3 hM
            go_wp2_with (fail)
            go_ret
            exact ⟨by first | rfl | (refine ret_bool ?_; simp; omega), B5.out⟩
  · have qd : decide (deeds < 0) = false := by simpa using hs
    obtain ⟨D, hD⟩ : ∃ D : Nat, deeds = (D : Int) := ⟨deeds.toNat, by omega⟩
    subst hD
    have jD : (D : Int) ≤ 9223372036854775807 := by omega
    obtain ⟨G, hG⟩ : ∃ G : Nat, G = D % 60 := ⟨_, rfl⟩
    have hG6 : G < 60 := by rw [hG]; omega
    have hmD : (D : Int).tmod 60 = (G : Int) := by rw [hG, Int.tmod_eq_emod_of_nonneg (by omega)]; norm_cast
    have jG : (G : Int) ≤ 59 := by omega
    clear hG
    by_cases h1 : after = -1
    · subst h1
      clear hn
      obtain ⟨A, hA⟩ : ∃ A : Int, A = -1 := ⟨_, rfl⟩
      have HA : Hid (A = -1) := hA
      clear hA
      go_enter Try.func8, Try.ntmps8
      go_wp2_with (fail)
      refine (shown_any w).mono ?_
      rintro e w1 ⟨rfl, hb1⟩
      go_wp2_with (fail)
      refine (newL hb1 1099511627776 (by omega)).mono ?_
      rintro e w2 ⟨b, m, S1, rfl, hL⟩
      have L2 : Hid (Lv w w2 b m S1 (newD 1099511627776)) := hL
      clear hL hb1
      go_wp2_with (fail)
      refine (armL L2.out (-1) (by omega) keep HK.out).mono ?_
      rintro e w3 ⟨rfl, hL, _⟩
      have R3 : Hid (ArmR A 0 (armD (newD 1099511627776) (-1) keep)) := by have := arm_start A keep (by rw [HA.out]; omega); rwa [HA.out] at this ⊢
      generalize armD (newD 1099511627776) (-1) keep = D3 at *
      have L3 : Hid (Lv w w3 b m S1 D3) := hL
      clear hL
      go_wp2_with (fail)
      go_loopw [9] (fun i wr => ∃ (k : Nat) (S : Nat → Prop) (d : Dk), i = .int .i64 (k : Int) ∧ k ≤ G ∧ Hid (ArmR A k d) ∧ Hid (Lv w wr b m S d)) (fun i _ => G - (intOf i).toNat)
      case atStart => exact ⟨0, S1, D3, rfl, Nat.zero_le _, R3, L3⟩
      case round =>
        obtain ⟨k, S, d, rfl, hkG, HR, HL⟩ := hrel
        by_cases hlt : k < G
        · have dlt : decide ((k : Int) < (G : Int)) = true := by simpa using hlt
          have hlt' : (k : Int) < (G : Int) := by omega
          have hus := arm_used HR.out (by rw [HA.out]; omega)
          have HUS : Hid (usedL d.files ≤ k + 100 ∧ d.files.length ≤ 1) := hus
          clear hus
          by_cases hev : k % 2 = 0
          · have hm2 : (k : Int).tmod 2 = 0 := by rw [Int.tmod_eq_emod_of_nonneg (by omega)]; omega
            have hu8 : IntKind.u8.wrap (k : Int) = (k : Int) := by rw [IntKind.wrap_u8]; omega
            have P := arm_app HR.out hev (by omega) (UInt8.ofNat k)
            clear hev
            have hok : armOk A k := .inl (by rw [HA.out]; omega)
            have HC : Hid ((appendP d nF [UInt8.ofNat k]).1 = 0) := P.1 hok
            have HR2 : Hid (ArmR A (k + 1) (appendP d nF [UInt8.ofNat k]).2) := P.2.2.1
            have HUP : Hid ((appendP d nF [UInt8.ofNat k]).2.up = true) := P.2.2.2.1 hok
            clear P
            go_wp2_with (fail)
            refine (appendL (HL.out.alloc _) nF (by decide) (brow_one wr (k : Int) (UInt8.ofNat k) (byte_of k (by omega)).symm 1) (by have := HUS.out; simp only [List.length_cons, List.length_nil]; omega) (by have := HUS.out; omega)).mono ?_
            rintro e w5 ⟨rfl, S5, hL, _⟩
            rw [HC.out]
            have L5 : Hid (Lv w w5 b m S5 (appendP d nF [UInt8.ofNat k]).2) := hL
            clear hL
            go_wp2_with (fail)
            refine (upL L5.out).mono ?_
            rintro e w6 ⟨rfl, hw⟩
            subst w6
            rw [HUP.out]
            go_wp2_with (fail)
            go_roundw
            case rel => exact ⟨k + 1, S5, _, by go_num, by omega, HR2, L5⟩
            case measure => simp [intOf]; omega
          · have hm2 : (k : Int).tmod 2 = 1 := by rw [Int.tmod_eq_emod_of_nonneg (by omega)]; omega
            have P := arm_sync HR.out (by omega) (by omega)
            clear hev
            have hok : armOk A k := .inl (by rw [HA.out]; omega)
            have HC : Hid ((syncP d nF).1 = 0) := P.1 hok
            have HR2 : Hid (ArmR A (k + 1) (syncP d nF).2) := P.2.2.1
            have HUP : Hid ((syncP d nF).2.up = true) := P.2.2.2.1 hok
            clear P
            go_wp2_with (fail)
            refine (syncL HL.out nF (by decide)).mono ?_
            rintro e w5 ⟨rfl, hL, _⟩
            rw [HC.out]
            have L5 : Hid (Lv w w5 b m S (syncP d nF).2) := hL
            clear hL
            go_wp2_with (fail)
            refine (upL L5.out).mono ?_
            rintro e w6 ⟨rfl, hw⟩
            subst w6
            rw [HUP.out]
            go_wp2_with (fail)
            go_roundw
            case rel => exact ⟨k + 1, S, _, by go_num, by omega, HR2, L5⟩
            case measure => simp [intOf]; omega
        · have dlt : decide ((k : Int) < (G : Int)) = false := by simpa using hlt
          have hge : ¬ (k : Int) < (G : Int) := by omega
          have hkG2 : k = G := by omega
          have HR2 : Hid (ArmR A G d) := by show ArmR _ _ _; rw [← hkG2]; exact HR.out
          clear hkG2 HR
          go_wp2_with (fail)
          refine (startL HL.out).mono ?_
          rintro e w4 ⟨rfl, hL, _⟩
          have L4 : Hid (Lv w w4 b m S (startD d)) := hL
          clear hL
          have hend := arm_end HR2.out
          rw [HA.out] at hend
          generalize hT : (theF (startD d) nF).bs.length = T at *
          go_wp2_with (fail)
          refine (readL L4.out nF (by decide)).mono ?_
          rintro e w5 ⟨a5, c5, rfl, _, hL, _⟩
          rw [hT]
          generalize findV (startD d) nF = E5
          have B5 : Hid (Below w.heap.size w w5) := hL.below
          clear hL hT
          rw [if_neg (by omega)] at hend
          obtain ⟨d2, hd2⟩ : ∃ d2 : Nat, d2 = G / 2 := ⟨_, rfl⟩
          obtain ⟨d3, hd3⟩ : ∃ d3 : Nat, d3 = (G + 1) / 2 := ⟨_, rfl⟩
          have t1 : (G : Int).tdiv 2 = (d2 : Int) := by rw [hd2, Int.tdiv_eq_ediv_of_nonneg (by omega)]; norm_cast
          have t2 : ((G : Int) + 1).tdiv 2 = (d3 : Int) := by rw [hd3, Int.tdiv_eq_ediv_of_nonneg (by omega)]; norm_cast
          have u1 : decide ((d2 : Int) ≤ (T : Int)) = true := by simp; omega
          have u2 : decide ((T : Int) ≤ (d3 : Int) + 1) = true := by simp; omega
          have u1' : (d2 : Int) ≤ (T : Int) := by omega
          have u2' : (T : Int) ≤ (d3 : Int) + 1 := by omega
          have u3 : (d2 : Int) ≤ 1000 := by omega
          have u4 : (d3 : Int) ≤ 1000 := by omega
          have u5 : (T : Int) ≤ 1000 := by omega
          clear hend hd2 hd3
          go_wp2_with (fail)
          go_ret
          exact ⟨by first | rfl | (refine ret_bool ?_; simp; omega), B5.out⟩
    · by_cases h2 : after < -1
      · have q2 : decide (after < -1) = true := by simpa using h2
        obtain ⟨B, hB⟩ : ∃ B : Nat, wrap64 (wrap64 (-after) - 1) = (B : Int) ∧ (B : Int) ≤ 9223372036854775807 := by
          by_cases h3 : after = -9223372036854775808
          · subst h3
            exact ⟨9223372036854775807, by rw [← IntWalk.i64_left, ← IntWalk.i64_left]; decide, by decide⟩
          · refine ⟨(-after - 1).toNat, ?_, by omega⟩
            rw [← IntWalk.i64_left, ← IntWalk.i64_left, IntWalk.i64_in (-after) (by omega), IntWalk.i64_in (-after - 1) (by omega)]
            omega
        obtain ⟨hB, jB⟩ := hB
        clear hn h1 h2
        obtain ⟨r, hr⟩ : ∃ r : Nat, r = B % 80 := ⟨_, rfl⟩
        have hr8 : r < 80 := by rw [hr]; omega
        have hmB : (B : Int).tmod 80 = (r : Int) := by rw [hr, Int.tmod_eq_emod_of_nonneg (by omega)]; norm_cast
        have jr : (r : Int) ≤ 79 := by omega
        have jr0 : (0 : Int) ≤ (r : Int) := by omega
        clear hr
        obtain ⟨A, hA⟩ : ∃ A : Int, A = (r : Int) := ⟨_, rfl⟩
        have HA : Hid (A = (r : Int)) := hA
        clear hA
        go_enter Try.func8, Try.ntmps8
        go_wp2_with (fail)
        refine (shown_any w).mono ?_
        rintro e w1 ⟨rfl, hb1⟩
        go_wp2_with (fail)
        refine (newL hb1 1099511627776 (by omega)).mono ?_
        rintro e w2 ⟨b, m, S1, rfl, hL⟩
        have L2 : Hid (Lv w w2 b m S1 (newD 1099511627776)) := hL
        clear hL hb1
        go_wp2_with (fail)
        refine (armL L2.out ((r : Int)) (by omega) keep HK.out).mono ?_
        rintro e w3 ⟨rfl, hL, _⟩
        have R3 : Hid (ArmR A 0 (armD (newD 1099511627776) ((r : Int)) keep)) := by have := arm_start A keep (by rw [HA.out]; omega); rwa [HA.out] at this ⊢
        generalize armD (newD 1099511627776) ((r : Int)) keep = D3 at *
        have L3 : Hid (Lv w w3 b m S1 D3) := hL
        clear hL
        go_wp2_with (fail)
        go_loopw [9] (fun i wr => ∃ (k : Nat) (S : Nat → Prop) (d : Dk), i = .int .i64 (k : Int) ∧ k ≤ G ∧ Hid (ArmR A k d) ∧ Hid (Lv w wr b m S d)) (fun i _ => G - (intOf i).toNat)
        case atStart => exact ⟨0, S1, D3, rfl, Nat.zero_le _, R3, L3⟩
        case round =>
          obtain ⟨k, S, d, rfl, hkG, HR, HL⟩ := hrel
          by_cases hlt : k < G
          · have dlt : decide ((k : Int) < (G : Int)) = true := by simpa using hlt
            have hlt' : (k : Int) < (G : Int) := by omega
            have hus := arm_used HR.out (by rw [HA.out]; omega)
            have HUS : Hid (usedL d.files ≤ k + 100 ∧ d.files.length ≤ 1) := hus
            clear hus
            by_cases hev : k % 2 = 0
            · have hm2 : (k : Int).tmod 2 = 0 := by rw [Int.tmod_eq_emod_of_nonneg (by omega)]; omega
              have hu8 : IntKind.u8.wrap (k : Int) = (k : Int) := by rw [IntKind.wrap_u8]; omega
              have P := arm_app HR.out hev (by omega) (UInt8.ofNat k)
              clear hev
              by_cases hc : k < r
              · have hok : armOk A k := .inr (by rw [HA.out]; omega)
                have hkr : (k : Int) < (r : Int) := by omega
                have dkr : decide ((k : Int) < (r : Int)) = true := by simpa using hc
                have HC : Hid ((appendP d nF [UInt8.ofNat k]).1 = 0) := P.1 hok
                have HR2 : Hid (ArmR A (k + 1) (appendP d nF [UInt8.ofNat k]).2) := P.2.2.1
                have HUP : Hid ((appendP d nF [UInt8.ofNat k]).2.up = true) := P.2.2.2.1 hok
                clear P
                go_wp2_with (fail)
                refine (appendL (HL.out.alloc _) nF (by decide) (brow_one wr (k : Int) (UInt8.ofNat k) (byte_of k (by omega)).symm 1) (by have := HUS.out; simp only [List.length_cons, List.length_nil]; omega) (by have := HUS.out; omega)).mono ?_
                rintro e w5 ⟨rfl, S5, hL, _⟩
                rw [HC.out]
                have L5 : Hid (Lv w w5 b m S5 (appendP d nF [UInt8.ofNat k]).2) := hL
                clear hL
                go_wp2_with (fail)
                refine (upL L5.out).mono ?_
                rintro e w6 ⟨rfl, hw⟩
                subst w6
                rw [HUP.out]
                go_wp2_with (fail)
                go_roundw
                case rel => exact ⟨k + 1, S5, _, by go_num, by omega, HR2, L5⟩
                case measure => simp [intOf]; omega
              · have hok : ¬ armOk A k := by unfold armOk; rw [HA.out]; omega
                have hkr : ¬ (k : Int) < (r : Int) := by omega
                have dkr : decide ((k : Int) < (r : Int)) = false := by simpa using hc
                have HC : Hid ((appendP d nF [UInt8.ofNat k]).1 = 13) := P.2.1 hok
                have HR2 : Hid (ArmR A (k + 1) (appendP d nF [UInt8.ofNat k]).2) := P.2.2.1
                have HUP : Hid ((appendP d nF [UInt8.ofNat k]).2.up = false) := by show _ = _; cases hc : (appendP d nF [UInt8.ofNat k]).2.up with
                  | false => rfl
                  | true => exact absurd (P.2.2.2.2 hc) hok
                clear P
                go_wp2_with (fail)
                refine (appendL (HL.out.alloc _) nF (by decide) (brow_one wr (k : Int) (UInt8.ofNat k) (byte_of k (by omega)).symm 1) (by have := HUS.out; simp only [List.length_cons, List.length_nil]; omega) (by have := HUS.out; omega)).mono ?_
                rintro e w5 ⟨rfl, S5, hL, _⟩
                rw [HC.out]
                have L5 : Hid (Lv w w5 b m S5 (appendP d nF [UInt8.ofNat k]).2) := hL
                clear hL
                go_wp2_with (fail)
                refine (upL L5.out).mono ?_
                rintro e w6 ⟨rfl, hw⟩
                subst w6
                rw [HUP.out]
                go_wp2_with (fail)
                go_roundw
                case rel => exact ⟨k + 1, S5, _, by go_num, by omega, HR2, L5⟩
                case measure => simp [intOf]; omega
            · have hm2 : (k : Int).tmod 2 = 1 := by rw [Int.tmod_eq_emod_of_nonneg (by omega)]; omega
              have P := arm_sync HR.out (by omega) (by omega)
              clear hev
              by_cases hc : k < r
              · have hok : armOk A k := .inr (by rw [HA.out]; omega)
                have hkr : (k : Int) < (r : Int) := by omega
                have dkr : decide ((k : Int) < (r : Int)) = true := by simpa using hc
                have HC : Hid ((syncP d nF).1 = 0) := P.1 hok
                have HR2 : Hid (ArmR A (k + 1) (syncP d nF).2) := P.2.2.1
                have HUP : Hid ((syncP d nF).2.up = true) := P.2.2.2.1 hok
                clear P
                go_wp2_with (fail)
                refine (syncL HL.out nF (by decide)).mono ?_
                rintro e w5 ⟨rfl, hL, _⟩
                rw [HC.out]
                have L5 : Hid (Lv w w5 b m S (syncP d nF).2) := hL
                clear hL
                go_wp2_with (fail)
                refine (upL L5.out).mono ?_
                rintro e w6 ⟨rfl, hw⟩
                subst w6
                rw [HUP.out]
                go_wp2_with (fail)
                go_roundw
                case rel => exact ⟨k + 1, S, _, by go_num, by omega, HR2, L5⟩
                case measure => simp [intOf]; omega
              · have hok : ¬ armOk A k := by unfold armOk; rw [HA.out]; omega
                have hkr : ¬ (k : Int) < (r : Int) := by omega
                have dkr : decide ((k : Int) < (r : Int)) = false := by simpa using hc
                have HC : Hid ((syncP d nF).1 = 13) := P.2.1 hok
                have HR2 : Hid (ArmR A (k + 1) (syncP d nF).2) := P.2.2.1
                have HUP : Hid ((syncP d nF).2.up = false) := by show _ = _; cases hc : (syncP d nF).2.up with
                  | false => rfl
                  | true => exact absurd (P.2.2.2.2 hc) hok
                clear P
                go_wp2_with (fail)
                refine (syncL HL.out nF (by decide)).mono ?_
                rintro e w5 ⟨rfl, hL, _⟩
                rw [HC.out]
                have L5 : Hid (Lv w w5 b m S (syncP d nF).2) := hL
                clear hL
                go_wp2_with (fail)
                refine (upL L5.out).mono ?_
                rintro e w6 ⟨rfl, hw⟩
                subst w6
                rw [HUP.out]
                go_wp2_with (fail)
                go_roundw
                case rel => exact ⟨k + 1, S, _, by go_num, by omega, HR2, L5⟩
                case measure => simp [intOf]; omega
          · have dlt : decide ((k : Int) < (G : Int)) = false := by simpa using hlt
            have hge : ¬ (k : Int) < (G : Int) := by omega
            have hkG2 : k = G := by omega
            have HR2 : Hid (ArmR A G d) := by show ArmR _ _ _; rw [← hkG2]; exact HR.out
            clear hkG2 HR
            go_wp2_with (fail)
            refine (startL HL.out).mono ?_
            rintro e w4 ⟨rfl, hL, _⟩
            have L4 : Hid (Lv w w4 b m S (startD d)) := hL
            clear hL
            have hend := arm_end HR2.out
            rw [HA.out] at hend
            generalize hT : (theF (startD d) nF).bs.length = T at *
            go_wp2_with (fail)
            refine (readL L4.out nF (by decide)).mono ?_
            rintro e w5 ⟨a5, c5, rfl, _, hL, _⟩
            rw [hT]
            generalize findV (startD d) nF = E5
            have B5 : Hid (Below w.heap.size w w5) := hL.below
            clear hL hT
            rw [if_pos (by omega)] at hend
            obtain ⟨M, hM⟩ : ∃ M : Nat, M = min G r := ⟨_, rfl⟩
            have hM2 : min (G : Int) (r : Int) = (M : Int) := by rw [hM]; omega
            rw [hM2] at hend
            obtain ⟨d2, hd2⟩ : ∃ d2 : Nat, d2 = M / 2 := ⟨_, rfl⟩
            obtain ⟨d3, hd3⟩ : ∃ d3 : Nat, d3 = (M + 1) / 2 := ⟨_, rfl⟩
            have hMG : (M : Int) ≤ 59 := by omega
            have t1 : (M : Int).tdiv 2 = (d2 : Int) := by rw [hd2, Int.tdiv_eq_ediv_of_nonneg (by omega)]; norm_cast
            have t2 : ((M : Int) + 1).tdiv 2 = (d3 : Int) := by rw [hd3, Int.tdiv_eq_ediv_of_nonneg (by omega)]; norm_cast
            have u1 : decide ((d2 : Int) ≤ (T : Int)) = true := by simp; omega
            have u2 : decide ((T : Int) ≤ (d3 : Int) + 1) = true := by simp; omega
            have u1' : (d2 : Int) ≤ (T : Int) := by omega
            have u2' : (T : Int) ≤ (d3 : Int) + 1 := by omega
            have u3 : (d2 : Int) ≤ 1000 := by omega
            have u4 : (d3 : Int) ≤ 1000 := by omega
            have u5 : (T : Int) ≤ 1000 := by omega
            clear hend hd2 hd3 hM
            go_wp2_with (fail)
            go_ret
            exact ⟨by first | rfl | (refine ret_bool ?_; simp; omega), B5.out⟩
      · have q2 : decide (after < -1) = false := by simpa using h2
        obtain ⟨B, hB⟩ : ∃ B : Nat, after = (B : Int) := ⟨after.toNat, by omega⟩
        subst hB
        have jB : (B : Int) ≤ 9223372036854775807 := by omega
        clear hn h1 h2
        obtain ⟨r, hr⟩ : ∃ r : Nat, r = B % 80 := ⟨_, rfl⟩
        have hr8 : r < 80 := by rw [hr]; omega
        have hmB : (B : Int).tmod 80 = (r : Int) := by rw [hr, Int.tmod_eq_emod_of_nonneg (by omega)]; norm_cast
        have jr : (r : Int) ≤ 79 := by omega
        have jr0 : (0 : Int) ≤ (r : Int) := by omega
        clear hr
        obtain ⟨A, hA⟩ : ∃ A : Int, A = (r : Int) := ⟨_, rfl⟩
        have HA : Hid (A = (r : Int)) := hA
        clear hA
        go_enter Try.func8, Try.ntmps8
        go_wp2_with (fail)
        refine (shown_any w).mono ?_
        rintro e w1 ⟨rfl, hb1⟩
        go_wp2_with (fail)
        refine (newL hb1 1099511627776 (by omega)).mono ?_
        rintro e w2 ⟨b, m, S1, rfl, hL⟩
        have L2 : Hid (Lv w w2 b m S1 (newD 1099511627776)) := hL
        clear hL hb1
        go_wp2_with (fail)
        refine (armL L2.out ((r : Int)) (by omega) keep HK.out).mono ?_
        rintro e w3 ⟨rfl, hL, _⟩
        have R3 : Hid (ArmR A 0 (armD (newD 1099511627776) ((r : Int)) keep)) := by have := arm_start A keep (by rw [HA.out]; omega); rwa [HA.out] at this ⊢
        generalize armD (newD 1099511627776) ((r : Int)) keep = D3 at *
        have L3 : Hid (Lv w w3 b m S1 D3) := hL
        clear hL
        go_wp2_with (fail)
        go_loopw [9] (fun i wr => ∃ (k : Nat) (S : Nat → Prop) (d : Dk), i = .int .i64 (k : Int) ∧ k ≤ G ∧ Hid (ArmR A k d) ∧ Hid (Lv w wr b m S d)) (fun i _ => G - (intOf i).toNat)
        case atStart => exact ⟨0, S1, D3, rfl, Nat.zero_le _, R3, L3⟩
        case round =>
          obtain ⟨k, S, d, rfl, hkG, HR, HL⟩ := hrel
          by_cases hlt : k < G
          · have dlt : decide ((k : Int) < (G : Int)) = true := by simpa using hlt
            have hlt' : (k : Int) < (G : Int) := by omega
            have hus := arm_used HR.out (by rw [HA.out]; omega)
            have HUS : Hid (usedL d.files ≤ k + 100 ∧ d.files.length ≤ 1) := hus
            clear hus
            by_cases hev : k % 2 = 0
            · have hm2 : (k : Int).tmod 2 = 0 := by rw [Int.tmod_eq_emod_of_nonneg (by omega)]; omega
              have hu8 : IntKind.u8.wrap (k : Int) = (k : Int) := by rw [IntKind.wrap_u8]; omega
              have P := arm_app HR.out hev (by omega) (UInt8.ofNat k)
              clear hev
              by_cases hc : k < r
              · have hok : armOk A k := .inr (by rw [HA.out]; omega)
                have hkr : (k : Int) < (r : Int) := by omega
                have dkr : decide ((k : Int) < (r : Int)) = true := by simpa using hc
                have HC : Hid ((appendP d nF [UInt8.ofNat k]).1 = 0) := P.1 hok
                have HR2 : Hid (ArmR A (k + 1) (appendP d nF [UInt8.ofNat k]).2) := P.2.2.1
                have HUP : Hid ((appendP d nF [UInt8.ofNat k]).2.up = true) := P.2.2.2.1 hok
                clear P
                go_wp2_with (fail)
                refine (appendL (HL.out.alloc _) nF (by decide) (brow_one wr (k : Int) (UInt8.ofNat k) (byte_of k (by omega)).symm 1) (by have := HUS.out; simp only [List.length_cons, List.length_nil]; omega) (by have := HUS.out; omega)).mono ?_
                rintro e w5 ⟨rfl, S5, hL, _⟩
                rw [HC.out]
                have L5 : Hid (Lv w w5 b m S5 (appendP d nF [UInt8.ofNat k]).2) := hL
                clear hL
                go_wp2_with (fail)
                refine (upL L5.out).mono ?_
                rintro e w6 ⟨rfl, hw⟩
                subst w6
                rw [HUP.out]
                go_wp2_with (fail)
                go_roundw
                case rel => exact ⟨k + 1, S5, _, by go_num, by omega, HR2, L5⟩
                case measure => simp [intOf]; omega
              · have hok : ¬ armOk A k := by unfold armOk; rw [HA.out]; omega
                have hkr : ¬ (k : Int) < (r : Int) := by omega
                have dkr : decide ((k : Int) < (r : Int)) = false := by simpa using hc
                have HC : Hid ((appendP d nF [UInt8.ofNat k]).1 = 13) := P.2.1 hok
                have HR2 : Hid (ArmR A (k + 1) (appendP d nF [UInt8.ofNat k]).2) := P.2.2.1
                have HUP : Hid ((appendP d nF [UInt8.ofNat k]).2.up = false) := by show _ = _; cases hc : (appendP d nF [UInt8.ofNat k]).2.up with
                  | false => rfl
                  | true => exact absurd (P.2.2.2.2 hc) hok
                clear P
                go_wp2_with (fail)
                refine (appendL (HL.out.alloc _) nF (by decide) (brow_one wr (k : Int) (UInt8.ofNat k) (byte_of k (by omega)).symm 1) (by have := HUS.out; simp only [List.length_cons, List.length_nil]; omega) (by have := HUS.out; omega)).mono ?_
                rintro e w5 ⟨rfl, S5, hL, _⟩
                rw [HC.out]
                have L5 : Hid (Lv w w5 b m S5 (appendP d nF [UInt8.ofNat k]).2) := hL
                clear hL
                go_wp2_with (fail)
                refine (upL L5.out).mono ?_
                rintro e w6 ⟨rfl, hw⟩
                subst w6
                rw [HUP.out]
                go_wp2_with (fail)
                go_roundw
                case rel => exact ⟨k + 1, S5, _, by go_num, by omega, HR2, L5⟩
                case measure => simp [intOf]; omega
            · have hm2 : (k : Int).tmod 2 = 1 := by rw [Int.tmod_eq_emod_of_nonneg (by omega)]; omega
              have P := arm_sync HR.out (by omega) (by omega)
              clear hev
              by_cases hc : k < r
              · have hok : armOk A k := .inr (by rw [HA.out]; omega)
                have hkr : (k : Int) < (r : Int) := by omega
                have dkr : decide ((k : Int) < (r : Int)) = true := by simpa using hc
                have HC : Hid ((syncP d nF).1 = 0) := P.1 hok
                have HR2 : Hid (ArmR A (k + 1) (syncP d nF).2) := P.2.2.1
                have HUP : Hid ((syncP d nF).2.up = true) := P.2.2.2.1 hok
                clear P
                go_wp2_with (fail)
                refine (syncL HL.out nF (by decide)).mono ?_
                rintro e w5 ⟨rfl, hL, _⟩
                rw [HC.out]
                have L5 : Hid (Lv w w5 b m S (syncP d nF).2) := hL
                clear hL
                go_wp2_with (fail)
                refine (upL L5.out).mono ?_
                rintro e w6 ⟨rfl, hw⟩
                subst w6
                rw [HUP.out]
                go_wp2_with (fail)
                go_roundw
                case rel => exact ⟨k + 1, S, _, by go_num, by omega, HR2, L5⟩
                case measure => simp [intOf]; omega
              · have hok : ¬ armOk A k := by unfold armOk; rw [HA.out]; omega
                have hkr : ¬ (k : Int) < (r : Int) := by omega
                have dkr : decide ((k : Int) < (r : Int)) = false := by simpa using hc
                have HC : Hid ((syncP d nF).1 = 13) := P.2.1 hok
                have HR2 : Hid (ArmR A (k + 1) (syncP d nF).2) := P.2.2.1
                have HUP : Hid ((syncP d nF).2.up = false) := by show _ = _; cases hc : (syncP d nF).2.up with
                  | false => rfl
                  | true => exact absurd (P.2.2.2.2 hc) hok
                clear P
                go_wp2_with (fail)
                refine (syncL HL.out nF (by decide)).mono ?_
                rintro e w5 ⟨rfl, hL, _⟩
                rw [HC.out]
                have L5 : Hid (Lv w w5 b m S (syncP d nF).2) := hL
                clear hL
                go_wp2_with (fail)
                refine (upL L5.out).mono ?_
                rintro e w6 ⟨rfl, hw⟩
                subst w6
                rw [HUP.out]
                go_wp2_with (fail)
                go_roundw
                case rel => exact ⟨k + 1, S, _, by go_num, by omega, HR2, L5⟩
                case measure => simp [intOf]; omega
          · have dlt : decide ((k : Int) < (G : Int)) = false := by simpa using hlt
            have hge : ¬ (k : Int) < (G : Int) := by omega
            have hkG2 : k = G := by omega
            have HR2 : Hid (ArmR A G d) := by show ArmR _ _ _; rw [← hkG2]; exact HR.out
            clear hkG2 HR
            go_wp2_with (fail)
            refine (startL HL.out).mono ?_
            rintro e w4 ⟨rfl, hL, _⟩
            have L4 : Hid (Lv w w4 b m S (startD d)) := hL
            clear hL
            have hend := arm_end HR2.out
            rw [HA.out] at hend
            generalize hT : (theF (startD d) nF).bs.length = T at *
            go_wp2_with (fail)
            refine (readL L4.out nF (by decide)).mono ?_
            rintro e w5 ⟨a5, c5, rfl, _, hL, _⟩
            rw [hT]
            generalize findV (startD d) nF = E5
            have B5 : Hid (Below w.heap.size w w5) := hL.below
            clear hL hT
            rw [if_pos (by omega)] at hend
            obtain ⟨M, hM⟩ : ∃ M : Nat, M = min G r := ⟨_, rfl⟩
            have hM2 : min (G : Int) (r : Int) = (M : Int) := by rw [hM]; omega
            rw [hM2] at hend
            obtain ⟨d2, hd2⟩ : ∃ d2 : Nat, d2 = M / 2 := ⟨_, rfl⟩
            obtain ⟨d3, hd3⟩ : ∃ d3 : Nat, d3 = (M + 1) / 2 := ⟨_, rfl⟩
            have hMG : (M : Int) ≤ 59 := by omega
            have t1 : (M : Int).tdiv 2 = (d2 : Int) := by rw [hd2, Int.tdiv_eq_ediv_of_nonneg (by omega)]; norm_cast
            have t2 : ((M : Int) + 1).tdiv 2 = (d3 : Int) := by rw [hd3, Int.tdiv_eq_ediv_of_nonneg (by omega)]; norm_cast
            have u1 : decide ((d2 : Int) ≤ (T : Int)) = true := by simp; omega
            have u2 : decide ((T : Int) ≤ (d3 : Int) + 1) = true := by simp; omega
            have u1' : (d2 : Int) ≤ (T : Int) := by omega
            have u2' : (T : Int) ≤ (d3 : Int) + 1 := by omega
            have u3 : (d2 : Int) ≤ 1000 := by omega
            have u4 : (d3 : Int) ≤ 1000 := by omega
            have u5 : (T : Int) ≤ 1000 := by omega
            clear hend hd2 hd3 hM
            go_wp2_with (fail)
            go_ret
            exact ⟨by first | rfl | (refine ret_bool ?_; simp; omega), B5.out⟩

end Go.Proofs.Ytmkgaegodemglaa
