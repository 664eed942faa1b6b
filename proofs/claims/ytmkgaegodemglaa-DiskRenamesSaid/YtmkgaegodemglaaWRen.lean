/- DiskRenames, walked. -/
import Derived.Test.YtmkgaegodemglaaWKeeps
set_option linter.unusedVariables false
namespace Go.Proofs.Ytmkgaegodemglaa
open Go.RowKit

abbrev nN : Nm := [110]
theorem append_fine {d : Dk} {n : Nm} {l : List UInt8} (hu : d.up = true) (hm : mayN n = true) (hr : usedL d.files + l.length ≤ d.room) : appendP d n l = (if d.ahead = 0 then 13 else 0, failD (addD d n l)) := by
  unfold appendP
  rw [if_neg (by rw [hu]; decide), if_neg (by rw [hm]; decide), if_neg (by omega)]

def rD2 (old : List UInt8) (r keep : Nat) : Dk := armD (kD [(nF, ⟨old, old.length⟩)] true 0) (r : Int) keep
def rD3 (old fresh : List UInt8) (r keep : Nat) : Dk := (appendP (rD2 old r keep) nN fresh).2
def rD4 (old fresh : List UInt8) (r keep : Nat) : Dk := (syncP (rD3 old fresh r keep) nN).2
def rE5 (old fresh : List UInt8) (r keep : Nat) : Nat := (renameP (rD4 old fresh r keep) nN nF).1
def rD6 (old fresh : List UInt8) (r keep : Nat) : Dk := startD (renameP (rD4 old fresh r keep) nN nF).2

abbrev rK (l : Fls) (up : Bool) (ahead falls : Int) (keep : Nat) : Dk := ⟨1099511627776, l, up, ahead, falls, keep⟩

theorem rD2_eq (old : List UInt8) (r keep : Nat) : rD2 old r keep = rK [(nF, ⟨old, old.length⟩)] true (r : Int) 0 keep := by
  unfold rD2 armD
  rw [if_pos rfl, if_neg (by omega)]
theorem rD3_eq (old fresh : List UInt8) (r keep : Nat) (h : old.length + fresh.length ≤ 100000) : rD3 old fresh r keep = failD (rK [(nF, ⟨old, old.length⟩), (nN, ⟨fresh, 0⟩)] true (r : Int) 0 keep) := by
  unfold rD3
  rw [rD2_eq, append_fine rfl rfl (by show usedL [(nF, ⟨old, old.length⟩)] + fresh.length ≤ 1099511627776; rw [usedL_one]; simp only; omega)]
  rfl

theorem ren_three (old fresh : List UInt8) (keep : Nat) (h : old.length + fresh.length ≤ 100000) : rE5 old fresh 3 keep = 0 ∧ findV (rD6 old fresh 3 keep) nF = 0 ∧ (theF (rD6 old fresh 3 keep) nF).bs = fresh ∧ findV (rD6 old fresh 3 keep) nN = 15 := by
  unfold rE5 rD6 rD4
  rw [rD3_eq old fresh 3 keep h]
  exact ⟨rfl, rfl, rfl, rfl⟩
theorem ren_less (old fresh : List UInt8) (r keep : Nat) (hr : r < 3) (h : old.length + fresh.length ≤ 100000) : rE5 old fresh r keep = 13 ∧ findV (rD6 old fresh r keep) nF = 0 ∧ (theF (rD6 old fresh r keep) nF).bs = old := by
  unfold rE5 rD6 rD4
  rw [rD3_eq old fresh r keep h]
  have hr' : r = 0 ∨ r = 1 ∨ r = 2 := by omega
  rcases hr' with rfl | rfl | rfl
  · refine ⟨rfl, rfl, ?_⟩
    show (fallF keep 0 ⟨old, old.length⟩).bs = old
    rw [fall_lasts]
  · refine ⟨rfl, rfl, ?_⟩
    show (fallF keep 0 ⟨old, old.length⟩).bs = old
    rw [fall_lasts]
  · refine ⟨rfl, rfl, ?_⟩
    show (fallF keep 0 ⟨old, old.length⟩).bs = old
    rw [fall_lasts]

set_option maxHeartbeats 4000000 in
set_option maxRecDepth 20000 in
theorem wren (a0 : Option Addr) (n0 c0 : Nat) (old : List UInt8) (hl0 : n0 ≤ 140737488351232) (a1 : Option Addr) (n1 c1 : Nat) (fresh : List UInt8) (hl1 : n1 ≤ 140737488351232) (after : Int) (hn : -9223372036854775808 ≤ after ∧ after ≤ 9223372036854775807)
    (keep : Nat) (hk : keep < 18446744073709551616) (w : World) (r0 : BRow w a0 n0 c0 old) (r1 : BRow w a1 n1 c1 fresh) :
    Calls Try.prog 5 #[.slice a0 n0 c0, .slice a1 n1 c1, .int .i64 after, .int .u64 (keep : Int)] w fun e w' => e = .returned (.bool true) ∧ Below w.heap.size w w' := by
  have z0 := r0.1
  have z1 := r1.1
  subst z0 z1
  have R0 : Hid (BRow w a0 old.length c0 old) := r0
  have R1 : Hid (BRow w a1 fresh.length c1 fresh) := r1
  have j0 : (old.length : Int) ≤ 140737488351232 := by omega
  have j1 : (fresh.length : Int) ≤ 140737488351232 := by omega
  have HK : Hid (keep < 18446744073709551616) := hk
  clear r0 r1 hl0 hl1 hk
  by_cases hbig : (100000 : Int) < (old.length : Int) + (fresh.length : Int)
  · have q : decide ((100000 : Int) < (old.length : Int) + (fresh.length : Int)) = true := by simpa using hbig
    go_enter Try.func5, Try.ntmps5
    go_wp2_with (fail)
    refine (shown_any w).mono ?_
    rintro e w1 ⟨rfl, hb1⟩
    go_wp2_with (fail)
    refine (newL hb1 1099511627776 (by omega)).mono ?_
    rintro e w2 ⟨b, m, S1, rfl, hL⟩
    have HB : Hid (Below w.heap.size w w2) := hL.below
    clear hL hb1
    go_wp2_with (fail)
    go_ret
    exact ⟨rfl, HB.out⟩
  · have q : decide ((100000 : Int) < (old.length : Int) + (fresh.length : Int)) = false := by simpa using hbig
    have HS : Hid (old.length + fresh.length ≤ 100000) := by show _ ≤ _; omega
    clear hbig
    by_cases hs : after < 0
    · have qs : decide (after < 0) = true := by simpa using hs
      obtain ⟨A, hA⟩ : ∃ A : Nat, -(after + 1) = (A : Int) := ⟨(-(after + 1)).toNat, by omega⟩
      have jA : (A : Int) ≤ 9223372036854775807 := by omega
      have ja1 : -9223372036854775808 ≤ after + 1 := by omega
      have ja2 : after + 1 ≤ 9223372036854775807 := by omega
      obtain ⟨r, hr⟩ : ∃ r : Nat, r = A % 4 := ⟨_, rfl⟩
      have hr4 : r < 4 := by rw [hr]; omega
      have hm : (A : Int).tmod 4 = (r : Int) := by rw [hr, Int.tmod_eq_emod_of_nonneg (by omega)]; norm_cast
      have jr : (r : Int) ≤ 3 := by omega
      by_cases h3 : r = 3
      · have q3 : ((r : Int) == 3) = true := by simp; omega
        have P := ren_three old fresh keep HS.out
        have H3 : Hid (r = 3) := h3
        have HE5 : Hid (rE5 old fresh r keep = 0) := by show _ = _; rw [h3]; exact P.1
        have HF : Hid (findV (rD6 old fresh r keep) nF = 0) := by show _ = _; rw [h3]; exact P.2.1
        have HT : Hid ((theF (rD6 old fresh r keep) nF).bs = fresh) := by show _ = _; rw [h3]; exact P.2.2.1
        have HG : Hid (findV (rD6 old fresh r keep) nN = 15) := by show _ = _; rw [h3]; exact P.2.2.2
        clear P h3 hr4 hr
        go_enter Try.func5, Try.ntmps5
        go_wp2_with (fail)
        refine (shown_any w).mono ?_
        rintro e w1 ⟨rfl, hb1⟩
        go_wp2_with (fail)
        refine (newL hb1 1099511627776 (by omega)).mono ?_
        rintro e w2 ⟨b, m, S1, rfl, hL⟩
        rw [k_new] at hL
        have L2 : Hid (Lv w w2 b m S1 (kD [] true 0)) := hL
        clear hL hb1
        go_wp2_with (fail)
        refine (appendL L2.out nF (by decide) (R0.out.below L2.out.below) (by have := HS.out; show 0 + old.length ≤ _; omega) (by decide)).mono ?_
        rw [k_app0 old (by have := HS.out; omega)]
        rintro e w3 ⟨rfl, S3, hL, _⟩
        have L3 : Hid (Lv w w3 b m S3 (kD [(nF, ⟨old, 0⟩)] true 0)) := hL
        clear hL
        go_wp2_with (fail)
        refine (syncL L3.out nF (by decide)).mono ?_
        rw [k_sync]
        rintro e w4 ⟨rfl, hL, _⟩
        have L4 : Hid (Lv w w4 b m S3 (kD [(nF, ⟨old, old.length⟩)] true 0)) := hL
        clear hL
        go_wp2_with (fail)
        refine (armL L4.out (r : Int) (by omega) keep HK.out).mono ?_
        rintro e w5 ⟨rfl, hL, _⟩
        have L5 : Hid (Lv w w5 b m S3 (rD2 old r keep)) := hL
        clear hL
        go_wp2_with (fail)
        refine (appendL L5.out nN (by decide) (R1.out.below L5.out.below) (by rw [rD2_eq]; have := HS.out; show usedL [(nF, ⟨old, old.length⟩)] + fresh.length ≤ _; rw [usedL_one]; simp only; omega) (by rw [rD2_eq]; show 1 + 1 ≤ _; omega)).mono ?_
        rintro e w6 ⟨rfl, S6, hL, _⟩
        have L6 : Hid (Lv w w6 b m S6 (rD3 old fresh r keep)) := hL
        clear hL
        generalize (appendP (rD2 old r keep) nN fresh).1 = E6
        go_wp2_with (fail)
        refine (syncL L6.out nN (by decide)).mono ?_
        rintro e w7 ⟨rfl, hL, _⟩
        have L7 : Hid (Lv w w7 b m S6 (rD4 old fresh r keep)) := hL
        clear hL
        generalize (syncP (rD3 old fresh r keep) nN).1 = E7
        go_wp2_with (fail)
        refine (renameL L7.out nN (by decide) nF (by decide)).mono ?_
        rintro e w8 ⟨rfl, hL, _⟩
        have h8 : (renameP (rD4 old fresh r keep) nN nF).1 = 0 := HE5.out
        rw [h8]
        have L8 : Hid (Lv w w8 b m S6 (renameP (rD4 old fresh r keep) nN nF).2) := hL
        clear hL h8
        go_wp2_with (fail)
        refine (startL L8.out).mono ?_
        rintro e w9 ⟨rfl, hL, _⟩
        have L9 : Hid (Lv w w9 b m S6 (rD6 old fresh r keep)) := hL
        clear hL
        go_wp2_with (fail)
        refine (readL L9.out nF (by decide)).mono ?_
        rintro e w10 ⟨a10, c10, rfl, hK, hL, _⟩
        rw [HT.out] at hK
        rw [HF.out, HT.out]
        have L10 : Hid (Lv w w10 b m S6 (rD6 old fresh r keep)) := hL
        have K10 : Hid (Kp w10 S6 (.slice a10 fresh.length c10) fresh) := hK
        clear hL hK
        go_wp2_with (fail)
        refine (readL L10.out nN (by decide)).mono ?_
        rintro e w11 ⟨a11, c11, rfl, _, hL, hst⟩
        rw [HG.out]
        generalize (theF (rD6 old fresh r keep) nN).bs.length = NL
        have L11 : Hid (Lv w w11 b m S6 (rD6 old fresh r keep)) := hL
        have s1 := own_string (K10.out.st hst).own
        have s2 := (R1.out.below L11.out.below).string
        clear hL hst
        go_wp2_with (fail)
        go_ret
        exact ⟨rfl, L11.out.below⟩
      · have q3 : ((r : Int) == 3) = false := by simp; omega
        have P := ren_less old fresh r keep (by omega) HS.out
        have HE5 : Hid (rE5 old fresh r keep = 13) := P.1
        have HF : Hid (findV (rD6 old fresh r keep) nF = 0) := P.2.1
        have HT : Hid ((theF (rD6 old fresh r keep) nF).bs = old) := P.2.2
        clear P h3 hr4 hr
        go_enter Try.func5, Try.ntmps5
        go_wp2_with (fail)
        refine (shown_any w).mono ?_
        rintro e w1 ⟨rfl, hb1⟩
        go_wp2_with (fail)
        refine (newL hb1 1099511627776 (by omega)).mono ?_
        rintro e w2 ⟨b, m, S1, rfl, hL⟩
        rw [k_new] at hL
        have L2 : Hid (Lv w w2 b m S1 (kD [] true 0)) := hL
        clear hL hb1
        go_wp2_with (fail)
        refine (appendL L2.out nF (by decide) (R0.out.below L2.out.below) (by have := HS.out; show 0 + old.length ≤ _; omega) (by decide)).mono ?_
        rw [k_app0 old (by have := HS.out; omega)]
        rintro e w3 ⟨rfl, S3, hL, _⟩
        have L3 : Hid (Lv w w3 b m S3 (kD [(nF, ⟨old, 0⟩)] true 0)) := hL
        clear hL
        go_wp2_with (fail)
        refine (syncL L3.out nF (by decide)).mono ?_
        rw [k_sync]
        rintro e w4 ⟨rfl, hL, _⟩
        have L4 : Hid (Lv w w4 b m S3 (kD [(nF, ⟨old, old.length⟩)] true 0)) := hL
        clear hL
        go_wp2_with (fail)
        refine (armL L4.out (r : Int) (by omega) keep HK.out).mono ?_
        rintro e w5 ⟨rfl, hL, _⟩
        have L5 : Hid (Lv w w5 b m S3 (rD2 old r keep)) := hL
        clear hL
        go_wp2_with (fail)
        refine (appendL L5.out nN (by decide) (R1.out.below L5.out.below) (by rw [rD2_eq]; have := HS.out; show usedL [(nF, ⟨old, old.length⟩)] + fresh.length ≤ _; rw [usedL_one]; simp only; omega) (by rw [rD2_eq]; show 1 + 1 ≤ _; omega)).mono ?_
        rintro e w6 ⟨rfl, S6, hL, _⟩
        have L6 : Hid (Lv w w6 b m S6 (rD3 old fresh r keep)) := hL
        clear hL
        generalize (appendP (rD2 old r keep) nN fresh).1 = E6
        go_wp2_with (fail)
        refine (syncL L6.out nN (by decide)).mono ?_
        rintro e w7 ⟨rfl, hL, _⟩
        have L7 : Hid (Lv w w7 b m S6 (rD4 old fresh r keep)) := hL
        clear hL
        generalize (syncP (rD3 old fresh r keep) nN).1 = E7
        go_wp2_with (fail)
        refine (renameL L7.out nN (by decide) nF (by decide)).mono ?_
        rintro e w8 ⟨rfl, hL, _⟩
        have h8 : (renameP (rD4 old fresh r keep) nN nF).1 = 13 := HE5.out
        rw [h8]
        have L8 : Hid (Lv w w8 b m S6 (renameP (rD4 old fresh r keep) nN nF).2) := hL
        clear hL h8
        go_wp2_with (fail)
        refine (startL L8.out).mono ?_
        rintro e w9 ⟨rfl, hL, _⟩
        have L9 : Hid (Lv w w9 b m S6 (rD6 old fresh r keep)) := hL
        clear hL
        go_wp2_with (fail)
        refine (readL L9.out nF (by decide)).mono ?_
        rintro e w10 ⟨a10, c10, rfl, hK, hL, _⟩
        rw [HT.out] at hK
        rw [HF.out, HT.out]
        have L10 : Hid (Lv w w10 b m S6 (rD6 old fresh r keep)) := hL
        have K10 : Hid (Kp w10 S6 (.slice a10 old.length c10) old) := hK
        clear hL hK
        go_wp2_with (fail)
        refine (readL L10.out nN (by decide)).mono ?_
        rintro e w11 ⟨a11, c11, rfl, _, hL, hst⟩
        generalize findV (rD6 old fresh r keep) nN = E11
        generalize (theF (rD6 old fresh r keep) nN).bs.length = NL
        have L11 : Hid (Lv w w11 b m S6 (rD6 old fresh r keep)) := hL
        have s1 := own_string (K10.out.st hst).own
        have s2 := (R0.out.below L11.out.below).string
        clear hL hst
        go_wp2_with (fail)
        go_ret
        exact ⟨rfl, L11.out.below⟩
    · have qs : decide (after < 0) = false := by simpa using hs
      obtain ⟨A, hA⟩ : ∃ A : Nat, after = (A : Int) := ⟨after.toNat, by omega⟩
      subst hA
      have jA : (A : Int) ≤ 9223372036854775807 := by omega
      obtain ⟨r, hr⟩ : ∃ r : Nat, r = A % 4 := ⟨_, rfl⟩
      have hr4 : r < 4 := by rw [hr]; omega
      have hm : (A : Int).tmod 4 = (r : Int) := by rw [hr, Int.tmod_eq_emod_of_nonneg (by omega)]; norm_cast
      have jr : (r : Int) ≤ 3 := by omega
      by_cases h3 : r = 3
      · have q3 : ((r : Int) == 3) = true := by simp; omega
        have P := ren_three old fresh keep HS.out
        have H3 : Hid (r = 3) := h3
        have HE5 : Hid (rE5 old fresh r keep = 0) := by show _ = _; rw [h3]; exact P.1
        have HF : Hid (findV (rD6 old fresh r keep) nF = 0) := by show _ = _; rw [h3]; exact P.2.1
        have HT : Hid ((theF (rD6 old fresh r keep) nF).bs = fresh) := by show _ = _; rw [h3]; exact P.2.2.1
        have HG : Hid (findV (rD6 old fresh r keep) nN = 15) := by show _ = _; rw [h3]; exact P.2.2.2
        clear P h3 hr4 hr
        go_enter Try.func5, Try.ntmps5
        go_wp2_with (fail)
        refine (shown_any w).mono ?_
        rintro e w1 ⟨rfl, hb1⟩
        go_wp2_with (fail)
        refine (newL hb1 1099511627776 (by omega)).mono ?_
        rintro e w2 ⟨b, m, S1, rfl, hL⟩
        rw [k_new] at hL
        have L2 : Hid (Lv w w2 b m S1 (kD [] true 0)) := hL
        clear hL hb1
        go_wp2_with (fail)
        refine (appendL L2.out nF (by decide) (R0.out.below L2.out.below) (by have := HS.out; show 0 + old.length ≤ _; omega) (by decide)).mono ?_
        rw [k_app0 old (by have := HS.out; omega)]
        rintro e w3 ⟨rfl, S3, hL, _⟩
        have L3 : Hid (Lv w w3 b m S3 (kD [(nF, ⟨old, 0⟩)] true 0)) := hL
        clear hL
        go_wp2_with (fail)
        refine (syncL L3.out nF (by decide)).mono ?_
        rw [k_sync]
        rintro e w4 ⟨rfl, hL, _⟩
        have L4 : Hid (Lv w w4 b m S3 (kD [(nF, ⟨old, old.length⟩)] true 0)) := hL
        clear hL
        go_wp2_with (fail)
        refine (armL L4.out (r : Int) (by omega) keep HK.out).mono ?_
        rintro e w5 ⟨rfl, hL, _⟩
        have L5 : Hid (Lv w w5 b m S3 (rD2 old r keep)) := hL
        clear hL
        go_wp2_with (fail)
        refine (appendL L5.out nN (by decide) (R1.out.below L5.out.below) (by rw [rD2_eq]; have := HS.out; show usedL [(nF, ⟨old, old.length⟩)] + fresh.length ≤ _; rw [usedL_one]; simp only; omega) (by rw [rD2_eq]; show 1 + 1 ≤ _; omega)).mono ?_
        rintro e w6 ⟨rfl, S6, hL, _⟩
        have L6 : Hid (Lv w w6 b m S6 (rD3 old fresh r keep)) := hL
        clear hL
        generalize (appendP (rD2 old r keep) nN fresh).1 = E6
        go_wp2_with (fail)
        refine (syncL L6.out nN (by decide)).mono ?_
        rintro e w7 ⟨rfl, hL, _⟩
        have L7 : Hid (Lv w w7 b m S6 (rD4 old fresh r keep)) := hL
        clear hL
        generalize (syncP (rD3 old fresh r keep) nN).1 = E7
        go_wp2_with (fail)
        refine (renameL L7.out nN (by decide) nF (by decide)).mono ?_
        rintro e w8 ⟨rfl, hL, _⟩
        have h8 : (renameP (rD4 old fresh r keep) nN nF).1 = 0 := HE5.out
        rw [h8]
        have L8 : Hid (Lv w w8 b m S6 (renameP (rD4 old fresh r keep) nN nF).2) := hL
        clear hL h8
        go_wp2_with (fail)
        refine (startL L8.out).mono ?_
        rintro e w9 ⟨rfl, hL, _⟩
        have L9 : Hid (Lv w w9 b m S6 (rD6 old fresh r keep)) := hL
        clear hL
        go_wp2_with (fail)
        refine (readL L9.out nF (by decide)).mono ?_
        rintro e w10 ⟨a10, c10, rfl, hK, hL, _⟩
        rw [HT.out] at hK
        rw [HF.out, HT.out]
        have L10 : Hid (Lv w w10 b m S6 (rD6 old fresh r keep)) := hL
        have K10 : Hid (Kp w10 S6 (.slice a10 fresh.length c10) fresh) := hK
        clear hL hK
        go_wp2_with (fail)
        refine (readL L10.out nN (by decide)).mono ?_
        rintro e w11 ⟨a11, c11, rfl, _, hL, hst⟩
        rw [HG.out]
        generalize (theF (rD6 old fresh r keep) nN).bs.length = NL
        have L11 : Hid (Lv w w11 b m S6 (rD6 old fresh r keep)) := hL
        have s1 := own_string (K10.out.st hst).own
        have s2 := (R1.out.below L11.out.below).string
        clear hL hst
        go_wp2_with (fail)
        go_ret
        exact ⟨rfl, L11.out.below⟩
      · have q3 : ((r : Int) == 3) = false := by simp; omega
        have P := ren_less old fresh r keep (by omega) HS.out
        have HE5 : Hid (rE5 old fresh r keep = 13) := P.1
        have HF : Hid (findV (rD6 old fresh r keep) nF = 0) := P.2.1
        have HT : Hid ((theF (rD6 old fresh r keep) nF).bs = old) := P.2.2
        clear P h3 hr4 hr
        go_enter Try.func5, Try.ntmps5
        go_wp2_with (fail)
        refine (shown_any w).mono ?_
        rintro e w1 ⟨rfl, hb1⟩
        go_wp2_with (fail)
        refine (newL hb1 1099511627776 (by omega)).mono ?_
        rintro e w2 ⟨b, m, S1, rfl, hL⟩
        rw [k_new] at hL
        have L2 : Hid (Lv w w2 b m S1 (kD [] true 0)) := hL
        clear hL hb1
        go_wp2_with (fail)
        refine (appendL L2.out nF (by decide) (R0.out.below L2.out.below) (by have := HS.out; show 0 + old.length ≤ _; omega) (by decide)).mono ?_
        rw [k_app0 old (by have := HS.out; omega)]
        rintro e w3 ⟨rfl, S3, hL, _⟩
        have L3 : Hid (Lv w w3 b m S3 (kD [(nF, ⟨old, 0⟩)] true 0)) := hL
        clear hL
        go_wp2_with (fail)
        refine (syncL L3.out nF (by decide)).mono ?_
        rw [k_sync]
        rintro e w4 ⟨rfl, hL, _⟩
        have L4 : Hid (Lv w w4 b m S3 (kD [(nF, ⟨old, old.length⟩)] true 0)) := hL
        clear hL
        go_wp2_with (fail)
        refine (armL L4.out (r : Int) (by omega) keep HK.out).mono ?_
        rintro e w5 ⟨rfl, hL, _⟩
        have L5 : Hid (Lv w w5 b m S3 (rD2 old r keep)) := hL
        clear hL
        go_wp2_with (fail)
        refine (appendL L5.out nN (by decide) (R1.out.below L5.out.below) (by rw [rD2_eq]; have := HS.out; show usedL [(nF, ⟨old, old.length⟩)] + fresh.length ≤ _; rw [usedL_one]; simp only; omega) (by rw [rD2_eq]; show 1 + 1 ≤ _; omega)).mono ?_
        rintro e w6 ⟨rfl, S6, hL, _⟩
        have L6 : Hid (Lv w w6 b m S6 (rD3 old fresh r keep)) := hL
        clear hL
        generalize (appendP (rD2 old r keep) nN fresh).1 = E6
        go_wp2_with (fail)
        refine (syncL L6.out nN (by decide)).mono ?_
        rintro e w7 ⟨rfl, hL, _⟩
        have L7 : Hid (Lv w w7 b m S6 (rD4 old fresh r keep)) := hL
        clear hL
        generalize (syncP (rD3 old fresh r keep) nN).1 = E7
        go_wp2_with (fail)
        refine (renameL L7.out nN (by decide) nF (by decide)).mono ?_
        rintro e w8 ⟨rfl, hL, _⟩
        have h8 : (renameP (rD4 old fresh r keep) nN nF).1 = 13 := HE5.out
        rw [h8]
        have L8 : Hid (Lv w w8 b m S6 (renameP (rD4 old fresh r keep) nN nF).2) := hL
        clear hL h8
        go_wp2_with (fail)
        refine (startL L8.out).mono ?_
        rintro e w9 ⟨rfl, hL, _⟩
        have L9 : Hid (Lv w w9 b m S6 (rD6 old fresh r keep)) := hL
        clear hL
        go_wp2_with (fail)
        refine (readL L9.out nF (by decide)).mono ?_
        rintro e w10 ⟨a10, c10, rfl, hK, hL, _⟩
        rw [HT.out] at hK
        rw [HF.out, HT.out]
        have L10 : Hid (Lv w w10 b m S6 (rD6 old fresh r keep)) := hL
        have K10 : Hid (Kp w10 S6 (.slice a10 old.length c10) old) := hK
        clear hL hK
        go_wp2_with (fail)
        refine (readL L10.out nN (by decide)).mono ?_
        rintro e w11 ⟨a11, c11, rfl, _, hL, hst⟩
        generalize findV (rD6 old fresh r keep) nN = E11
        generalize (theF (rD6 old fresh r keep) nN).bs.length = NL
        have L11 : Hid (Lv w w11 b m S6 (rD6 old fresh r keep)) := hL
        have s1 := own_string (K10.out.st hst).own
        have s2 := (R0.out.below L11.out.below).string
        clear hL hst
        go_wp2_with (fail)
        go_ret
        exact ⟨rfl, L11.out.below⟩

end Go.Proofs.Ytmkgaegodemglaa
