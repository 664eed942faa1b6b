/- DiskKeeps, walked. -/
import Derived.Test.YtmkgaegodemglaaDBeg
set_option linter.unusedVariables false
namespace Go.Proofs.Ytmkgaegodemglaa
open Go.RowKit

abbrev nF : Nm := [102]
abbrev nG : Nm := [103]
/-- A disk of the laws' room, not armed. -/
abbrev kD (l : Fls) (up : Bool) (falls : Int) : Dk := ⟨1099511627776, l, up, -1, falls, 0⟩

theorem usedL_nil : usedL [] = 0 := rfl
theorem usedL_one (n : Nm) (f : Fl) : usedL [(n, f)] = f.bs.length := by simp [usedL]
theorem usedL_two (n k : Nm) (f g : Fl) : usedL [(n, f), (k, g)] = f.bs.length + g.bs.length := by simp [usedL]

theorem k_new : newD 1099511627776 = kD [] true 0 := rfl
theorem k_app0 (one : List UInt8) (h : one.length ≤ 100000) : appendP (kD [] true 0) nF one = (0, kD [(nF, ⟨one, 0⟩)] true 0) := by
  rw [append_idle rfl rfl (by show 0 + one.length ≤ 1099511627776; omega) (by show (-1 : Int) < 0; omega)]
  rfl
theorem k_sync (one : List UInt8) : syncP (kD [(nF, ⟨one, 0⟩)] true 0) nF = (0, kD [(nF, ⟨one, one.length⟩)] true 0) := by
  rw [sync_idle rfl (by show (-1 : Int) < 0; omega)]
  rfl
theorem k_app1 (one more : List UInt8) (h : one.length + more.length ≤ 100000) : appendP (kD [(nF, ⟨one, one.length⟩)] true 0) nF more = (0, kD [(nF, ⟨one ++ more, one.length⟩)] true 0) := by
  rw [append_idle rfl rfl (by show usedL [(nF, ⟨one, one.length⟩)] + more.length ≤ 1099511627776; rw [usedL_one]; simp only; omega) (by show (-1 : Int) < 0; omega)]
  rfl
theorem k_app2 (x two : List UInt8) (k : Nat) (h : x.length + two.length ≤ 100000) : appendP (kD [(nF, ⟨x, k⟩)] true 0) nG two = (0, kD [(nF, ⟨x, k⟩), (nG, ⟨two, 0⟩)] true 0) := by
  rw [append_idle rfl rfl (by show usedL [(nF, ⟨x, k⟩)] + two.length ≤ 1099511627776; rw [usedL_one]; simp only; omega) (by show (-1 : Int) < 0; omega)]
  rfl
theorem k_crash (f g : Fl) (keep : Nat) (c : Int) (c' : Int) (hc : IntKind.i64.wrap (c + 1) = c') : crashD (kD [(nF, f), (nG, g)] true c) keep = kD [(nF, fallF keep 0 f), (nG, fallF keep 1 g)] false c' := by
  subst hc
  rfl

theorem not_u64 (keep : Nat) (h : keep < 18446744073709551616) : ∃ K : Nat, K < 18446744073709551616 ∧ bits .xor .u64 IntKind.u64.max (keep : Int) = (K : Int) := by
  have h1 : IntKind.u64.max = ((18446744073709551615 : Nat) : Int) := by decide
  refine ⟨18446744073709551615 ^^^ keep, ?_, ?_⟩
  · have := Nat.xor_lt_two_pow (x := 18446744073709551615) (y := keep) (n := 64) (by decide) (by simpa using h)
    simpa using this
  · rw [h1, u64_xor_nat _ _ (by decide) h]

set_option maxHeartbeats 4000000 in
set_option maxRecDepth 20000 in
theorem wkeeps (a0 : Option Addr) (n0 c0 : Nat) (one : List UInt8) (hl0 : n0 ≤ 140737488351232) (a1 : Option Addr) (n1 c1 : Nat) (more : List UInt8) (hl1 : n1 ≤ 140737488351232) (a2 : Option Addr) (n2 c2 : Nat) (two : List UInt8) (hl2 : n2 ≤ 140737488351232)
    (keep : Nat) (hk : keep < 18446744073709551616) (w : World) (r0 : BRow w a0 n0 c0 one) (r1 : BRow w a1 n1 c1 more) (r2 : BRow w a2 n2 c2 two) (hc2 : n2 ≤ c2) :
    Calls Try.prog 4 #[.slice a0 n0 c0, .slice a1 n1 c1, .slice a2 n2 c2, .int .u64 (keep : Int)] w fun e w' => e = .returned (.bool true) ∧ Below w.heap.size w w' := by
  have z0 := r0.1
  have z1 := r1.1
  have z2 := r2.1
  subst z0 z1 z2
  have R0 : Hid (BRow w a0 one.length c0 one) := r0
  have R1 : Hid (BRow w a1 more.length c1 more) := r1
  have R2 : Hid (BRow w a2 two.length c2 two) := r2
  have j0 : (one.length : Int) ≤ 140737488351232 := by omega
  have j1 : (more.length : Int) ≤ 140737488351232 := by omega
  have j2 : (two.length : Int) ≤ 140737488351232 := by omega
  have HC2 : Hid (two.length ≤ c2) := hc2
  have HK : Hid (keep < 18446744073709551616) := hk
  clear r0 r1 r2 hl0 hl1 hl2 hc2 hk
  by_cases hbig : (100000 : Int) < (one.length : Int) + (more.length : Int) + (two.length : Int)
  · have q : decide ((100000 : Int) < (one.length : Int) + (more.length : Int) + (two.length : Int)) = true := by simpa using hbig
    go_enter Try.func4, Try.ntmps4
    go_wp2_with (fail)
    refine (shown_any w).mono ?_
    rintro e w1 ⟨rfl, hb1⟩
    go_wp2_with (fail)
    refine (newL hb1 1099511627776 (by omega)).mono ?_
    rintro e w2 ⟨b, m, S1, rfl, hL⟩
    have HB : Hid (Below w.heap.size w w2) := hL.below
    clear hL hb1
    go_wp2_with (fail)
    go_ret
    exact ⟨rfl, HB.out⟩
  · have q : decide ((100000 : Int) < (one.length : Int) + (more.length : Int) + (two.length : Int)) = false := by simpa using hbig
    have HS : Hid (one.length + more.length + two.length ≤ 100000) := by show _ ≤ _; omega
    clear hbig
    go_enter Try.func4, Try.ntmps4
    go_wp2_with (fail)
    refine (shown_any w).mono ?_
    rintro e w1 ⟨rfl, hb1⟩
    go_wp2_with (fail)
    refine (newL hb1 1099511627776 (by omega)).mono ?_
    rintro e w2 ⟨b, m, S1, rfl, hL⟩
    rw [k_new] at hL
    have L2 : Hid (Lv w w2 b m S1 (kD [] true 0)) := hL
    clear hL hb1
    go_wp2_with (fail)
    refine (appendL L2.out nF (by decide) (R0.out.below L2.out.below) (by have := HS.out; show 0 + one.length ≤ _; omega) (by decide)).mono ?_
    rw [k_app0 one (by have := HS.out; omega)]
    rintro e w3 ⟨rfl, S3, hL, _⟩
    have L3 : Hid (Lv w w3 b m S3 (kD [(nF, ⟨one, 0⟩)] true 0)) := hL
    clear hL
    go_wp2_with (fail)
    refine (syncL L3.out nF (by decide)).mono ?_
    rw [k_sync]
    rintro e w4 ⟨rfl, hL, _⟩
    have L4 : Hid (Lv w w4 b m S3 (kD [(nF, ⟨one, one.length⟩)] true 0)) := hL
    clear hL
    go_wp2_with (fail)
    refine (appendL L4.out nF (by decide) (R1.out.below L4.out.below) (by have := HS.out; rw [usedL_one]; simp only; omega) (by simp)).mono ?_
    rw [k_app1 one more (by have := HS.out; omega)]
    rintro e w5 ⟨rfl, S5, hL, _⟩
    have L5 : Hid (Lv w w5 b m S5 (kD [(nF, ⟨one ++ more, one.length⟩)] true 0)) := hL
    clear hL
    go_wp2_with (fail)
    refine (appendL L5.out nG (by decide) (R2.out.below L5.out.below) (by have := HS.out; rw [usedL_one]; simp only [List.length_append]; omega) (by simp)).mono ?_
    rw [k_app2 (one ++ more) two one.length (by have := HS.out; rw [List.length_append]; omega)]
    rintro e w6 ⟨rfl, S6, hL, _⟩
    have L6 : Hid (Lv w w6 b m S6 (kD [(nF, ⟨one ++ more, one.length⟩), (nG, ⟨two, 0⟩)] true 0)) := hL
    clear hL
    obtain ⟨X, sX, hX⟩ : ∃ X sX, fallF keep 0 ⟨one ++ more, one.length⟩ = ⟨X, sX⟩ := ⟨_, _, rfl⟩
    obtain ⟨Y, sY, hY⟩ : ∃ Y sY, fallF keep 1 ⟨two, 0⟩ = ⟨Y, sY⟩ := ⟨_, _, rfl⟩
    have hsX := stay_le (keep := keep) (i := 0) (f := ⟨one ++ more, one.length⟩) (by simp)
    have hsY := stay_le (keep := keep) (i := 1) (f := ⟨two, 0⟩) (Nat.zero_le _)
    have hlX := fallF_len (keep := keep) (i := 0) (f := ⟨one ++ more, one.length⟩) (by simp)
    have hlY := fallF_len (keep := keep) (i := 1) (f := ⟨two, 0⟩) (Nat.zero_le _)
    have hx1 : X = (one ++ more).take (stay keep 0 ⟨one ++ more, one.length⟩) := by have := congrArg Fl.bs hX; exact this.symm
    have hx2 : sX = stay keep 0 ⟨one ++ more, one.length⟩ := by have := congrArg Fl.la hX; exact this.symm
    have hy1 : Y = two.take (stay keep 1 ⟨two, 0⟩) := by have := congrArg Fl.bs hY; exact this.symm
    have hy2 : sY = stay keep 1 ⟨two, 0⟩ := by have := congrArg Fl.la hY; exact this.symm
    rw [hX] at hlX
    rw [hY] at hlY
    simp only [List.length_append] at hsX hsY hlX hlY
    have hxs : sX = X.length := by rw [hlX]; exact hx2
    have hys : sY = Y.length := by rw [hlY]; exact hy2
    subst hxs hys
    have HX : Hid (X <+: one ++ more ∧ one.length ≤ X.length ∧ X.length ≤ 100000) := by
      refine ⟨?_, by omega, by have := HS.out; omega⟩
      rw [hx1]; exact List.take_prefix _ _
    have HY : Hid (Y <+: two ∧ Y.length ≤ 100000) := by
      refine ⟨?_, by have := HS.out; omega⟩
      rw [hy1]; exact List.take_prefix _ _
    have HXK : Hid (crashD (kD [(nF, ⟨one ++ more, one.length⟩), (nG, ⟨two, 0⟩)] true 0) keep = kD [(nF, ⟨X, X.length⟩), (nG, ⟨Y, Y.length⟩)] false 1) := by
      show _ = _
      rw [k_crash _ _ keep 0 1 (by decide), hX, hY]
    clear hX hY hsX hsY hlX hlY hx1 hx2 hy1 hy2
    go_wp2_with (fail)
    refine (crashL L6.out keep HK.out).mono ?_
    rw [HXK.out]
    rintro e w7 ⟨rfl, hL, _⟩
    have L7 : Hid (Lv w w7 b m S6 (kD [(nF, ⟨X, X.length⟩), (nG, ⟨Y, Y.length⟩)] false 1)) := hL
    clear hL
    go_wp2_with (fail)
    refine (readL L7.out nF (by decide)).mono ?_
    rintro e w8 ⟨a8, c8, rfl, _, hL, _⟩
    have L8 : Hid (Lv w w8 b m S6 (kD [(nF, ⟨X, X.length⟩), (nG, ⟨Y, Y.length⟩)] false 1)) := hL
    have e8 : findV (kD [(nF, ⟨X, X.length⟩), (nG, ⟨Y, Y.length⟩)] false 1) nF = 13 := rfl
    rw [e8]
    clear hL e8
    go_wp2_with (fail)
    refine (appendL L8.out nF (by decide) (R2.out.below L8.out.below) (by have := HS.out; have := HX.out; have := HY.out; rw [usedL_two]; simp only; omega) (by simp)).mono ?_
    rw [append_off rfl]
    rintro e w9 ⟨rfl, S9, hL, _⟩
    have L9 : Hid (Lv w w9 b m S9 (kD [(nF, ⟨X, X.length⟩), (nG, ⟨Y, Y.length⟩)] false 1)) := hL
    clear hL
    go_wp2_with (fail)
    refine (startL L9.out).mono ?_
    rintro e w10 ⟨rfl, hL, _⟩
    have L10 : Hid (Lv w w10 b m S9 (kD [(nF, ⟨X, X.length⟩), (nG, ⟨Y, Y.length⟩)] true 1)) := hL
    clear hL
    go_wp2_with (fail)
    refine (readL L10.out nF (by decide)).mono ?_
    rintro e w11 ⟨a11, c11, rfl, hK, hL, _⟩
    have e11 : findV (kD [(nF, ⟨X, X.length⟩), (nG, ⟨Y, Y.length⟩)] true 1) nF = 0 := rfl
    have g11 : theF (kD [(nF, ⟨X, X.length⟩), (nG, ⟨Y, Y.length⟩)] true 1) nF = ⟨X, X.length⟩ := rfl
    rw [g11] at hK
    rw [e11, g11]
    have L11 : Hid (Lv w w11 b m S9 (kD [(nF, ⟨X, X.length⟩), (nG, ⟨Y, Y.length⟩)] true 1)) := hL
    have K11 : Hid (Kp w11 S9 (.slice a11 X.length c11) X) := hK
    clear hL hK e11 g11
    go_wp2_with (fail)
    refine (readL L11.out nG (by decide)).mono ?_
    rintro e w12 ⟨a12, c12, rfl, hK, hL, hst⟩
    have e12 : findV (kD [(nF, ⟨X, X.length⟩), (nG, ⟨Y, Y.length⟩)] true 1) nG = 0 := rfl
    have g12 : theF (kD [(nF, ⟨X, X.length⟩), (nG, ⟨Y, Y.length⟩)] true 1) nG = ⟨Y, Y.length⟩ := rfl
    rw [g12] at hK
    rw [e12, g12]
    have L12 : Hid (Lv w w12 b m S9 (kD [(nF, ⟨X, X.length⟩), (nG, ⟨Y, Y.length⟩)] true 1)) := hL
    have KX12 : Hid (Kp w12 S9 (.slice a11 X.length c11) X) := K11.out.st hst
    have KY12 : Hid (Kp w12 S9 (.slice a12 Y.length c12) Y) := hK
    clear hL hK e12 g12 hst
    have HBA : Hid (Below w12.heap.size w12 (w12.alloc (.cells #[] 5))) := (Below.refl _ w12).alloc (Nat.le_refl _) _
    have HW12 : Hid (Below w.heap.size w (w12.alloc (.cells #[] 5))) := L12.out.below.alloc L12.out.below.size _
    go_wp2_with (at_builtin; refine wpList_copy (own_made0 w12 w12.heap.size (Nat.le_refl _)) (R0.out.below HW12.out) ?c1 HBA.out.size rfl _ _ rfl rfl rfl ?_)
    case c1 => have := HS.out; simp; omega
    intro v13 w13 ho13 hb13
    have O13 : Hid (OwnB w13 w12.heap.size v13 ([] ++ one)) := ho13
    have B13 : Hid (Below w12.heap.size w12 w13) := HBA.out.trans hb13
    have W13 : Hid (Below w.heap.size w w13) := L12.out.below.trans (B13.out.mono L12.out.below.size)
    clear ho13 hb13
    go_wp2_with (at_builtin; refine wpList_copy O13.out (R1.out.below W13.out) ?c1 B13.out.size rfl _ _ rfl rfl rfl ?_)
    case c1 => have := HS.out; simp; omega
    intro v14 w14 ho14 hb14
    have ho14' : OwnB w14 w12.heap.size v14 (one ++ more) := by simpa using ho14
    obtain ⟨AL, hAL⟩ : ∃ AL, AL = (one ++ more).length := ⟨_, rfl⟩
    obtain ⟨a14, c14, hv14⟩ : ∃ a c, v14 = .slice a AL c := by rw [hAL]; exact own_slice ho14'
    subst hv14
    rw [hAL] at ho14'
    have CAP : Hid (AL ≤ c14) := by show _ ≤ _; rw [hAL]; exact (own_take ho14' 0 (Nat.zero_le _)).2.1
    have RA : Hid (BRow w14 a14 AL c14 (one ++ more)) := by show BRow _ _ _ _ _; rw [hAL]; exact own_brow ho14'
    have HAL : Hid (AL = (one ++ more).length) := hAL
    clear hAL ho14'
    have B14 : Hid (Below w12.heap.size w12 w14) := B13.out.trans hb14
    have L14 : Hid (Lv w w14 b m S9 (kD [(nF, ⟨X, X.length⟩), (nG, ⟨Y, Y.length⟩)] true 1)) := L12.out.same B14.out
    have KX14 : Hid (Kp w14 S9 (.slice a11 X.length c11) X) := KX12.out.same B14.out
    have KY14 : Hid (Kp w14 S9 (.slice a12 Y.length c12) Y) := KY12.out.same B14.out
    have qx : decide ((X.length : Int) < (one.length : Int)) = false := by have := HX.out; simp; omega
    have qx2 : decide (X.length < one.length) = false := by have := HX.out; simp; omega
    clear ho14 hb14
    go_wp2_with (fail)
    refine (begins_any (own_brow KX14.out.own) RA.out CAP.out (by have := HS.out; rw [HAL.out, List.length_append]; omega) HX.out.1).mono ?_
    rintro e w15 ⟨rfl, hb⟩
    have L15 : Hid (Lv w w15 b m S9 (kD [(nF, ⟨X, X.length⟩), (nG, ⟨Y, Y.length⟩)] true 1)) := L14.out.same hb
    have KX15 : Hid (Kp w15 S9 (.slice a11 X.length c11) X) := KX14.out.same hb
    have KY15 : Hid (Kp w15 S9 (.slice a12 Y.length c12) Y) := KY14.out.same hb
    clear hb
    go_wp2_with (fail)
    refine (begins_any (own_brow KY15.out.own) (R2.out.below L15.out.below) HC2.out (by have := HS.out; omega) HY.out.1).mono ?_
    rintro e w16 ⟨rfl, hb⟩
    have L16 : Hid (Lv w w16 b m S9 (kD [(nF, ⟨X, X.length⟩), (nG, ⟨Y, Y.length⟩)] true 1)) := L15.out.same hb
    have KX16 : Hid (Kp w16 S9 (.slice a11 X.length c11) X) := KX15.out.same hb
    have KY16 : Hid (Kp w16 S9 (.slice a12 Y.length c12) Y) := KY15.out.same hb
    clear hb
    obtain ⟨K2, hK2, eK2⟩ := not_u64 keep HK.out
    have HK2 : Hid (K2 < 18446744073709551616) := hK2
    clear hK2
    go_wp2_with (fail)
    refine (crashL L16.out K2 HK2.out).mono ?_
    rw [k_crash _ _ K2 1 2 (by decide), fall_lasts, fall_lasts]
    rintro e w17 ⟨rfl, hL, hst⟩
    have L17 : Hid (Lv w w17 b m S9 (kD [(nF, ⟨X, X.length⟩), (nG, ⟨Y, Y.length⟩)] false 2)) := hL
    have KX17 : Hid (Kp w17 S9 (.slice a11 X.length c11) X) := KX16.out.st hst
    have KY17 : Hid (Kp w17 S9 (.slice a12 Y.length c12) Y) := KY16.out.st hst
    clear hL hst
    go_wp2_with (fail)
    refine (startL L17.out).mono ?_
    rintro e w18 ⟨rfl, hL, hst⟩
    have L18 : Hid (Lv w w18 b m S9 (kD [(nF, ⟨X, X.length⟩), (nG, ⟨Y, Y.length⟩)] true 2)) := hL
    have KX18 : Hid (Kp w18 S9 (.slice a11 X.length c11) X) := KX17.out.st hst
    have KY18 : Hid (Kp w18 S9 (.slice a12 Y.length c12) Y) := KY17.out.st hst
    clear hL hst
    go_wp2_with (fail)
    refine (readL L18.out nF (by decide)).mono ?_
    rintro e w19 ⟨a19, c19, rfl, hK, hL, hst⟩
    have e19 : findV (kD [(nF, ⟨X, X.length⟩), (nG, ⟨Y, Y.length⟩)] true 2) nF = 0 := rfl
    have g19 : theF (kD [(nF, ⟨X, X.length⟩), (nG, ⟨Y, Y.length⟩)] true 2) nF = ⟨X, X.length⟩ := rfl
    rw [g19] at hK
    rw [e19, g19]
    have L19 : Hid (Lv w w19 b m S9 (kD [(nF, ⟨X, X.length⟩), (nG, ⟨Y, Y.length⟩)] true 2)) := hL
    have KU19 : Hid (Kp w19 S9 (.slice a19 X.length c19) X) := hK
    have KX19 : Hid (Kp w19 S9 (.slice a11 X.length c11) X) := KX18.out.st hst
    have KY19 : Hid (Kp w19 S9 (.slice a12 Y.length c12) Y) := KY18.out.st hst
    clear hL hK e19 g19 hst
    go_wp2_with (fail)
    refine (readL L19.out nG (by decide)).mono ?_
    rintro e w20 ⟨a20, c20, rfl, hK, hL, hst⟩
    have e20 : findV (kD [(nF, ⟨X, X.length⟩), (nG, ⟨Y, Y.length⟩)] true 2) nG = 0 := rfl
    have g20 : theF (kD [(nF, ⟨X, X.length⟩), (nG, ⟨Y, Y.length⟩)] true 2) nG = ⟨Y, Y.length⟩ := rfl
    rw [g20] at hK
    rw [e20, g20]
    have L20 : Hid (Lv w w20 b m S9 (kD [(nF, ⟨X, X.length⟩), (nG, ⟨Y, Y.length⟩)] true 2)) := hL
    have s1 := own_string (KU19.out.st hst).own
    have s2 := own_string (KX19.out.st hst).own
    have s3 := own_string (KY19.out.st hst).own
    have s4 := own_string hK.own
    clear hL hK e20 g20 hst
    go_wp2_with (fail)
    refine (fallsL L20.out).mono ?_
    rintro e w21 ⟨rfl, hw⟩
    subst w21
    go_wp2_with (fail)
    go_ret
    exact ⟨rfl, L20.out.below⟩

end Go.Proofs.Ytmkgaegodemglaa
