/- Several texts in one. -/
import Derived.Test.YtkbmblmnhhlicaaGreatDoorV02
import Derived.Test.YtkbmblmnhhlicaaGreatDoorV18
import Derived.Test.YtkbmblmnhhlicaaGreatDoorWKeeps
set_option linter.unusedVariables false
/- The document's sums and frames, walked. -/
namespace Go.Proofs.YtkbmblmnhhlicaaGreatDoor
open Go.RowKit

theorem leN_four (n : Nat) : leN 4 n = [(n % 256).toUInt8, (n / 256 % 256).toUInt8, (n / 65536 % 256).toUInt8, (n / 16777216 % 256).toUInt8] := by
  simp only [leN, Nat.div_div_eq_div_mul]
theorem leN_eight (n : Nat) : leN 8 n = leN 4 n ++ leN 4 (n / 4294967296) := by
  rw [leN_four, leN_four]
  simp only [leN, Nat.div_div_eq_div_mul, List.cons_append, List.nil_append]

set_option maxHeartbeats 1000000 in
set_option maxRecDepth 20000 in
theorem four_any (n : Nat) (hn : n < 4294967296) (w : World) : Calls Tryz.prog 114 #[.int .u32 (n : Int)] w fun e w' => ∃ v, e = .returned v ∧ OwnB w' w.heap.size v (leN 4 n) ∧ Below w.heap.size w w' := by
  obtain ⟨a0, h0⟩ : ∃ a, n % 256 = a := ⟨_, rfl⟩
  obtain ⟨a1, h1⟩ : ∃ a, n / 256 % 256 = a := ⟨_, rfl⟩
  obtain ⟨a2, h2⟩ : ∃ a, n / 65536 % 256 = a := ⟨_, rfl⟩
  obtain ⟨a3, h3⟩ : ∃ a, n / 16777216 % 256 = a := ⟨_, rfl⟩
  have e0 : IntKind.u8.wrap (n : Int) = (a0 : Int) := by rw [IntKind.wrap_u8]; omega
  have e1 : IntKind.u8.wrap ((n : Int) / 256) = (a1 : Int) := by rw [IntKind.wrap_u8]; omega
  have e2 : IntKind.u8.wrap ((n : Int) / 65536) = (a2 : Int) := by rw [IntKind.wrap_u8]; omega
  have e3 : IntKind.u8.wrap ((n : Int) / 16777216) = (a3 : Int) := by rw [IntKind.wrap_u8]; omega
  have bn : (n : Int) ≤ 4294967295 := by omega
  have HL : Hid (leN 4 n = [a0.toUInt8, a1.toUInt8, a2.toUInt8, a3.toUInt8]) := by show _ = _; rw [leN_four, h0, h1, h2, h3]
  have HA : Hid (a0 < 256 ∧ a1 < 256 ∧ a2 < 256 ∧ a3 < 256) := by show _ ∧ _; omega
  clear hn h0 h1 h2 h3
  go_enter Tryz.func114, Tryz.ntmps114
  go_wp2_with (fail)
  go_ret
  refine ⟨_, rfl, ?_, (Below.refl _ w).alloc (Nat.le_refl _) _⟩
  rw [HL.out]
  obtain ⟨g0, g1, g2, g3⟩ := HA.out
  refine ⟨rfl, .inr ⟨w.heap.size, 4, #[.int .u8 (a0 : Int), .int .u8 (a1 : Int), .int .u8 (a2 : Int), .int .u8 (a3 : Int)], rfl, Nat.le_refl _, ?_, Nat.le_refl _, by unfold maxLen; omega, rfl, ?_⟩⟩
  · exact heap_alloc_new _ _
  · simp [Lib.byteCells]
    omega

def itB : Nat → Nat → Nat
  | 0, v => v
  | n + 1, v => itB n (bit1 v)
theorem itB_eight (s : Nat) : itB 8 s = bits8 s := rfl

set_option maxHeartbeats 2000000 in
set_option maxRecDepth 20000 in
theorem rcrc_any {w : World} {a : Option Addr} {n c : Nat} {l : List UInt8} (h : BRow w a n c l) (hn : n ≤ 140737488355328) :
    Calls Tryz.prog 157 #[.slice a n c] w fun e w' => e = .returned (.int .u32 ((crcL l : Nat) : Int)) ∧ w' = w := by
  obtain ⟨T, hT⟩ : ∃ T, crcR 4294967295 l = T := ⟨_, rfl⟩
  have hTl : T < 4294967296 := by rw [← hT]; exact crcR_lt (by decide)
  have hfin : bits .xor .u32 (T : Int) 4294967295 = ((crcL l : Nat) : Int) := by
    have := xor32 T 4294967295 hTl (by decide)
    rw [show ((4294967295 : Nat) : Int) = 4294967295 from rfl] at this
    rw [this]
    unfold crcL
    rw [hT]
  generalize crcL l = R at hfin ⊢
  have HR : Hid (BRow w a n c l) := h
  have HL : Hid (l.length = n) := h.1
  have HT : Hid (crcR 4294967295 l = T) := hT
  have bn : (n : Int) ≤ 140737488355328 := by omega
  clear h hT hTl hn
  go_enter Tryz.func157, Tryz.ntmps157
  go_wp2
  go_loopw [3, 4] (fun x i wr => Hid (wr = w) ∧ ∃ (k s : Nat), x = .int .u32 s ∧ i = .int .i64 k ∧ k ≤ n ∧ Hid (s < 4294967296) ∧ Hid (crcR s (l.drop k) = T)) (fun _ i _ => n - (intOf i).toNat)
  case atStart => exact ⟨rfl, 0, 4294967295, rfl, rfl, by omega, by show (4294967295 : Nat) < 4294967296; decide, by show crcR _ (l.drop 0) = T; simpa using HT.out⟩
  case round =>
    obtain ⟨HW, k, s, rfl, rfl, hk, HS, HG⟩ := hrel
    obtain rfl : w = wr := HW.out.symm
    by_cases hlt : k < n
    · obtain ⟨x, rfl, hc⟩ := HR.out.at k hlt
      have hdr : l.drop k = l.getD k 0 :: l.drop (k + 1) := by
        have := HL.out
        rw [List.drop_eq_getElem_cons (by omega)]
        congr 1
        simp [List.getD_eq_getElem?_getD, this.symm ▸ hlt]
      generalize l.getD k 0 = cc at hc hdr
      have HG2 := HG.out
      rw [hdr] at HG2
      obtain ⟨v, hv⟩ : ∃ v, cc.toNat = v := ⟨_, rfl⟩
      have hv256 : v < 256 := by have := cc.toNat_lt; omega
      rw [hv] at hc
      obtain ⟨s1, hs1⟩ : ∃ s1, s ^^^ v = s1 := ⟨_, rfl⟩
      have l1 : s1 < 4294967296 := by rw [← hs1]; exact xor_lt32 HS.out (by omega)
      have e1 : bits .xor .u32 (s : Int) (v : Int) = (s1 : Int) := by rw [xor32 _ _ HS.out (by omega), hs1]
      obtain ⟨M, hM⟩ : ∃ M, bits8 s1 = M := ⟨_, rfl⟩
      have HM : Hid (itB 8 s1 = M) := hM
      have HN : Hid (crcR M (l.drop (k + 1)) = T) := by
        show _ = _
        rw [← HG2, ← hM, ← hs1, ← hv, ← crcB_bits]
        rfl
      have HL1 : Hid (s1 < 4294967296) := l1
      have bv : (v : Int) ≤ 255 := by omega
      have b1 : (k : Int) < (n : Int) := by omega
      clear HG HG2 hdr hs1 l1 hM
      go_wp2
      go_loopw [3, 5] (fun x i w2 => Hid (w2 = w) ∧ ∃ (j u : Nat), x = .int .u32 u ∧ i = .int .i64 j ∧ j ≤ 8 ∧ Hid (u < 4294967296) ∧ Hid (itB (8 - j) u = M)) (fun _ i _ => 8 - (intOf i).toNat)
      case atStart => exact ⟨rfl, 0, s1, rfl, rfl, by omega, HL1, HM⟩
      case round =>
        obtain ⟨HW2, j, u, rfl, rfl, hj8, HU, HI⟩ := hrel
        obtain rfl : w = wr := HW2.out.symm
        by_cases hjl : j < 8
        · have HI2 := HI.out
          rw [show 8 - j = (8 - (j + 1)) + 1 by omega, itB] at HI2
          have HI3 : Hid (itB (8 - (j + 1)) (bit1 u) = M) := HI2
          have hlt2 := bit1_lt HU.out
          obtain ⟨o, ho⟩ : ∃ o, u % 2 = o := ⟨_, rfl⟩
          have ea : bits .and .u32 (u : Int) 1 = (o : Int) := by
            have := u32_and_nat u 1 HU.out (by decide)
            rw [show ((1 : Nat) : Int) = 1 from rfl] at this
            rw [this, Nat.and_one_is_mod, ho]
          have bu : (u : Int) ≤ 4294967295 := by have := HU.out; omega
          have bj : (j : Int) < 8 := by omega
          by_cases ho1 : o = 1
          · subst ho1
            have hb1 : bit1 u = u / 2 ^^^ crcP := by unfold bit1; rw [if_pos ho]
            obtain ⟨u2, hu2⟩ : ∃ u2, u / 2 ^^^ crcP = u2 := ⟨_, rfl⟩
            have ex : bits .xor .u32 ((u : Int) / 2) 3988292384 = (u2 : Int) := by
              have := xor32 (u / 2) 3988292384 (by have := HU.out; omega) (by decide)
              rw [show ((u / 2 : Nat) : Int) = (u : Int) / 2 from rfl, show ((3988292384 : Nat) : Int) = 3988292384 from rfl] at this
              rw [this, ← hu2]
            rw [hb1, hu2] at HI3 hlt2
            have HU2 : Hid (u2 < 4294967296) := hlt2
            clear hb1 hu2 ho HI HI2 hlt2
            go_wp2
            go_roundw
            case rel => first | exact ⟨True.intro, j + 1, u2, rfl, by go_num, by omega, HU2, HI3⟩ | exact ⟨rfl, j + 1, u2, rfl, by go_num, by omega, HU2, HI3⟩
            case measure => simp [intOf]; omega
          · have ho0 : o = 0 := by omega
            subst ho0
            have hb1 : bit1 u = u / 2 := by unfold bit1; rw [if_neg (by omega)]
            obtain ⟨u2, hu2⟩ : ∃ u2, u / 2 = u2 := ⟨_, rfl⟩
            have ex : (u : Int) / 2 = (u2 : Int) := by omega
            rw [hb1, hu2] at HI3 hlt2
            have HU2 : Hid (u2 < 4294967296) := hlt2
            clear hb1 hu2 ho ho1 HI HI2 hlt2
            go_wp2
            go_roundw
            case rel => first | exact ⟨True.intro, j + 1, u2, rfl, by go_num, by omega, HU2, HI3⟩ | exact ⟨rfl, j + 1, u2, rfl, by go_num, by omega, HU2, HI3⟩
            case measure => simp [intOf]; omega
        · have hj : j = 8 := by omega
          subst hj
          have HI2 : u = M := HI.out
          subst HI2
          have HU3 := HU
          clear HI
          go_wp2
          go_roundw
          case rel => first | exact ⟨True.intro, k + 1, u, rfl, by go_num, by omega, HU3, HN⟩ | exact ⟨rfl, k + 1, u, rfl, by go_num, by omega, HU3, HN⟩
          case measure => simp [intOf]; omega
    · have hkn : k = n := by omega
      subst hkn
      have HG2 := HG.out
      rw [List.drop_of_length_le (by have := HL.out; omega)] at HG2
      obtain rfl : s = T := HG2
      clear HG
      go_wp2
      go_ret
      exact ⟨rfl, rfl⟩

set_option maxHeartbeats 2000000 in
set_option maxRecDepth 20000 in
theorem rsum_any {w : World} (i : Nat) (hi : i < 4294967296) {a : Option Addr} {n c : Nat} {l : List UInt8} (h : BRow w a n c l) (hn : n ≤ 1099511627776) :
    Calls Tryz.prog 115 #[.int .i64 (i : Int), .slice a n c] w fun e w' => e = .returned (.int .u32 ((sumL i l : Nat) : Int)) ∧ Below w.heap.size w w' := by
  have HLn : Hid (l.length = n) := h.1
  have hL8 : leN 8 i = leN 4 i ++ leN 4 0 := by rw [leN_eight, Nat.div_eq_of_lt hi]
  obtain ⟨R, hR⟩ : ∃ R, sumL i l = R := ⟨_, rfl⟩
  have HR : Hid (crcL (leN 4 i ++ (leN 4 0 ++ l)) = R) := by show _ = _; rw [← List.append_assoc, ← hL8]; exact hR
  rw [hR]
  have HRow : Hid (BRow w a n c l) := h
  have H4 : Hid (∀ u, Calls Tryz.prog 114 #[.int .u32 (i : Int)] u fun e w' => ∃ v, e = .returned v ∧ OwnB w' u.heap.size v (leN 4 i) ∧ Below u.heap.size u w') := fun u => four_any i hi u
  have H0 : Hid (∀ u, Calls Tryz.prog 114 #[.int .u32 0] u fun e w' => ∃ v, e = .returned v ∧ OwnB w' u.heap.size v (leN 4 0) ∧ Below u.heap.size u w') := fun u => four_any 0 (by decide) u
  have bi : (i : Int) ≤ 4294967295 := by omega
  have ed : (i : Int) / 4294967296 = 0 := by omega
  have Hn : Hid (n ≤ 1099511627776) := hn
  clear h hi hL8 hR hn
  go_enter Tryz.func115, Tryz.ntmps115
  go_wp2_with (fail)
  refine (H4.out _).mono ?_
  rintro e w1 ⟨v1, rfl, ho1, hb1⟩
  have HO1 : Hid (OwnB w1 w.heap.size v1 (leN 4 i)) := ho1
  have HB1 : Hid (Below w.heap.size w w1) := hb1
  clear ho1 hb1
  go_wp2_with (fail)
  refine (H0.out _).mono ?_
  rintro e w2 ⟨v2, rfl, ho2, hb2⟩
  obtain ⟨a2, c2, hv2⟩ := own_slice ho2
  subst hv2
  have hr2 := own_brow ho2
  rw [leN_length] at hr2 ⊢
  have HR2 : Hid (BRow w2 a2 4 c2 (leN 4 0)) := hr2
  have HO2 : Hid (OwnB w2 w.heap.size v1 (leN 4 i)) := own_below2 HO1.out hb2
  have HB2 : Hid (Below w.heap.size w w2) := HB1.out.trans (hb2.mono HB1.out.size)
  clear hr2 ho2 hb2 HO1 HB1
  go_wp2_with (at_builtin; refine wpList_copy HO2.out HR2.out ?c1 HB2.out.size rfl _ _ rfl rfl rfl ?_)
  case c1 => rw [leN_length]; omega
  intro v3 w3 ho3 hb3
  have HO3 : Hid (OwnB w3 w.heap.size v3 (leN 4 i ++ leN 4 0)) := ho3
  have HB3 : Hid (Below w.heap.size w w3) := HB2.out.trans hb3
  clear ho3 hb3 HO2 HB2 HR2
  go_wp2_with (at_builtin; refine wpList_copy HO3.out (HRow.out.below HB3.out) ?c2 HB3.out.size rfl _ _ rfl rfl rfl ?_)
  case c2 => have := Hn.out; rw [List.length_append, leN_length, leN_length]; omega
  intro v4 w4 ho4 hb4
  obtain ⟨a4, c4, hv4⟩ := own_slice ho4
  subst hv4
  have hr4 := own_brow ho4
  have hC := rcrc_any hr4 (by have := Hn.out; have := HLn.out; simp only [List.length_append, leN_length]; omega)
  rw [HR.out] at hC
  have HB4 : Hid (Below w.heap.size w w4) := HB3.out.trans hb4
  generalize (leN 4 i ++ (leN 4 0 ++ l)).length = nn at hC ⊢
  clear hr4 ho4 hb4
  go_wp2_with (fail)
  refine hC.mono ?_
  rintro e w5 ⟨rfl, hw⟩
  subst hw
  clear hC
  go_wp2_with (fail)
  go_ret
  exact ⟨rfl, HB4.out⟩

set_option maxHeartbeats 2000000 in
set_option maxRecDepth 20000 in
theorem rframe_any {w : World} (i : Nat) (hi : i < 4294967296) {a : Option Addr} {n c : Nat} {l : List UInt8} (h : BRow w a n c l) (hn : n < 4294967296) :
    Calls Tryz.prog 45 #[.int .i64 (i : Int), .slice a n c] w fun e w' => ∃ v, e = .returned v ∧ OwnB w' w.heap.size v (frameL i l) ∧ Below w.heap.size w w' := by
  have HLn : Hid (l.length = n) := h.1
  have HRow : Hid (BRow w a n c l) := h
  obtain ⟨Z, hZ⟩ : ∃ Z, sumL i l = Z := ⟨_, rfl⟩
  have hZl : Z < 4294967296 := by rw [← hZ]; exact sumL_lt i l
  have HFr : Hid (leN 4 n ++ (leN 4 Z ++ l) = frameL i l) := by show _ = _; unfold frameL; rw [hZ, h.1, List.append_assoc]
  have HS : Hid (∀ u, Below w.heap.size w u → Calls Tryz.prog 115 #[.int .i64 (i : Int), .slice a n c] u fun e w' => e = .returned (.int .u32 (Z : Int)) ∧ Below u.heap.size u w') := fun u hu => by
    have := rsum_any i hi (h.below hu) (by omega)
    rw [hZ] at this
    exact this
  have H4 : Hid (∀ u, Calls Tryz.prog 114 #[.int .u32 (n : Int)] u fun e w' => ∃ v, e = .returned v ∧ OwnB w' u.heap.size v (leN 4 n) ∧ Below u.heap.size u w') := fun u => four_any n hn u
  have H5 : Hid (∀ u, Calls Tryz.prog 114 #[.int .u32 (Z : Int)] u fun e w' => ∃ v, e = .returned v ∧ OwnB w' u.heap.size v (leN 4 Z) ∧ Below u.heap.size u w') := fun u => four_any Z hZl u
  have bn : (n : Int) ≤ 4294967295 := by omega
  have Hn : Hid (n < 4294967296) := hn
  clear h hi hZ hZl hn
  go_enter Tryz.func45, Tryz.ntmps45
  go_wp2_with (fail)
  refine (H4.out _).mono ?_
  rintro e w1 ⟨v1, rfl, ho1, hb1⟩
  have HO1 : Hid (OwnB w1 w.heap.size v1 (leN 4 n)) := ho1
  have HB1 : Hid (Below w.heap.size w w1) := hb1
  clear ho1 hb1
  go_wp2_with (fail)
  refine (HS.out _ HB1.out).mono ?_
  rintro e w2 ⟨rfl, hb2⟩
  have HO2 : Hid (OwnB w2 w.heap.size v1 (leN 4 n)) := own_below2 HO1.out hb2
  have HB2 : Hid (Below w.heap.size w w2) := HB1.out.trans (hb2.mono HB1.out.size)
  clear hb2 HO1 HB1 HS H4
  go_wp2_with (fail)
  refine (H5.out _).mono ?_
  rintro e w3 ⟨v3, rfl, ho3, hb3⟩
  obtain ⟨a3, c3, hv3⟩ := own_slice ho3
  subst hv3
  have hr3 := own_brow ho3
  rw [leN_length] at hr3 ⊢
  have HR3 : Hid (BRow w3 a3 4 c3 (leN 4 Z)) := hr3
  have HO3 : Hid (OwnB w3 w.heap.size v1 (leN 4 n)) := own_below2 HO2.out hb3
  have HB3 : Hid (Below w.heap.size w w3) := HB2.out.trans (hb3.mono HB2.out.size)
  clear hr3 ho3 hb3 HO2 HB2 H5
  go_wp2_with (at_builtin; refine wpList_copy HO3.out HR3.out ?c1 HB3.out.size rfl _ _ rfl rfl rfl ?_)
  case c1 => rw [leN_length]; omega
  intro v4 w4 ho4 hb4
  have HO4 : Hid (OwnB w4 w.heap.size v4 (leN 4 n ++ leN 4 Z)) := ho4
  have HB4 : Hid (Below w.heap.size w w4) := HB3.out.trans hb4
  clear ho4 hb4 HO3 HB3 HR3
  go_wp2_with (at_builtin; refine wpList_copy HO4.out (HRow.out.below HB4.out) ?c2 HB4.out.size rfl _ _ rfl rfl rfl ?_)
  case c2 => have := Hn.out; rw [List.length_append, leN_length, leN_length]; omega
  intro v5 w5 ho5 hb5
  rw [HFr.out] at ho5
  have HO5 : Hid (OwnB w5 w.heap.size v5 (frameL i l)) := ho5
  have HB5 : Hid (Below w.heap.size w w5) := HB4.out.trans hb5
  clear ho5 hb5
  go_wp2_with (fail)
  go_ret
  exact ⟨_, rfl, HO5.out, HB5.out⟩
end Go.Proofs.YtkbmblmnhhlicaaGreatDoor

/- What shown meets, over lists. -/
namespace Go.Proofs.YtkbmblmnhhlicaaGreatDoor

def sw1 : Dk := (openP (newD 1000)).2.1
def sw2 : Dk := (wappP sw1 [⟨1, [0]⟩] [97, 98]).2.1
def sw3 : Dk := (syncP sw2 (nameL 1)).2
def sw4 : Dk := (wappP sw3 [⟨1, [0, 10]⟩] [99]).2.1
def sw5 : Dk := startD (crashD sw4 3)
def sw6 : Dk := (openP sw5).2.1
theorem sw_e1 : openP (newD 1000) = (0, sw1, [⟨1, [0]⟩]) := by kernel_rfl
theorem sw_e2 : wappP sw1 [⟨1, [0]⟩] [97, 98] = (0, sw2, [⟨1, [0, 10]⟩]) := by kernel_rfl
theorem sw_e3 : syncP sw2 (nameL 1) = (0, sw3) := by kernel_rfl
theorem sw_e4 : wappP sw3 [⟨1, [0, 10]⟩] [99] = (0, sw4, [⟨1, [0, 10, 19]⟩]) := by kernel_rfl
theorem sw_e5 : openP sw5 = (0, sw6, [⟨1, [0, 10]⟩]) := by kernel_rfl
theorem sw_u1 : usedL sw1.files = 0 ∧ sw1.files.length = 1 := by constructor <;> kernel_rfl
theorem sw_u2 : usedL sw2.files = 10 ∧ sw2.files.length = 1 := by constructor <;> kernel_rfl
theorem sw_u3 : usedL sw3.files = 10 ∧ sw3.files.length = 1 := by constructor <;> kernel_rfl
theorem sw_u5 : usedL sw5.files = 13 ∧ sw5.files.length = 1 ∧ sw5.files.all (fun x => decide (x.1.length ≤ 32)) = true := by refine ⟨?_, ?_, ?_⟩ <;> kernel_rfl
theorem sw_u6 : usedL sw6.files = 10 ∧ findV sw6 (nameL 1) = 0 ∧ (theF sw6 (nameL 1)).bs = frameL 1 [97, 98] := by refine ⟨?_, ?_, ?_⟩ <;> kernel_rfl
theorem sw_n1 : nameL 1 = [108, 111, 103, 46, 48, 48, 48, 48, 48, 49] := by kernel_rfl
theorem sw_g : ((frameL 1 [97, 98]).drop 8).take 2 = [97, 98] := by kernel_rfl

end Go.Proofs.YtkbmblmnhhlicaaGreatDoor
