/- DiskRoom, walked. -/
import Derived.Test.YtmkgaegodemglaaWRoom0
import Derived.BigRegion
import Derived.Deep.RegionWith
set_option linter.unusedVariables false
namespace Go.Proofs.Ytmkgaegodemglaa
open Go.RowKit

set_option maxHeartbeats 4000000 in
set_option maxRecDepth 20000 in
theorem wroomn (room : Int) (hs : room < 0) (hd : -9223372036854775808 ≤ room ∧ room ≤ 9223372036854775807) (a : Option Addr) (bb oo len cap : Nat) (num : Nat → Int) (w : World)
    (e1 : 0 < len → a = some ⟨bb, oo, none⟩) (e2 : ∀ i, i < len → w.cell? ⟨bb, oo + i, none⟩ = some (.int .i64 (num i))) (e3 : len ≤ maxLen) (e4 : ∀ i, -9223372036854775808 ≤ num i ∧ num i ≤ 9223372036854775807) :
    Calls Try.prog 7 #[.int .i64 room, .slice a len cap] w fun e w' => e = .returned (.bool true) ∧ Below w.heap.size w w' := by
  have HE1 : Hid (0 < len → a = some ⟨bb, oo, none⟩) := e1
  have HE2 : Hid (∀ i, i < len → w.cell? ⟨bb, oo + i, none⟩ = some (.int .i64 (num i))) := e2
  have HE4 : Hid (∀ i, -9223372036854775808 ≤ num i ∧ num i ≤ 9223372036854775807) := e4
  have jlen : (len : Int) ≤ 9223372036854775807 := by unfold maxLen at e3; omega
  clear e1 e2 e3 e4
  have qd : decide (room < 0) = true := by simpa using hs
  obtain ⟨D, hD⟩ : ∃ D : Nat, -(room + 1) = (D : Int) := ⟨(-(room + 1)).toNat, by omega⟩
  have jD : (D : Int) ≤ 9223372036854775807 := by omega
  have jd1 : -9223372036854775808 ≤ room + 1 := by omega
  have jd2 : room + 1 ≤ 9223372036854775807 := by omega
  obtain ⟨R, hR⟩ : ∃ R : Nat, R = D % 2000 := ⟨_, rfl⟩
  have hR2 : R < 2000 := by rw [hR]; omega
  have hmD : (D : Int).tmod 2000 = (R : Int) := by rw [hR, Int.tmod_eq_emod_of_nonneg (by omega)]; norm_cast
  have jR : (R : Int) ≤ 1999 := by omega
  clear hR
  go_enter Try.func7, Try.ntmps7
  go_wp2_with (fail)
  refine (shown_any w).mono ?_
  rintro e w1 ⟨rfl, hb1⟩
  go_wp2_with (fail)
  refine (newL hb1 (R : Int) (by omega)).mono ?_
  rintro e w2 ⟨b, m, S1, rfl, hL⟩
  have L2 : Hid (Lv w w2 b m S1 (newD (R : Int))) := hL
  have R2 : Hid (RoomR R 0 (newD (R : Int))) := room_new R
  generalize newD (R : Int) = D2 at *
  clear hL hb1
  go_wp2_with (fail)
  go_loopw [7, 8] (fun n i wr => ∃ (N k : Nat) (S : Nat → Prop) (d : Dk), n = .int .i64 (N : Int) ∧ i = .int .i64 (k : Int) ∧ k ≤ len ∧ k ≤ 50 ∧ N ≤ R ∧ Hid (RoomR R N d) ∧ Hid (Lv w wr b m S d)) (fun _ i _ => len - (intOf i).toNat)
  case atStart => exact ⟨0, 0, S1, D2, rfl, rfl, Nat.zero_le _, by omega, Nat.zero_le _, R2, L2⟩
  case round =>
    obtain ⟨N, k, S, d, rfl, rfl, hkl, hk50, hNR, HR, HL⟩ := hrel
    have HRI : Hid (Rises d.files) := by obtain ⟨sl, hx⟩ := HL.out.dk; exact hx.ok.rises
    by_cases hlt : k < len
    · have dlt : decide ((k : Int) < (len : Int)) = true := by simpa using hlt
      have hlt' : (k : Int) < (len : Int) := by omega
      by_cases h50 : k < 50
      · have d50 : decide ((k : Int) < 50) = true := by simp; omega
        have h50' : (k : Int) < 50 := by omega
        have ha : a = some ⟨bb, oo, none⟩ := HE1.out (by omega)
        subst ha
        have hc0 := HE2.out k hlt
        have hcell : wr.cell? ⟨bb, oo + k, none⟩ = some (.int .i64 (num k)) := by
          rw [HL.out.below.cell (World.block_lt_of_cell? w _ hc0)]; exact hc0
        have hnk := HE4.out k
        generalize num k = z at *
        clear hc0
        obtain ⟨P, hP⟩ : ∃ P : Nat, P = k % 2 := ⟨_, rfl⟩
        have hP2 : P < 2 := by rw [hP]; omega
        have hmP : (k : Int).tmod 2 = (P : Int) := by rw [hP, Int.tmod_eq_emod_of_nonneg (by omega)]; norm_cast
        have hP2' : (P : Int) < 2 := by omega
        have HG := nmAt_get P hP2
        clear hP
        by_cases hz : z < 0
        · have qz : decide (z < 0) = true := by simpa using hz
          obtain ⟨Z, hZ⟩ : ∃ Z : Nat, -(z + 1) = (Z : Int) := ⟨(-(z + 1)).toNat, by omega⟩
          have jZ : (Z : Int) ≤ 9223372036854775807 := by omega
          have jz1 : -9223372036854775808 ≤ z + 1 := by omega
          have jz2 : z + 1 ≤ 9223372036854775807 := by omega
          obtain ⟨K, hK⟩ : ∃ K : Nat, K = Z % 300 := ⟨_, rfl⟩
          have hK3 : K < 300 := by rw [hK]; omega
          have hmZ : (Z : Int).tmod 300 = (K : Int) := by rw [hK, Int.tmod_eq_emod_of_nonneg (by omega)]; norm_cast
          have jK : (K : Int) ≤ 299 := by omega
          have jN : (N : Int) ≤ 1999 := by omega
          clear hK
          have mk := make_at K (by omega)
          have hrep : (List.replicate K (0 : UInt8)).length = K := List.length_replicate
          have PP := room_app HR.out HRI.out (nmAt_or P) (List.replicate K 0)
          rw [hrep] at PP
          have HUS : Hid (usedL d.files + (List.replicate K (0 : UInt8)).length ≤ 1099511627776 ∧ d.files.length + 1 ≤ 1048576) := by
            have := two_names HRI.out HR.out.2.2.2.2
            have := HR.out.2.2.2.1
            exact ⟨by rw [hrep]; omega, by omega⟩
          have B1 : BRow ((wr.alloc (.cells #[Value.string { data := #[97] }, Value.string { data := #[98] }] 9)).alloc (.cells (zeros K) 5)).drew (some ⟨wr.heap.size + 1, 0, none⟩) K K (List.replicate K 0) := by
            have := brow_mark (wr.alloc (.cells #[Value.string { data := #[97] }, Value.string { data := #[98] }] 9)) (List.replicate K 0) (zeros K) (0, 0) (zeros_cells K) K K hrep
            exact BRow.below (w := (wr.alloc (.cells #[Value.string { data := #[97] }, Value.string { data := #[98] }] 9)).alloc (.cells (zeros K) 5)) (by simpa using this) ((Below.refl _ _).drew)
          have B2 : BRow ((wr.alloc (.cells (zeros K) 5)).alloc (.cells #[Value.string { data := #[97] }, Value.string { data := #[98] }] 9)).drew (some ⟨wr.heap.size, 0, none⟩) K K (List.replicate K 0) :=
            (brow_mark wr (List.replicate K 0) (zeros K) (0, 0) (zeros_cells K) K K hrep).below (((Below.refl _ _).alloc (Nat.le_refl _) _).drew)
          have RD1 : Hid (Rdy wr K ((wr.alloc (.cells #[Value.string { data := #[97] }, Value.string { data := #[98] }] 9)).alloc (.cells (zeros K) 5)).drew ⟨wr.heap.size + 1, 0, none⟩) := ⟨B1, ((((Below.refl _ wr).alloc (Nat.le_refl _) _).alloc (by simp) _).drew)⟩
          have RD2 : Hid (Rdy wr K ((wr.alloc (.cells (zeros K) 5)).alloc (.cells #[Value.string { data := #[97] }, Value.string { data := #[98] }] 9)).drew ⟨wr.heap.size, 0, none⟩) := ⟨B2, ((((Below.refl _ wr).alloc (Nat.le_refl _) _).alloc (by simp) _).drew)⟩
          have C1 : ∀ W X, Rdy wr K W X → Calls Try.prog 14 #[dptr b, strN (nmAt P), .slice (some X) K K] W fun e w' => e = .returned (.int .i64 ((appendP d (nmAt P) (List.replicate K 0)).1 : Int)) ∧ ∃ S', Lv w w' b m S' (appendP d (nmAt P) (List.replicate K 0)).2 :=
            fun W X hx => (appendL (HL.out.same hx.below) (nmAt P) (nmAt_len P) hx.row HUS.out.1 HUS.out.2).mono fun e w' q => ⟨q.1, q.2.choose, q.2.choose_spec.1⟩
          clear B1 B2 HUS hrep
          obtain ⟨E, hE⟩ : ∃ E, (appendP d (nmAt P) (List.replicate K 0)).1 = E := ⟨_, rfl⟩
          obtain ⟨D', hD'⟩ : ∃ D', (appendP d (nmAt P) (List.replicate K 0)).2 = D' := ⟨_, rfl⟩
          rw [hE, hD'] at PP C1
          clear hE hD'
          by_cases hfit : N + K ≤ R
          · have qf : decide ((N : Int) + (K : Int) ≤ (R : Int)) = true := by simp; omega
            have hfit' : (N : Int) + (K : Int) ≤ (R : Int) := by omega
            obtain ⟨hE, hR'⟩ := PP.1 hfit
            subst hE
            have HR' : Hid (RoomR R (N + K) D') := hR'
            have HUD : Hid (D'.up = true ∧ usedL D'.files = N + K) := ⟨hR'.2.1, hR'.2.2.2.1⟩
            clear hR' PP
            have HC1 : Hid (∀ W X, Rdy wr K W X → Calls Try.prog 14 #[dptr b, strN (nmAt P), .slice (some X) K K] W fun e w' => e = .returned (.int .i64 ((0 : Nat) : Int)) ∧ ∃ S', Lv w w' b m S' D') := C1
            clear C1
            go_wp2_with (fail)
            go_region_with (go_at_call 14; refine (HC1.out _ _ (by first | exact RD1.out | exact RD2.out)).mono ?_; rintro e w5 ⟨rfl, S5, hL⟩; have L5 : Hid (Lv w w5 b m S5 D') := hL; clear hL)
            all_goals (go_wp2_with (fail); refine (usedLv L5.out).mono ?_; rintro e w6 ⟨rfl, hw⟩; subst w6; rw [HUD.out.1, HUD.out.2, if_pos rfl]; go_wp2_with (fail); go_roundw)
            all_goals first
              | exact ⟨N + K, k + 1, S5, D', by go_num, by go_num, by omega, by omega, by omega, HR', L5⟩
              | (simp [intOf]; omega)
          · have qf : decide ((N : Int) + (K : Int) ≤ (R : Int)) = false := by simp; omega
            have hfit' : ¬ (N : Int) + (K : Int) ≤ (R : Int) := by omega
            obtain ⟨hE, hR'⟩ := PP.2 hfit
            subst hE
            have HR' : Hid (RoomR R N D') := hR'
            have HUD : Hid (D'.up = true ∧ usedL D'.files = N) := ⟨hR'.2.1, hR'.2.2.2.1⟩
            clear hR' PP
            have HC1 : Hid (∀ W X, Rdy wr K W X → Calls Try.prog 14 #[dptr b, strN (nmAt P), .slice (some X) K K] W fun e w' => e = .returned (.int .i64 ((14 : Nat) : Int)) ∧ ∃ S', Lv w w' b m S' D') := C1
            clear C1
            go_wp2_with (fail)
            go_region_with (go_at_call 14; refine (HC1.out _ _ (by first | exact RD1.out | exact RD2.out)).mono ?_; rintro e w5 ⟨rfl, S5, hL⟩; have L5 : Hid (Lv w w5 b m S5 D') := hL; clear hL)
            all_goals (go_wp2_with (fail); refine (usedLv L5.out).mono ?_; rintro e w6 ⟨rfl, hw⟩; subst w6; rw [HUD.out.1, HUD.out.2, if_pos rfl]; go_wp2_with (fail); go_roundw)
            all_goals first
              | exact ⟨N, k + 1, S5, D', by go_num, by go_num, by omega, by omega, by omega, HR', L5⟩
              | (simp [intOf]; omega)
        · have qz : decide (z < 0) = false := by simpa using hz
          obtain ⟨Z, hZ⟩ : ∃ Z : Nat, z = (Z : Int) := ⟨z.toNat, by omega⟩
          subst hZ
          have jZ : (Z : Int) ≤ 9223372036854775807 := by omega
          obtain ⟨K, hK⟩ : ∃ K : Nat, K = Z % 300 := ⟨_, rfl⟩
          have hK3 : K < 300 := by rw [hK]; omega
          have hmZ : (Z : Int).tmod 300 = (K : Int) := by rw [hK, Int.tmod_eq_emod_of_nonneg (by omega)]; norm_cast
          have jK : (K : Int) ≤ 299 := by omega
          have jN : (N : Int) ≤ 1999 := by omega
          clear hK
          have mk := make_at K (by omega)
          have hrep : (List.replicate K (0 : UInt8)).length = K := List.length_replicate
          have PP := room_app HR.out HRI.out (nmAt_or P) (List.replicate K 0)
          rw [hrep] at PP
          have HUS : Hid (usedL d.files + (List.replicate K (0 : UInt8)).length ≤ 1099511627776 ∧ d.files.length + 1 ≤ 1048576) := by
            have := two_names HRI.out HR.out.2.2.2.2
            have := HR.out.2.2.2.1
            exact ⟨by rw [hrep]; omega, by omega⟩
          have B1 : BRow ((wr.alloc (.cells #[Value.string { data := #[97] }, Value.string { data := #[98] }] 9)).alloc (.cells (zeros K) 5)).drew (some ⟨wr.heap.size + 1, 0, none⟩) K K (List.replicate K 0) := by
            have := brow_mark (wr.alloc (.cells #[Value.string { data := #[97] }, Value.string { data := #[98] }] 9)) (List.replicate K 0) (zeros K) (0, 0) (zeros_cells K) K K hrep
            exact BRow.below (w := (wr.alloc (.cells #[Value.string { data := #[97] }, Value.string { data := #[98] }] 9)).alloc (.cells (zeros K) 5)) (by simpa using this) ((Below.refl _ _).drew)
          have B2 : BRow ((wr.alloc (.cells (zeros K) 5)).alloc (.cells #[Value.string { data := #[97] }, Value.string { data := #[98] }] 9)).drew (some ⟨wr.heap.size, 0, none⟩) K K (List.replicate K 0) :=
            (brow_mark wr (List.replicate K 0) (zeros K) (0, 0) (zeros_cells K) K K hrep).below (((Below.refl _ _).alloc (Nat.le_refl _) _).drew)
          have RD1 : Hid (Rdy wr K ((wr.alloc (.cells #[Value.string { data := #[97] }, Value.string { data := #[98] }] 9)).alloc (.cells (zeros K) 5)).drew ⟨wr.heap.size + 1, 0, none⟩) := ⟨B1, ((((Below.refl _ wr).alloc (Nat.le_refl _) _).alloc (by simp) _).drew)⟩
          have RD2 : Hid (Rdy wr K ((wr.alloc (.cells (zeros K) 5)).alloc (.cells #[Value.string { data := #[97] }, Value.string { data := #[98] }] 9)).drew ⟨wr.heap.size, 0, none⟩) := ⟨B2, ((((Below.refl _ wr).alloc (Nat.le_refl _) _).alloc (by simp) _).drew)⟩
          have C1 : ∀ W X, Rdy wr K W X → Calls Try.prog 14 #[dptr b, strN (nmAt P), .slice (some X) K K] W fun e w' => e = .returned (.int .i64 ((appendP d (nmAt P) (List.replicate K 0)).1 : Int)) ∧ ∃ S', Lv w w' b m S' (appendP d (nmAt P) (List.replicate K 0)).2 :=
            fun W X hx => (appendL (HL.out.same hx.below) (nmAt P) (nmAt_len P) hx.row HUS.out.1 HUS.out.2).mono fun e w' q => ⟨q.1, q.2.choose, q.2.choose_spec.1⟩
          clear B1 B2 HUS hrep
          obtain ⟨E, hE⟩ : ∃ E, (appendP d (nmAt P) (List.replicate K 0)).1 = E := ⟨_, rfl⟩
          obtain ⟨D', hD'⟩ : ∃ D', (appendP d (nmAt P) (List.replicate K 0)).2 = D' := ⟨_, rfl⟩
          rw [hE, hD'] at PP C1
          clear hE hD'
          by_cases hfit : N + K ≤ R
          · have qf : decide ((N : Int) + (K : Int) ≤ (R : Int)) = true := by simp; omega
            have hfit' : (N : Int) + (K : Int) ≤ (R : Int) := by omega
            obtain ⟨hE, hR'⟩ := PP.1 hfit
            subst hE
            have HR' : Hid (RoomR R (N + K) D') := hR'
            have HUD : Hid (D'.up = true ∧ usedL D'.files = N + K) := ⟨hR'.2.1, hR'.2.2.2.1⟩
            clear hR' PP
            have HC1 : Hid (∀ W X, Rdy wr K W X → Calls Try.prog 14 #[dptr b, strN (nmAt P), .slice (some X) K K] W fun e w' => e = .returned (.int .i64 ((0 : Nat) : Int)) ∧ ∃ S', Lv w w' b m S' D') := C1
            clear C1
            go_wp2_with (fail)
            go_region_with (go_at_call 14; refine (HC1.out _ _ (by first | exact RD1.out | exact RD2.out)).mono ?_; rintro e w5 ⟨rfl, S5, hL⟩; have L5 : Hid (Lv w w5 b m S5 D') := hL; clear hL)
            all_goals (go_wp2_with (fail); refine (usedLv L5.out).mono ?_; rintro e w6 ⟨rfl, hw⟩; subst w6; rw [HUD.out.1, HUD.out.2, if_pos rfl]; go_wp2_with (fail); go_roundw)
            all_goals first
              | exact ⟨N + K, k + 1, S5, D', by go_num, by go_num, by omega, by omega, by omega, HR', L5⟩
              | (simp [intOf]; omega)
          · have qf : decide ((N : Int) + (K : Int) ≤ (R : Int)) = false := by simp; omega
            have hfit' : ¬ (N : Int) + (K : Int) ≤ (R : Int) := by omega
            obtain ⟨hE, hR'⟩ := PP.2 hfit
            subst hE
            have HR' : Hid (RoomR R N D') := hR'
            have HUD : Hid (D'.up = true ∧ usedL D'.files = N) := ⟨hR'.2.1, hR'.2.2.2.1⟩
            clear hR' PP
            have HC1 : Hid (∀ W X, Rdy wr K W X → Calls Try.prog 14 #[dptr b, strN (nmAt P), .slice (some X) K K] W fun e w' => e = .returned (.int .i64 ((14 : Nat) : Int)) ∧ ∃ S', Lv w w' b m S' D') := C1
            clear C1
            go_wp2_with (fail)
            go_region_with (go_at_call 14; refine (HC1.out _ _ (by first | exact RD1.out | exact RD2.out)).mono ?_; rintro e w5 ⟨rfl, S5, hL⟩; have L5 : Hid (Lv w w5 b m S5 D') := hL; clear hL)
            all_goals (go_wp2_with (fail); refine (usedLv L5.out).mono ?_; rintro e w6 ⟨rfl, hw⟩; subst w6; rw [HUD.out.1, HUD.out.2, if_pos rfl]; go_wp2_with (fail); go_roundw)
            all_goals first
              | exact ⟨N, k + 1, S5, D', by go_num, by go_num, by omega, by omega, by omega, HR', L5⟩
              | (simp [intOf]; omega)
      · have d50 : decide ((k : Int) < 50) = false := by simp; omega
        have h50' : ¬ (k : Int) < 50 := by omega
        have Q := room_end HR.out HRI.out (by obtain ⟨sl, hx⟩ := HL.out.dk; exact hx.ok.fits)
        obtain ⟨D4, hD4⟩ : ∃ D4, (removeP d nA).2 = D4 := ⟨_, rfl⟩
        obtain ⟨E4, hE4⟩ : ∃ E4, (removeP d nA).1 = E4 := ⟨_, rfl⟩
        have HC4 := removeL HL.out nA (by decide)
        rw [hD4, hE4] at HC4
        rw [hD4] at Q
        obtain ⟨T, hT⟩ : ∃ T, (theF D4 nB).bs.length = T := ⟨_, rfl⟩
        rw [hT] at Q
        have HT : Hid ((theF D4 nB).bs.length = T) := hT
        have HQ : Hid (D4.up = true ∧ D4.room = R ∧ D4.ahead = -1 ∧ usedL D4.files = T ∧ T ≤ R ∧ D4.files.length ≤ 1) := Q
        have HR4 : Hid (Calls Try.prog 25 #[dptr b, strN nA] wr fun e w' => e = .returned (.int .i64 (E4 : Int)) ∧ Lv w w' b m S D4 ∧ St wr S w' S) := HC4
        obtain ⟨M, hM⟩ : ∃ M : Nat, (R : Int) - (T : Int) = (M : Int) := ⟨R - T, by have := HQ.out.2.2.2.2.1; omega⟩
        have jM : (M : Int) ≤ 1999 := by omega
        have jT : (T : Int) ≤ 1999 := by have := HQ.out.2.2.2.2.1; omega
        have HM : Hid (T + M = R) := by show _ = _; omega
        have mk := make_at M (by omega)
        clear Q hD4 hE4 hT HC4
        go_wp2_with (fail)
        refine HR4.out.mono ?_
        rintro e w4 ⟨rfl, hL, _⟩
        have L4 : Hid (Lv w w4 b m S D4) := hL
        clear hL HR4
        go_wp2_with (fail)
        refine (readL L4.out nB (by decide)).mono ?_
        rintro e w5 ⟨a5, c5, rfl, _, hL, _⟩
        rw [HT.out]
        generalize findV D4 nB = E5
        have L5 : Hid (Lv w w5 b m S D4) := hL
        clear hL
        go_wp2_with (fail)
        refine (usedLv L5.out).mono ?_
        rintro e w6 ⟨rfl, hw⟩
        subst w6
        rw [HQ.out.1, HQ.out.2.2.2.1, if_pos rfl]
        go_wp2_with (fail)
        refine (appendL (L5.out.alloc _) nC (by decide) (brow_mark w5 (List.replicate M 0) (zeros M) (0, 0) (zeros_cells M) M M List.length_replicate) (by have := HQ.out; rw [List.length_replicate]; omega) (by have := HQ.out; omega)).mono ?_
        rw [append_idle HQ.out.1 rfl (by rw [HQ.out.2.1, HQ.out.2.2.2.1, List.length_replicate]; have := HM.out; omega) (by rw [HQ.out.2.2.1]; decide)]
        rintro e w7 ⟨rfl, S7, hL, _⟩
        have B7 : Hid (Below w.heap.size w w7) := hL.below
        clear hL
        go_wp2_with (fail)
        go_ret
        exact ⟨rfl, B7.out⟩
    · have dlt : decide ((k : Int) < (len : Int)) = false := by simpa using hlt
      have hlt' : ¬ (k : Int) < (len : Int) := by omega
      have Q := room_end HR.out HRI.out (by obtain ⟨sl, hx⟩ := HL.out.dk; exact hx.ok.fits)
      obtain ⟨D4, hD4⟩ : ∃ D4, (removeP d nA).2 = D4 := ⟨_, rfl⟩
      obtain ⟨E4, hE4⟩ : ∃ E4, (removeP d nA).1 = E4 := ⟨_, rfl⟩
      have HC4 := removeL HL.out nA (by decide)
      rw [hD4, hE4] at HC4
      rw [hD4] at Q
      obtain ⟨T, hT⟩ : ∃ T, (theF D4 nB).bs.length = T := ⟨_, rfl⟩
      rw [hT] at Q
      have HT : Hid ((theF D4 nB).bs.length = T) := hT
      have HQ : Hid (D4.up = true ∧ D4.room = R ∧ D4.ahead = -1 ∧ usedL D4.files = T ∧ T ≤ R ∧ D4.files.length ≤ 1) := Q
      have HR4 : Hid (Calls Try.prog 25 #[dptr b, strN nA] wr fun e w' => e = .returned (.int .i64 (E4 : Int)) ∧ Lv w w' b m S D4 ∧ St wr S w' S) := HC4
      obtain ⟨M, hM⟩ : ∃ M : Nat, (R : Int) - (T : Int) = (M : Int) := ⟨R - T, by have := HQ.out.2.2.2.2.1; omega⟩
      have jM : (M : Int) ≤ 1999 := by omega
      have jT : (T : Int) ≤ 1999 := by have := HQ.out.2.2.2.2.1; omega
      have HM : Hid (T + M = R) := by show _ = _; omega
      have mk := make_at M (by omega)
      clear Q hD4 hE4 hT HC4
      go_wp2_with (fail)
      refine HR4.out.mono ?_
      rintro e w4 ⟨rfl, hL, _⟩
      have L4 : Hid (Lv w w4 b m S D4) := hL
      clear hL HR4
      go_wp2_with (fail)
      refine (readL L4.out nB (by decide)).mono ?_
      rintro e w5 ⟨a5, c5, rfl, _, hL, _⟩
      rw [HT.out]
      generalize findV D4 nB = E5
      have L5 : Hid (Lv w w5 b m S D4) := hL
      clear hL
      go_wp2_with (fail)
      refine (usedLv L5.out).mono ?_
      rintro e w6 ⟨rfl, hw⟩
      subst w6
      rw [HQ.out.1, HQ.out.2.2.2.1, if_pos rfl]
      go_wp2_with (fail)
      refine (appendL (L5.out.alloc _) nC (by decide) (brow_mark w5 (List.replicate M 0) (zeros M) (0, 0) (zeros_cells M) M M List.length_replicate) (by have := HQ.out; rw [List.length_replicate]; omega) (by have := HQ.out; omega)).mono ?_
      rw [append_idle HQ.out.1 rfl (by rw [HQ.out.2.1, HQ.out.2.2.2.1, List.length_replicate]; have := HM.out; omega) (by rw [HQ.out.2.2.1]; decide)]
      rintro e w7 ⟨rfl, S7, hL, _⟩
      have B7 : Hid (Below w.heap.size w w7) := hL.below
      clear hL
      go_wp2_with (fail)
      go_ret
      exact ⟨rfl, B7.out⟩

end Go.Proofs.Ytmkgaegodemglaa
