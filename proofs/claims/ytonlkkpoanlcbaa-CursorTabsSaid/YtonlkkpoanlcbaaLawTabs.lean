/- CursorTabs: for every three numbers, blanks and tabs take as many columns as they do; no condition. -/
import Derived.Test.YtonlkkpoanlcbaaCTabs
import Derived.ProofKit
import Derived.OpenShut
import Derived.ShutString
import Derived.ChangeOld
import Derived.Below
import Derived.JoinedCond
import Derived.SizedLaws
set_option linter.unusedVariables false
namespace Go.Proofs.Ytonlkkpoanlcbaa.cursorTabs
open Go.ChangeShapes Go.WideShapes Go.ChangeAt Go.RowKit
open Go.ChangeMaps (open_string shut_string)

theorem own : ownKnob Try.prog.godebug = none := by kernel_rfl
theorem laidOut : laidOutB Try.prog = true := by kernel_rfl

set_option maxHeartbeats 4000000 in
set_option maxRecDepth 100000 in
theorem walk (a0 : Int) (w0 : -9223372036854775808 ≤ a0 ∧ a0 ≤ 9223372036854775807) (a1 : Int) (w1 : -9223372036854775808 ≤ a1 ∧ a1 ≤ 9223372036854775807) (a2 : Int) (w2 : -9223372036854775808 ≤ a2 ∧ a2 ≤ 9223372036854775807) (w : World) :
    Calls Try.prog 5 #[.int .i64 a0, .int .i64 a1, .int .i64 a2] w fun e w' => e = .returned (.bool true) ∧ Below w.heap.size w w' := by
  obtain ⟨x, hx31, hx⟩ := and_31 a0
  obtain ⟨y, hy31, hy⟩ := and_31 a1
  obtain ⟨z, hz31, hz⟩ := and_31 a2
  clear w0 w1 w2
  go_enter Try.func5, Try.ntmps5
  go_wp2_with (go_at_call 7; refine (shown_any _).mono ?_; rintro e w1 ⟨rfl, hb1⟩)
  have HB := (show Hid (Below w.heap.size w w1) from hb1)
  clear hb1 hx hy hz
  go_loopw [8, 9] (fun s i wr => ∃ (k : Nat) (l : List UInt8), i = .int .i64 (k : Int) ∧ s = .string ⟨l.toArray⟩ ∧ k ≤ x ∧ l.length ≤ k ∧ Hid (l = [] ++ List.replicate k 32) ∧ Hid (wr = w1)) (fun _ i _ => x - (intOf i).toNat)
  case atStart => exact ⟨0, [], rfl, rfl, by omega, by simp, rfl, rfl⟩
  case round =>
    obtain ⟨k, l, rfl, rfl, hk, hll, hl, hw⟩ := hrel
    by_cases hlt : k < x
    · have g : (k : Int) < (x : Int) := by omega
      go_wp2
      go_roundw
      case rel => exact ⟨k + 1, l ++ [32], by go_num, by rw [← cat_eq], by omega, by simp; omega, rep_push hl.out, hw⟩
      case measure => simp [intOf]; omega
    · have g : ¬ ((k : Int) < (x : Int)) := by omega
      have hkx : k = x := by omega
      subst hkx
      go_wp2
      have L1 := hl
      clear hl
      go_loopw [8, 10] (fun s i wr => ∃ (j : Nat) (l2 : List UInt8), i = .int .i64 (j : Int) ∧ s = .string ⟨l2.toArray⟩ ∧ j ≤ y ∧ l2.length ≤ 31 + j ∧ Hid (l2 = l ++ List.replicate j 9) ∧ Hid (wr = w1)) (fun _ i _ => y - (intOf i).toNat)
      case atStart => exact ⟨0, l, rfl, rfl, by omega, by omega, (List.append_nil l).symm, hw⟩
      case round =>
        clear hw
        obtain ⟨j, l2, rfl, rfl, hj, hll2, hl, hw⟩ := hrel
        by_cases hlt : j < y
        · have g : (j : Int) < (y : Int) := by omega
          go_wp2
          go_roundw
          case rel => exact ⟨j + 1, l2 ++ [9], by go_num, by rw [← cat_eq], by omega, by simp; omega, rep_push hl.out, hw⟩
          case measure => simp [intOf]; omega
        · have g : ¬ ((j : Int) < (y : Int)) := by omega
          have hjy : j = y := by omega
          subst hjy
          go_wp2
          have L2 := hl
          clear hl
          go_loopw [8, 11] (fun s i wr => ∃ (m : Nat) (l3 : List UInt8), i = .int .i64 (m : Int) ∧ s = .string ⟨l3.toArray⟩ ∧ m ≤ z ∧ l3.length ≤ 62 + m ∧ Hid (l3 = l2 ++ List.replicate m 32) ∧ Hid (wr = w1)) (fun _ i _ => z - (intOf i).toNat)
          case atStart => exact ⟨0, l2, rfl, rfl, by omega, by omega, (List.append_nil l2).symm, hw⟩
          case round =>
            clear hw
            obtain ⟨m, l3, rfl, rfl, hm, hll3, hl, hw⟩ := hrel
            by_cases hlt : m < z
            · have g : (m : Int) < (z : Int) := by omega
              go_wp2
              go_roundw
              case rel => exact ⟨m + 1, l3 ++ [32], by go_num, by rw [← cat_eq], by omega, by simp; omega, rep_push hl.out, hw⟩
              case measure => simp [intOf]; omega
            · have g : ¬ ((m : Int) < (z : Int)) := by omega
              have hmz : m = z := by omega
              subst hmz
              have hww := hw.out
              subst hww
              have hline : l3 ++ [120, 32, 121] = tabLine k j m := by
                rw [hl.out, L2.out, L1.out]
                simp [tabLine]
              have hcat : (ByteArray.mk l3.toArray ++ ByteArray.mk #[120, 32, 121]) = ⟨(tabLine k j m).toArray⟩ := by rw [← hline, ← cat_eq]
              have HN := (show Hid (∀ w', Calls Try.prog 8 #[.string (ByteArray.mk l3.toArray ++ ByteArray.mk #[120, 32, 121])] w' fun e w2 => ∃ b, e = .returned (cptr b) ∧ w'.heap.size ≤ b ∧ Cur w2 b (tabLine k j m, 0, 0) ∧ Below w'.heap.size w' w2) from fun w' => by
                rw [hcat]
                have := new_at ⟨(tabLine k j m).toArray⟩ w' (by rw [size_list, tab_len]; omega)
                rwa [list_data] at this)
              clear hcat hline
              obtain ⟨N, hN⟩ : ∃ N, tabCols k j m = N := ⟨_, rfl⟩
              have hNv := hN
              unfold tabCols at hNv
              have HI := (show Hid (∀ w' b, Cur w' b (tabLine k j m, 0, 0) → Calls Try.prog 14 #[cptr b] w' fun e w2 => e = .returned (.int .i64 (N : Int)) ∧ w2 = w') from fun w' b h => by have := indent_any h; rwa [tab_ind, hN] at this)
              have HX := (show Hid (∀ w' b, Cur w' b (tabLine k j m, 0, 0) → Calls Try.prog 18 #[cptr b] w' fun e w2 => e = .returned (.int .u8 120) ∧ w2 = w') from fun w' b h => by have := next_any h; simp only [tab_beh] at this; exact this)
              have HBe := (show Hid (∀ w' b, Cur w' b (tabLine k j m, 0, 0) → Calls Try.prog 22 #[cptr b] w' fun e w2 => e = .returned (.string ⟨#[120, 32, 121]⟩) ∧ ∃ q, w2 = w'.drewN q) from fun w' b h => by have := behind_any h; simp only [tab_beh] at this; exact this)
              have HM := (show Hid (∀ w' b, Cur w' b (tabLine k j m, 0, 0) → Calls Try.prog 11 #[cptr b, .int .i64 1] w' fun e w2 => e = .returned (.tuple #[]) ∧ Cur w2 b ([32, 121], 0, N + 1) ∧ Oth b w' w2) from fun w' b h => by have := move_any h 1 (by omega); rwa [show (1 : Int).toNat = 1 from rfl, tab_move, hN] at this)
              have HC := (show Hid (∀ w' b, Cur w' b ([32, 121], 0, N + 1) → Calls Try.prog 13 #[cptr b] w' fun e w2 => e = .returned (.int .i64 ((N : Int) + 1)) ∧ w2 = w') from fun w' b h => column_any h)
              have HR := (show Hid (∀ w' b, Cur w' b ([32, 121], 0, N + 1) → Calls Try.prog 20 #[cptr b] w' fun e w2 => e = .returned (.string ⟨#[32, 121]⟩) ∧ ∃ q, w2 = w'.drewN q) from fun w' b h => rest_any h)
              have HI2 := (show Hid (∀ w' b, Cur w' b ([32, 121], 0, N + 1) → Calls Try.prog 14 #[cptr b] w' fun e w2 => e = .returned (.int .i64 1) ∧ w2 = w') from fun w' b h => by
                have := indent_any h
                have e : indR ([32, 121], 0, N + 1) = 1 := by
                  simp only [indR, endC, show isB 32 = true from rfl, show isB 121 = false from rfl, show wid 32 (N + 1 + 0) = 1 from rfl, if_true]
                  simp
                rwa [e] at this)
              clear hN L1 L2 hl
              have hm4 : ((k : Nat) : Int).tmod 4 = ((k % 4 : Nat) : Int) := by rw [Int.tmod_eq_emod_of_nonneg (by omega)]; omega
              have hr4 : k % 4 ≤ 3 := by omega
              have hrk : k % 4 ≤ k := Nat.mod_le _ _
              have hN99 : N ≤ 300 := by split at hNv <;> omega
              by_cases hy0 : 0 < j
              · have g2 : (0 : Int) < (j : Int) := by omega
                rw [if_pos hy0] at hNv
                generalize k % 4 = r at *
                have hsum : (k : Int) - (r : Int) + 4 * (j : Int) + (m : Int) = (N : Int) := by omega
                clear hNv
                go_wp2_with (first
                  | (go_at_call 8; refine (HN.out _).mono ?_; rintro e w2 ⟨b, rfl, lb, cb, hb2⟩; have H2 := (show Hid (Cur w2 b (tabLine k j m, 0, 0)) from cb); have HB2 := (show Hid (Below wr.heap.size wr w2) from hb2); have HL := (show Hid (wr.heap.size ≤ b) from lb); clear cb hb2 lb)
                  | (go_at_call 11; refine (HM.out _ _ (by exact H2.out)).mono ?_; rintro e w3 ⟨rfl, c3, ho3⟩; have H3 := (show Hid (Cur w3 b ([32, 121], 0, N + 1)) from c3); have HO3 := (show Hid (Oth b _ w3) from ho3); clear c3 ho3)
                  | (go_at_call 18; refine (HX.out _ _ H2.out).mono ?_; rintro e w3 ⟨rfl, hw3⟩; subst w3)
                  | (go_at_call 22; refine (HBe.out _ _ H2.out).mono ?_; rintro e w3 ⟨rfl, q1, hw3⟩; subst w3)
                  | (go_at_call 13; refine (HC.out _ _ H3.out).mono ?_; rintro e w4 ⟨rfl, hw4⟩; subst w4)
                  | (go_at_call 20; refine (HR.out _ _ H3.out).mono ?_; rintro e w4 ⟨rfl, q2, hw4⟩; subst w4)
                  | (go_at_call 14; refine (HI2.out _ _ (by exact H3.out)).mono ?_; rintro e w5 ⟨rfl, hw5⟩; subst w5)
                  | (go_at_call 14; refine (HI.out _ _ H2.out).mono ?_; rintro e w5 ⟨rfl, hw5⟩; subst w5))
                go_ret
                exact ⟨rfl, below_drewN (((HB.out.trans (HB2.out.mono HB.out.size)).trans (below_drewN (Below.refl _ _) _)).trans (HO3.out.below (Nat.le_trans HB.out.size HL.out))) _⟩
              · have g2 : ¬ ((0 : Int) < (j : Int)) := by omega
                rw [if_neg hy0] at hNv
                clear hm4 hr4 hrk
                have hsum : (k : Int) + (m : Int) = (N : Int) := by omega
                clear hNv
                go_wp2_with (first
                  | (go_at_call 8; refine (HN.out _).mono ?_; rintro e w2 ⟨b, rfl, lb, cb, hb2⟩; have H2 := (show Hid (Cur w2 b (tabLine k j m, 0, 0)) from cb); have HB2 := (show Hid (Below wr.heap.size wr w2) from hb2); have HL := (show Hid (wr.heap.size ≤ b) from lb); clear cb hb2 lb)
                  | (go_at_call 11; refine (HM.out _ _ (by exact H2.out)).mono ?_; rintro e w3 ⟨rfl, c3, ho3⟩; have H3 := (show Hid (Cur w3 b ([32, 121], 0, N + 1)) from c3); have HO3 := (show Hid (Oth b _ w3) from ho3); clear c3 ho3)
                  | (go_at_call 18; refine (HX.out _ _ H2.out).mono ?_; rintro e w3 ⟨rfl, hw3⟩; subst w3)
                  | (go_at_call 22; refine (HBe.out _ _ H2.out).mono ?_; rintro e w3 ⟨rfl, q1, hw3⟩; subst w3)
                  | (go_at_call 13; refine (HC.out _ _ H3.out).mono ?_; rintro e w4 ⟨rfl, hw4⟩; subst w4)
                  | (go_at_call 20; refine (HR.out _ _ H3.out).mono ?_; rintro e w4 ⟨rfl, q2, hw4⟩; subst w4)
                  | (go_at_call 14; refine (HI2.out _ _ (by exact H3.out)).mono ?_; rintro e w5 ⟨rfl, hw5⟩; subst w5)
                  | (go_at_call 14; refine (HI.out _ _ H2.out).mono ?_; rintro e w5 ⟨rfl, hw5⟩; subst w5))
                go_ret
                exact ⟨rfl, below_drewN (((HB.out.trans (HB2.out.mono HB.out.size)).trans (below_drewN (Below.refl _ _) _)).trans (HO3.out.below (Nat.le_trans HB.out.size HL.out))) _⟩

theorem int_range {n : Int} (h : (Lit.int .i64 n).wf = true) : -9223372036854775808 ≤ n ∧ n ≤ 9223372036854775807 := by
  simp only [Lit.wf, Bool.and_eq_true, decide_eq_true_eq] at h
  exact h

theorem add_off (b off i : Nat) : (⟨b, off, none⟩ : Addr).add i = ⟨b, off + i, none⟩ := by unfold Addr.add; split <;> simp_all

set_option maxRecDepth 100000 in
theorem lifted (os : Os) (started : os.Started) (H : Type) (enc : TypeId × Value → H) :
    ReturnsInHanded {} Try.checked os 5 .any (Rows.cursorTabsSpec.pre6 enc Try.prog Try.f5 Rows.cursorTabsRow.domain false) (Rows.cursorTabsSpec.post enc Try.prog Try.f5 false true false false) := by
  refine returnsInHanded_of_change_sized (C := Try.checked) own started (by kernel_rfl) Try.func5
    (ChangeSpec.witness6 (enc := enc) (C := Try.checked) false ⟨#[], #[.int .i64 0, .int .i64 0, .int .i64 0], []⟩ 8 (by kernel_rfl) (by kernel_rfl) (by kernel_rfl) (by kernel_rfl)) ?_
  intro W base args ds gs before hval0 hW hcnd hsz0 _
  have hsz1 : (DataW.weightsEach Try.prog (Try.f5.params.toList ++ []) (ds ++ gs)).all (· ≤ reachBytes) = true := hsz0
  clear hsz0
  have hval : ∀ (j : Nat) t v, Try.f5.params[j]? = some t → args[j]? = some v → Value.okWide Try.prog W .any base t v := hval0
  have hW' := hW
  obtain ⟨p, q, hA0, hV, rfl, hfz, hnd⟩ := hW
  have hA : DataW.TrodAll enc Try.prog W 0 (fun _ => true) true Try.f5.params.toList args.toList ds p := hA0
  rw [Try.params5] at hA hval hsz1
  obtain ⟨v0, vs0, d0, ds0, p0, q0, hargs, rfl, rfl, h0, r0⟩ := trodAll_cons hA
  obtain ⟨v1, vs1, d1, ds1, p1, q1, rfl, rfl, rfl, h1, r1⟩ := trodAll_cons r0
  obtain ⟨v2, vs2, d2, ds2, p2, q2, rfl, rfl, rfl, h2, r2⟩ := trodAll_cons r1
  obtain ⟨rfl, rfl, rfl⟩ := trodAll_nil r2
  obtain rfl : args = #[v0, v1, v2] := by cases args; simp_all
  obtain ⟨rfl, rfl⟩ := trodVars_none hV
  obtain ⟨a0, rfl, rfl, rfl, w0⟩ := open_int Try.underlying3 (hval 0 3 v0 rfl rfl) h0
  obtain ⟨a1, rfl, rfl, rfl, w1⟩ := open_int Try.underlying3 (hval 1 3 v1 rfl rfl) h1
  obtain ⟨a2, rfl, rfl, rfl, w2⟩ := open_int Try.underlying3 (hval 2 3 v2 rfl rfl) h2
  clear hA0 hval0 hsz1
  simp only [List.append_nil] at hW'
  refine (walk a0 (int_range w0) a1 (int_range w1) a2 (int_range w2) W).mono fun e W' ⟨he, bel⟩ => ?_
  subst he
  exact ⟨_, rfl, _, _, _, [], _, [], hW', trodAll_mk1 (shut_bool Try.underlying4 _), (trodAll_cons_mk (shut_int Try.underlying3 w0) (trodAll_cons_mk (shut_int Try.underlying3 w1) (trodAll_cons_mk (shut_int Try.underlying3 w2) trodAll_mk0))), rfl, bel.frame _, fun h => by cases h⟩

theorem over : Rows.cursorTabsRow.holds Try.pinned (OpenSpec.ofChange Rows.cursorTabsSpec) :=
  OpenClaim.holds_of_wide 5 Try.f5 rfl rfl rfl rfl rfl rfl rfl ⟨rfl, rfl, rfl, rfl, rfl⟩ rfl rfl rfl rfl rfl (by kernel_rfl) Try.func5 (by kernel_rfl)
    (of_decide_eq_true (by kernel_rfl)) (by unfold Func.isWrapper; first | (rw [if_pos (by decide +kernel)]; kernel_rfl) | (rw [if_neg (by decide +kernel)]; exact ⟨rfl, rfl⟩))
    (fun os started H enc _ => lifted os started H enc)

theorem proved : Rows.CursorTabsSaid :=
  over
#print axioms proved
end Go.Proofs.Ytonlkkpoanlcbaa.cursorTabs
