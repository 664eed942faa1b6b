/- CursorSteps: for every line and every numbers, columns passed in pieces are columns passed at once; no condition. -/
import Derived.Test.YtonlkkpoanlcbaaCThree
import Derived.ProofKit
import Derived.OpenShut
import Derived.ShutString
import Derived.ChangeOld
import Derived.Below
import Derived.JoinedCond
import Derived.SizedLaws
set_option linter.unusedVariables false
namespace Go.Proofs.Ytonlkkpoanlcbaa.cursorSteps
open Go.ChangeShapes Go.WideShapes Go.ChangeAt Go.RowKit
open Go.ChangeMaps (open_string shut_string)

theorem own : ownKnob Try.prog.godebug = none := by kernel_rfl
theorem laidOut : laidOutB Try.prog = true := by kernel_rfl

set_option maxHeartbeats 4000000 in
set_option maxRecDepth 100000 in
theorem walk (s0 : ByteArray) (ws0 : s0.size ≤ 140737488351232) (a1 : Option Addr) (b1 o1 len1 cap1 : Nat) (num1 : Nat → Int) (w : World) (e11 : 0 < len1 → a1 = some ⟨b1, o1, none⟩) (e12 : ∀ i, i < len1 → w.cell? ⟨b1, o1 + i, none⟩ = some (.int .i64 (num1 i))) (e13 : len1 ≤ maxLen) (e14 : ∀ i, -9223372036854775808 ≤ num1 i ∧ num1 i ≤ 9223372036854775807) :
    Calls Try.prog 4 #[.string s0, .slice a1 len1 cap1] w fun e w' => e = .returned (.bool true) ∧ Below w.heap.size w w' := by
  unfold maxLen at e13
  have hblt : 0 < len1 → b1 < w.heap.size := fun h => World.block_lt_of_cell? w ⟨b1, o1 + 0, none⟩ (e12 0 h)
  obtain ⟨t, ht, ht2⟩ : ∃ t : ByteArray, (if 3000 < s0.size then s0.extract 0 3000 else s0) = t ∧ t.size ≤ 3000 := by
    refine ⟨_, rfl, ?_⟩
    split
    · rw [ByteArray.size_extract]; omega
    · omega
  have hnew : ∀ w', Calls Try.prog 8 #[.string t] w' fun e w2 => ∃ b, e = .returned (cptr b) ∧ w'.heap.size ≤ b ∧ Cur w2 b (t.data.toList, 0, 0) ∧ Below w'.heap.size w' w2 := fun w' => new_at t w' (by omega)
  obtain ⟨σ, hσ⟩ : ∃ σ : Pl, σ = (t.data.toList, 0, 0) := ⟨_, rfl⟩
  have hσc : σ.2.2 = 0 := by rw [hσ]
  have hσw : wt σ ≤ 12000 := by rw [hσ]; simp only [wt]; rw [len_data]; omega
  rw [← hσ] at hnew
  have HN := (show Hid (∀ w', Calls Try.prog 8 #[.string t] w' fun e w2 => ∃ b, e = .returned (cptr b) ∧ w'.heap.size ≤ b ∧ Cur w2 b σ ∧ Below w'.heap.size w' w2) from hnew)
  clear hnew hσ
  rcases Nat.lt_or_ge 3000 s0.size with hbig | hbig
  · rw [if_pos hbig] at ht
    have hb' : (3000 : Int) < (s0.size : Int) := by omega
    go_enter Try.func4, Try.ntmps4
    go_wp2_with (go_at_call 7; refine (shown_any _).mono ?_; rintro e w1 ⟨rfl, hb1⟩)
    go_wp2_with (go_at_call 8; refine (HN.out _).mono ?_)
    rintro e w2 ⟨a, rfl, la, ca, hb2⟩
    go_wp2_with (go_at_call 8; refine (HN.out _).mono ?_)
    rintro e w3 ⟨b, rfl, lb, cb, hb3⟩
    go_wp2_with (go_at_call 8; refine (HN.out _).mono ?_)
    rintro e w4 ⟨d, rfl, ld, cd, hb4⟩
    have H3 := (show Hid (Three w w4 a b d σ σ σ) from Three.mk hb1 la ca hb2 lb cb hb3 ld cd hb4)
    clear hb1 la ca hb2 lb cb hb3 ld cd hb4 HN
    go_wp2
    go_loopw [9, 10] (fun S i wr => ∃ k n : Nat, i = .int .i64 (k : Int) ∧ S = .int .i64 (n : Int) ∧ k ≤ len1 ∧ k ≤ 30 ∧ n ≤ 7 * k ∧ Hid (Three w wr a b d (skipR n σ) σ σ)) (fun _ i _ => 30 - (intOf i).toNat)
    case atStart => exact ⟨0, 0, rfl, rfl, by omega, by omega, by omega, H3⟩
    case round =>
      clear H3
      obtain ⟨k, n, rfl, rfl, hk, hk30, hn, h3⟩ := hrel
      by_cases hlt : k < len1 ∧ k < 30
      · obtain ⟨h1, h2⟩ := hlt
        have hao' := e11 (by omega)
        subst hao'
        have hck : wr.cell? ⟨b1, o1 + k, none⟩ = some (.int .i64 (num1 k)) := (h3.out.below.cell (p := ⟨b1, o1 + k, none⟩) (hblt (by omega))).trans (e12 k h1)
        obtain ⟨x, hx7, hx⟩ := and_seven (num1 k)
        have g1 : (k : Int) < (len1 : Int) := by omega
        have g2 : decide ((k : Int) < 30) = true := by simp; omega
        clear e12 hblt e11 e14
        go_wp2_with (go_at_call 9; refine (skip_any h3.out.ca (x : Int) (by omega)).mono ?_; rintro e w5 ⟨rfl, hc5, ho5⟩)
        go_roundw
        case rel =>
          refine ⟨k + 1, n + x, by go_num, by go_num, by omega, by omega, by omega, ?_⟩
          have h5 := h3.out.oth_a hc5 ho5
          rw [Int.toNat_natCast, ← skip_add] at h5
          exact h5
        case measure => simp [intOf]; omega
      · clear e12 hblt e11 e14
        obtain ⟨m, hm⟩ : ∃ m, min n (indR σ) = m := ⟨_, rfl⟩
        have hcn := col_ind n σ
        rw [hm, hσc] at hcn
        have hil := ind_le σ
        have hI : indR σ ≤ 12000 := by have h' := hσw; unfold wt at h'; omega
        have hall := skip_every σ 1099511627776 (by omega)
        have hcall := (col_ind 1099511627776 σ).1
        rw [Nat.min_eq_right (by omega), hσc] at hcall
        have HSb := (show Hid (∀ w', Three w w' a b d (skipR n σ) σ σ → Calls Try.prog 9 #[cptr b, .int .i64 (n : Int)] w' fun e w2 => e = .returned (.int .i64 (m : Int)) ∧ Three w w2 a b d (skipR n σ) (skipR n σ) σ) from fun w' h => (skip_any h.cb (n : Int) (by omega)).mono fun e w2 ⟨he, hc, ho⟩ => ⟨by rw [he]; refine ret_int ?_; rw [Int.toNat_natCast, hσc]; omega, by have := h.oth_b hc ho; rwa [Int.toNat_natCast] at this⟩)
        have HSd := (show Hid (∀ w', Three w w' a b d (skipR n σ) (skipR n σ) σ → Calls Try.prog 9 #[cptr d, .int .i64 1099511627776] w' fun e w2 => e = .returned (.int .i64 (indR σ : Int)) ∧ Three w w2 a b d (skipR n σ) (skipR n σ) (beh σ.1, 0, endC σ.1 (σ.2.2 + σ.2.1))) from fun w' h => (skip_any h.cd 1099511627776 (by omega)).mono fun e w2 ⟨he, hc, ho⟩ => ⟨by rw [he]; refine ret_int ?_; rw [show (1099511627776 : Int).toNat = 1099511627776 from rfl, hσc]; omega, by have := h.oth_d hc ho; rwa [show (1099511627776 : Int).toNat = 1099511627776 from rfl, hall] at this⟩)
        have hbb := beh_beh σ.1
        have HBd := (show Hid (∀ w', Three w w' a b d (skipR n σ) (skipR n σ) (beh σ.1, 0, endC σ.1 (σ.2.2 + σ.2.1)) → Calls Try.prog 22 #[cptr d] w' fun e w2 => e = .returned (.string ⟨(beh σ.1).toArray⟩) ∧ ∃ m, w2 = w'.drewN m) from fun w' h => by have := behind_any h.cd; simp only [hbb] at this; exact this)
        have HRd := (show Hid (∀ w', Three w w' a b d (skipR n σ) (skipR n σ) (beh σ.1, 0, endC σ.1 (σ.2.2 + σ.2.1)) → Calls Try.prog 20 #[cptr d] w' fun e w2 => e = .returned (.string ⟨(beh σ.1).toArray⟩) ∧ ∃ m, w2 = w'.drewN m) from fun w' h => rest_any h.cd)
        have HId := (show Hid (∀ w', Three w w' a b d (skipR n σ) (skipR n σ) σ → Calls Try.prog 14 #[cptr d] w' fun e w2 => e = .returned (.int .i64 (indR σ : Int)) ∧ w2 = w') from fun w' h => indent_any h.cd)
        clear hcall hall hcn hbb hil
        generalize indR σ = I at *
        generalize beh σ.1 = r at *
        generalize endC σ.1 (σ.2.2 + σ.2.1) = E at *
        generalize skipR n σ = τ at *
        have hmI : (if (I : Int) < (n : Int) then (I : Int) else (n : Int)) = (m : Int) := by split <;> omega
        go_wp2_with (first
          | (go_at_call_of 9 (cptr b); refine (HSb.out _ h3.out).mono ?_; rintro e w5 ⟨rfl, h5⟩; have H5 := (show Hid (Three w w5 a b d τ τ σ) from h5); clear h5)
          | (go_at_call_of 14 (cptr d); refine (HId.out _ H5.out).mono ?_; rintro e w6 ⟨rfl, hw6⟩; subst w6)
          | (go_at_call_of 13 (cptr a); refine (column_any H5.out.ca).mono ?_; rintro e w6 ⟨rfl, hw6⟩; subst w6)
          | (go_at_call_of 13 (cptr b); refine (column_any H5.out.cb).mono ?_; rintro e w6 ⟨rfl, hw6⟩; subst w6)
          | (go_at_call_of 20 (cptr a); refine (rest_any H5.out.ca).mono ?_; rintro e w6 ⟨rfl, m1, hw6⟩; subst w6)
          | (go_at_call_of 20 (cptr b); refine (rest_any (by exact (H5.out.drewN _).cb)).mono ?_; rintro e w6 ⟨rfl, m2, hw6⟩; subst w6)
          | (go_at_call_of 14 (cptr a); refine (indent_any (by exact (H5.out.drewN _).ca)).mono ?_; rintro e w6 ⟨rfl, hw6⟩; subst w6)
          | (go_at_call_of 14 (cptr b); refine (indent_any (by exact (H5.out.drewN _).cb)).mono ?_; rintro e w6 ⟨rfl, hw6⟩; subst w6)
          | (go_at_call_of 9 (cptr d); refine (HSd.out _ (by exact H5.out.drewN _)).mono ?_; rintro e w7 ⟨rfl, h7⟩; have H7 := (show Hid (Three w w7 a b d τ τ (r, 0, E)) from h7); clear h7)
          | (go_at_call_of 20 (cptr d); refine (HRd.out _ H7.out).mono ?_; rintro e w8 ⟨rfl, m3, hw8⟩; subst w8)
          | (go_at_call_of 22 (cptr d); refine (HBd.out _ (by exact H7.out.drewN _)).mono ?_; rintro e w8 ⟨rfl, m4, hw8⟩; subst w8))
        all_goals go_ret
        all_goals exact ⟨rfl, (H7.out.drewN _).below⟩
  · rw [if_neg (by omega)] at ht
    have hb' : ¬ ((3000 : Int) < (s0.size : Int)) := by omega
    subst ht
    go_enter Try.func4, Try.ntmps4
    go_wp2_with (go_at_call 7; refine (shown_any _).mono ?_; rintro e w1 ⟨rfl, hb1⟩)
    go_wp2_with (go_at_call 8; refine (HN.out _).mono ?_)
    rintro e w2 ⟨a, rfl, la, ca, hb2⟩
    go_wp2_with (go_at_call 8; refine (HN.out _).mono ?_)
    rintro e w3 ⟨b, rfl, lb, cb, hb3⟩
    go_wp2_with (go_at_call 8; refine (HN.out _).mono ?_)
    rintro e w4 ⟨d, rfl, ld, cd, hb4⟩
    have H3 := (show Hid (Three w w4 a b d σ σ σ) from Three.mk hb1 la ca hb2 lb cb hb3 ld cd hb4)
    clear hb1 la ca hb2 lb cb hb3 ld cd hb4 HN
    go_wp2
    go_loopw [9, 10] (fun S i wr => ∃ k n : Nat, i = .int .i64 (k : Int) ∧ S = .int .i64 (n : Int) ∧ k ≤ len1 ∧ k ≤ 30 ∧ n ≤ 7 * k ∧ Hid (Three w wr a b d (skipR n σ) σ σ)) (fun _ i _ => 30 - (intOf i).toNat)
    case atStart => exact ⟨0, 0, rfl, rfl, by omega, by omega, by omega, H3⟩
    case round =>
      clear H3
      obtain ⟨k, n, rfl, rfl, hk, hk30, hn, h3⟩ := hrel
      by_cases hlt : k < len1 ∧ k < 30
      · obtain ⟨h1, h2⟩ := hlt
        have hao' := e11 (by omega)
        subst hao'
        have hck : wr.cell? ⟨b1, o1 + k, none⟩ = some (.int .i64 (num1 k)) := (h3.out.below.cell (p := ⟨b1, o1 + k, none⟩) (hblt (by omega))).trans (e12 k h1)
        obtain ⟨x, hx7, hx⟩ := and_seven (num1 k)
        have g1 : (k : Int) < (len1 : Int) := by omega
        have g2 : decide ((k : Int) < 30) = true := by simp; omega
        clear e12 hblt e11 e14
        go_wp2_with (go_at_call 9; refine (skip_any h3.out.ca (x : Int) (by omega)).mono ?_; rintro e w5 ⟨rfl, hc5, ho5⟩)
        go_roundw
        case rel =>
          refine ⟨k + 1, n + x, by go_num, by go_num, by omega, by omega, by omega, ?_⟩
          have h5 := h3.out.oth_a hc5 ho5
          rw [Int.toNat_natCast, ← skip_add] at h5
          exact h5
        case measure => simp [intOf]; omega
      · clear e12 hblt e11 e14
        obtain ⟨m, hm⟩ : ∃ m, min n (indR σ) = m := ⟨_, rfl⟩
        have hcn := col_ind n σ
        rw [hm, hσc] at hcn
        have hil := ind_le σ
        have hI : indR σ ≤ 12000 := by have h' := hσw; unfold wt at h'; omega
        have hall := skip_every σ 1099511627776 (by omega)
        have hcall := (col_ind 1099511627776 σ).1
        rw [Nat.min_eq_right (by omega), hσc] at hcall
        have HSb := (show Hid (∀ w', Three w w' a b d (skipR n σ) σ σ → Calls Try.prog 9 #[cptr b, .int .i64 (n : Int)] w' fun e w2 => e = .returned (.int .i64 (m : Int)) ∧ Three w w2 a b d (skipR n σ) (skipR n σ) σ) from fun w' h => (skip_any h.cb (n : Int) (by omega)).mono fun e w2 ⟨he, hc, ho⟩ => ⟨by rw [he]; refine ret_int ?_; rw [Int.toNat_natCast, hσc]; omega, by have := h.oth_b hc ho; rwa [Int.toNat_natCast] at this⟩)
        have HSd := (show Hid (∀ w', Three w w' a b d (skipR n σ) (skipR n σ) σ → Calls Try.prog 9 #[cptr d, .int .i64 1099511627776] w' fun e w2 => e = .returned (.int .i64 (indR σ : Int)) ∧ Three w w2 a b d (skipR n σ) (skipR n σ) (beh σ.1, 0, endC σ.1 (σ.2.2 + σ.2.1))) from fun w' h => (skip_any h.cd 1099511627776 (by omega)).mono fun e w2 ⟨he, hc, ho⟩ => ⟨by rw [he]; refine ret_int ?_; rw [show (1099511627776 : Int).toNat = 1099511627776 from rfl, hσc]; omega, by have := h.oth_d hc ho; rwa [show (1099511627776 : Int).toNat = 1099511627776 from rfl, hall] at this⟩)
        have hbb := beh_beh σ.1
        have HBd := (show Hid (∀ w', Three w w' a b d (skipR n σ) (skipR n σ) (beh σ.1, 0, endC σ.1 (σ.2.2 + σ.2.1)) → Calls Try.prog 22 #[cptr d] w' fun e w2 => e = .returned (.string ⟨(beh σ.1).toArray⟩) ∧ ∃ m, w2 = w'.drewN m) from fun w' h => by have := behind_any h.cd; simp only [hbb] at this; exact this)
        have HRd := (show Hid (∀ w', Three w w' a b d (skipR n σ) (skipR n σ) (beh σ.1, 0, endC σ.1 (σ.2.2 + σ.2.1)) → Calls Try.prog 20 #[cptr d] w' fun e w2 => e = .returned (.string ⟨(beh σ.1).toArray⟩) ∧ ∃ m, w2 = w'.drewN m) from fun w' h => rest_any h.cd)
        have HId := (show Hid (∀ w', Three w w' a b d (skipR n σ) (skipR n σ) σ → Calls Try.prog 14 #[cptr d] w' fun e w2 => e = .returned (.int .i64 (indR σ : Int)) ∧ w2 = w') from fun w' h => indent_any h.cd)
        clear hcall hall hcn hbb hil
        generalize indR σ = I at *
        generalize beh σ.1 = r at *
        generalize endC σ.1 (σ.2.2 + σ.2.1) = E at *
        generalize skipR n σ = τ at *
        have hmI : (if (I : Int) < (n : Int) then (I : Int) else (n : Int)) = (m : Int) := by split <;> omega
        go_wp2_with (first
          | (go_at_call_of 9 (cptr b); refine (HSb.out _ h3.out).mono ?_; rintro e w5 ⟨rfl, h5⟩; have H5 := (show Hid (Three w w5 a b d τ τ σ) from h5); clear h5)
          | (go_at_call_of 14 (cptr d); refine (HId.out _ H5.out).mono ?_; rintro e w6 ⟨rfl, hw6⟩; subst w6)
          | (go_at_call_of 13 (cptr a); refine (column_any H5.out.ca).mono ?_; rintro e w6 ⟨rfl, hw6⟩; subst w6)
          | (go_at_call_of 13 (cptr b); refine (column_any H5.out.cb).mono ?_; rintro e w6 ⟨rfl, hw6⟩; subst w6)
          | (go_at_call_of 20 (cptr a); refine (rest_any H5.out.ca).mono ?_; rintro e w6 ⟨rfl, m1, hw6⟩; subst w6)
          | (go_at_call_of 20 (cptr b); refine (rest_any (by exact (H5.out.drewN _).cb)).mono ?_; rintro e w6 ⟨rfl, m2, hw6⟩; subst w6)
          | (go_at_call_of 14 (cptr a); refine (indent_any (by exact (H5.out.drewN _).ca)).mono ?_; rintro e w6 ⟨rfl, hw6⟩; subst w6)
          | (go_at_call_of 14 (cptr b); refine (indent_any (by exact (H5.out.drewN _).cb)).mono ?_; rintro e w6 ⟨rfl, hw6⟩; subst w6)
          | (go_at_call_of 9 (cptr d); refine (HSd.out _ (by exact H5.out.drewN _)).mono ?_; rintro e w7 ⟨rfl, h7⟩; have H7 := (show Hid (Three w w7 a b d τ τ (r, 0, E)) from h7); clear h7)
          | (go_at_call_of 20 (cptr d); refine (HRd.out _ H7.out).mono ?_; rintro e w8 ⟨rfl, m3, hw8⟩; subst w8)
          | (go_at_call_of 22 (cptr d); refine (HBd.out _ (by exact H7.out.drewN _)).mono ?_; rintro e w8 ⟨rfl, m4, hw8⟩; subst w8))
        all_goals go_ret
        all_goals exact ⟨rfl, (H7.out.drewN _).below⟩

theorem int_range {n : Int} (h : (Lit.int .i64 n).wf = true) : -9223372036854775808 ≤ n ∧ n ≤ 9223372036854775807 := by
  simp only [Lit.wf, Bool.and_eq_true, decide_eq_true_eq] at h
  exact h

theorem add_off (b off i : Nat) : (⟨b, off, none⟩ : Addr).add i = ⟨b, off + i, none⟩ := by unfold Addr.add; split <;> simp_all

set_option maxRecDepth 100000 in
theorem lifted (os : Os) (started : os.Started) (H : Type) (enc : TypeId × Value → H) :
    ReturnsInHanded {} Try.checked os 4 .any (Rows.cursorStepsSpec.pre6 enc Try.prog Try.f4 Rows.cursorStepsRow.domain false) (Rows.cursorStepsSpec.post enc Try.prog Try.f4 false true false false) := by
  refine returnsInHanded_of_change_sized (C := Try.checked) own started (by kernel_rfl) Try.func4
    (ChangeSpec.witness6 (enc := enc) (C := Try.checked) false ⟨#[], #[.string ⟨#[]⟩, .slice none 0 0], []⟩ 8 (by kernel_rfl) (by kernel_rfl) (by kernel_rfl) (by kernel_rfl)) ?_
  intro W base args ds gs before hval0 hW hcnd hsz0 _
  have hsz1 : (DataW.weightsEach Try.prog (Try.f4.params.toList ++ []) (ds ++ gs)).all (· ≤ reachBytes) = true := hsz0
  clear hsz0
  have hval : ∀ (j : Nat) t v, Try.f4.params[j]? = some t → args[j]? = some v → Value.okWide Try.prog W .any base t v := hval0
  have hW' := hW
  obtain ⟨p, q, hA0, hV, rfl, hfz, hnd⟩ := hW
  have hA : DataW.TrodAll enc Try.prog W 0 (fun _ => true) true Try.f4.params.toList args.toList ds p := hA0
  rw [Try.params4] at hA hval hsz1
  obtain ⟨v0, vs0, d0, ds0, p0, q0, hargs, rfl, rfl, h0, r0⟩ := trodAll_cons hA
  obtain ⟨v1, vs1, d1, ds1, p1, q1, rfl, rfl, rfl, h1, r1⟩ := trodAll_cons r0
  obtain ⟨rfl, rfl, rfl⟩ := trodAll_nil r1
  obtain rfl : args = #[v0, v1] := by cases args; simp_all
  obtain ⟨rfl, rfl⟩ := trodVars_none hV
  obtain ⟨s0, rfl, rfl, rfl, ws0⟩ := open_string Try.underlying9 (hval 0 9 v0 rfl rfl) h0
  have hz0 : s0.size ≤ 140737488351232 := by have := sized_string hsz1 (j := 0) (t := 9) (bytes := s0.data.toList) rfl rfl; rwa [len_data] at this
  obtain ⟨a1, len1, cap1, rfl⟩ := okWide_slice Try.underlying22 (hval 1 22 v1 rfl rfl)
  have k1 := h1
  have lt1 : ∀ x ∈ p1, x.block < W.heap.size := by obtain ⟨m, hm⟩ := k1; exact DataW.trod_lt m _ _ _ hm
  obtain ⟨b1, o1, num1, e11, e12, e13, e14⟩ : ∃ (be oe : Nat) (num : Nat → Int), (0 < len1 → a1 = some ⟨be, oe, none⟩) ∧ (∀ i, i < len1 → W.cell? ⟨be, oe + i, none⟩ = some (.int .i64 (num i))) ∧ len1 ≤ maxLen ∧ (∀ i, -9223372036854775808 ≤ num i ∧ num i ≤ 9223372036854775807) := by
    obtain ⟨fuel, hf⟩ := h1
    rcases open_ints Try.underlying22 Try.underlying3 (by kernel_rfl) hf with ⟨hcs, _⟩ | ⟨x, l, c, zs, hcs, _, hl, hm, hz, _, hcell, hwz⟩
    · simp [Value.cells] at hcs
      obtain ⟨rfl, rfl, rfl⟩ := hcs
      exact ⟨0, 0, fun _ => 0, fun h => by omega, fun i hi => by omega, by unfold maxLen; omega, fun i => by show (-9223372036854775808 : Int) ≤ 0 ∧ (0 : Int) ≤ 9223372036854775807; omega⟩
    · simp [Value.cells] at hcs
      obtain ⟨rfl, rfl, rfl⟩ := hcs
      have hz' : zs.length = cap1 := by simpa using hz
      have hr : ∀ i, -9223372036854775808 ≤ zs.getD i 0 ∧ zs.getD i 0 ≤ 9223372036854775807 := by
        intro i
        rw [List.getD_eq_getElem?_getD]
        cases hg : zs[i]? with
        | none => simp
        | some y => exact int_range (hwz y (List.mem_of_getElem? hg))
      by_cases h00 : len1 = 0
      · exact ⟨0, 0, fun i => zs.getD i 0, fun h => by omega, fun i hi => by omega, by omega, hr⟩
      · obtain ⟨b, off, spot⟩ := x
        have hc := hcell 0 (by omega)
        have hspot : spot = none := by simpa [Addr.add] using World.cell?_spot hc
        subst hspot
        refine ⟨b, off, fun i => zs.getD i 0, fun _ => rfl, fun i hi => ?_, by omega, hr⟩
        have := hcell i (by omega)
        rwa [add_off] at this
  clear hA0 hval0 hsz1
  simp only [List.append_nil] at hW'
  refine (walk s0 hz0 a1 b1 o1 len1 cap1 num1 W e11 e12 e13 e14).mono fun e W' ⟨he, bel⟩ => ?_
  subst he
  exact ⟨_, rfl, _, _, _, [], _, [], hW', trodAll_mk1 (shut_bool Try.underlying4 _), (trodAll_cons_mk (shut_string Try.underlying9 ws0) (trodAll_cons_mk (Below.trod laidOut (by kernel_rfl) (of_decide_eq_true (by kernel_rfl)) k1 bel lt1) trodAll_mk0)), rfl, bel.frame _, fun h => by cases h⟩

theorem over : Rows.cursorStepsRow.holds Try.pinned (OpenSpec.ofChange Rows.cursorStepsSpec) :=
  OpenClaim.holds_of_wide 4 Try.f4 rfl rfl rfl rfl rfl rfl rfl ⟨rfl, rfl, rfl, rfl, rfl⟩ rfl rfl rfl rfl rfl (by kernel_rfl) Try.func4 (by kernel_rfl)
    (of_decide_eq_true (by kernel_rfl)) (by unfold Func.isWrapper; first | (rw [if_pos (by decide +kernel)]; kernel_rfl) | (rw [if_neg (by decide +kernel)]; exact ⟨rfl, rfl⟩))
    (fun os started H enc _ => lifted os started H enc)

theorem proved : Rows.CursorStepsSaid :=
  over
#print axioms proved
end Go.Proofs.Ytonlkkpoanlcbaa.cursorSteps
