/- Package leaf: Fence; walked. -/
import Derived.Test.YtnjfkgkcapkfbaaGreatDoorLMark
import Derived.Test.YtnjfkgkcapkfbaaGreatDoorQEUnesc
set_option linter.unusedVariables false
namespace Go.Proofs.YtnjfkgkcapkfbaaGreatDoor
open Go.RowKit

/-- What Fence tells. -/
def fenceV (o : UInt8 × Nat × List UInt8) : Value := .tuple #[.int .u8 (o.1.toNat : Int), .int .i64 (o.2.1 : Int), .string ⟨o.2.2.toArray⟩]

theorem idx_has (l : List UInt8) (c : UInt8) : decide (0 ≤ Lib.indexByte l c) = decide (c ∈ l) := by
  by_cases h : c ∈ l
  · obtain ⟨k, hk, _⟩ := idx_pos l c h
    rw [decide_eq_true h, hk]
    exact decide_eq_true (by omega)
  · rw [decide_eq_false h, idx_neg l c h]
    rfl

set_option maxHeartbeats 2000000 in
theorem lfence_any (s : ByteArray) (hs : s.size ≤ 140737488351232) (w : World) :
    Calls Tryz.prog 12 #[.string s] w fun e w' => e = .returned (fenceV (fenceL s.data.toList)) ∧ Below w.heap.size w w' := by
  cases hl : s.data.toList with
  | nil =>
    have he : s.toList.isEmpty = true := nil_text s _ (by rw [hl]; rfl)
    clear hl
    go_enter Tryz.func12, Tryz.ntmps12
    go_wp2
    go_ret3
    exact ⟨rfl, Below.refl _ _⟩
  | cons b t =>
    have he : s.toList.isEmpty = false := nil_text s _ (by rw [hl]; rfl)
    have hz : 0 < s.size := by rw [← len_data, hl]; simp
    have hb0 : s[0] = b := by have := (Suf.head hl).byte (by rw [pos_of (p := []) hl]; exact hz); simpa [pos_of (p := []) hl] using this
    by_cases hbb : b ≠ 96 ∧ b ≠ 126
    · have HE : Hid (fenceL (b :: t) = (0, 0, [])) := by show (if b ≠ 96 ∧ b ≠ 126 then _ else _) = _; rw [if_pos hbb]
      have q1 : ¬ (b.toNat : Int) = 96 := fun e => hbb.1 (UInt8.toNat_inj.1 (by show b.toNat = 96; omega))
      have q2 : ¬ (b.toNat : Int) = 126 := fun e => hbb.2 (UInt8.toNat_inj.1 (by show b.toNat = 126; omega))
      have q3 : ((b.toNat : Int) != 96) = true := by simpa using q1
      have q4 : ((b.toNat : Int) != 126) = true := by simpa using q2
      clear hbb hl
      go_enter Tryz.func12, Tryz.ntmps12
      go_wp2
      go_ret3
      exact ⟨by rw [HE.out]; rfl, Below.refl _ _⟩
    · have HF : Hid (fenceL (b :: t) = if runB b (b :: t) < 3 ∨ (b = 96 ∧ 96 ∈ (b :: t).drop (runB b (b :: t))) then (0, 0, []) else (b, runB b (b :: t), unesc (trimG ((b :: t).drop (runB b (b :: t)))))) := by show (if b ≠ 96 ∧ b ≠ 126 then _ else _) = _; rw [if_neg hbb]
      have hkl : runB b (b :: t) ≤ s.size := by have := row_le (· == b) (b :: t); rw [← hl, len_data] at this; rw [← hl]; exact this
      have HR := (show Hid _ from fun w => lrun_any s (by omega) b w)
      obtain ⟨T, hT⟩ : ∃ T : ByteArray, T = s.extract (runB b s.data.toList) s.size := ⟨_, rfl⟩
      have hTs : T.size ≤ s.size := by rw [hT]; exact ext_size _ _
      have hTd : T.data.toList = s.data.toList.drop (runB b s.data.toList) := by rw [hT, ext_from]
      obtain ⟨R, hR⟩ : ∃ R : ByteArray, R = ⟨(trimG T.data.toList).toArray⟩ := ⟨_, rfl⟩
      have hRd : R.data.toList = trimG T.data.toList := by rw [hR]
      have hRs : R.size ≤ T.size := by rw [← len_data, hRd, ← len_data T]; exact trimG_len _
      have HC : Hid (∀ w, Calls Tryz.prog 25 #[.string T, .string ⟨#[96]⟩] w fun e w' => e = .returned (.bool (decide (96 ∈ T.data.toList))) ∧ w' = w) := fun w => by
        have := Tryz.strings_Contains_one T 96 w
        rwa [idx_has] at this
      have H1 : Hid (∀ u : BelW w, Calls Tryz.prog 21 #[.string T, .string ⟨#[32, 9]⟩] u.wo fun e w' => e = .returned (.string R) ∧ ∃ u' : BelW w, w' = u'.wo) := bq (trim_at T ⟨#[32, 9]⟩ (by omega) (by decide) (by decide) R hR)
      have H2 : Hid (∀ u : BelW w, Calls Tryz.prog 26 #[.string R] u.wo fun e w' => e = .returned (.string ⟨(unesc R.data.toList).toArray⟩) ∧ ∃ u' : BelW w, w' = u'.wo) := bq (fun w => esc.unesc_any R w (by omega))
      rw [← hl, ← hTd, ← hRd] at HF
      rw [hl] at hT HR HF
      clear hR hRd hTd
      obtain ⟨mb, hmem⟩ : ∃ mb, decide (96 ∈ T.data.toList) = mb := ⟨_, rfl⟩
      rw [hmem] at HC
      rw [hT] at HC H1
      generalize runB b (b :: t) = k at *
      generalize unesc R.data.toList = X at *
      have HM := (show Hid _ from hmem)
      clear hmem hT hl
      have hcase : (b = 96) ∨ (b = 126) := by
        by_cases h : b = 96
        · exact .inl h
        · by_cases h2 : b = 126
          · exact .inr h2
          · exact absurd ⟨h, h2⟩ hbb
      clear hbb
      by_cases h3 : k < 3
      · have q3 : (k : Int) < 3 := by omega
        have HE : Hid (fenceL (b :: t) = (0, 0, [])) := by show _ = _; rw [HF.out, if_pos (.inl h3)]
        clear HF
        rcases hcase with rfl | rfl
        all_goals
          go_enter Tryz.func12, Tryz.ntmps12
          go_wp2_with (go_at_call 22; refine (HR.out _).mono ?_; rintro e w1 ⟨rfl, hb1⟩)
          go_ret3
          exact ⟨by rw [HE.out]; rfl, hb1⟩
      · have q3 : ¬ (k : Int) < 3 := by omega
        rcases hcase with rfl | rfl
        · cases mb
          · have HE : Hid (fenceL (96 :: t) = (96, k, X)) := by show _ = _; rw [HF.out, if_neg (by rintro (h | ⟨_, h⟩); exact h3 h; exact of_decide_eq_false HM.out h)]
            clear HF
            go_enter Tryz.func12, Tryz.ntmps12
            go_wp2_with (first
              | (go_at_call 22; refine (HR.out _).mono ?_; rintro e w1 ⟨rfl, hb1⟩)
              | (go_at_call 25; refine (HC.out _).mono ?_; rintro e w2 ⟨rfl, hw⟩; subst w2))
            refine region_class (fun w' => ∃ u : BelW w, w' = u.wo) (by kernel_rfl) (by kernel_rfl) ⟨BelW.of (below_drewK hb1), rfl⟩ ?_
            haveI : Nonempty (BelW w) := ⟨BelW.of hb1⟩
            repeat (go_big_quiet_step (first
              | (go_at_call 21; exact H1.out _)
              | (go_at_call 26; exact H2.out _)))
            refine wpQuiet_nil ?_
            intro _ hw'
            obtain ⟨u, hu⟩ := hw'
            subst hu
            have HU := (show Hid _ from u.is)
            go_wp2
            go_ret3
            exact ⟨by rw [HE.out]; rfl, HU.out⟩
          · have HE : Hid (fenceL (96 :: t) = (0, 0, [])) := by show _ = _; rw [HF.out, if_pos (.inr ⟨rfl, of_decide_eq_true HM.out⟩)]
            clear HF
            go_enter Tryz.func12, Tryz.ntmps12
            go_wp2_with (first
              | (go_at_call 22; refine (HR.out _).mono ?_; rintro e w1 ⟨rfl, hb1⟩)
              | (go_at_call 25; refine (HC.out _).mono ?_; rintro e w2 ⟨rfl, hw⟩; subst w2))
            go_ret3
            exact ⟨by rw [HE.out]; rfl, hb1⟩
        · have HE : Hid (fenceL (126 :: t) = (126, k, X)) := by show _ = _; rw [HF.out, if_neg (by rintro (h | ⟨h, _⟩); exact h3 h; cases h)]
          clear HF
          go_enter Tryz.func12, Tryz.ntmps12
          go_wp2_with (first
            | (go_at_call 22; refine (HR.out _).mono ?_; rintro e w1 ⟨rfl, hb1⟩)
            | (go_at_call 25; refine (HC.out _).mono ?_; rintro e w2 ⟨rfl, hw⟩; subst w2))
          refine region_class (fun w' => ∃ u : BelW w, w' = u.wo) (by kernel_rfl) (by kernel_rfl) ⟨BelW.of (below_drewK hb1), rfl⟩ ?_
          haveI : Nonempty (BelW w) := ⟨BelW.of hb1⟩
          repeat (go_big_quiet_step (first
            | (go_at_call 21; exact H1.out _)
            | (go_at_call 26; exact H2.out _)))
          refine wpQuiet_nil ?_
          intro _ hw'
          obtain ⟨u, hu⟩ := hw'
          subst hu
          have HU := (show Hid _ from u.is)
          go_wp2
          go_ret3
          exact ⟨by rw [HE.out]; rfl, HU.out⟩

end Go.Proofs.YtnjfkgkcapkfbaaGreatDoor
