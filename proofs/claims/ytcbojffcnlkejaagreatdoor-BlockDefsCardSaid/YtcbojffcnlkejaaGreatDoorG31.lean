/- Several texts in one. -/
import Derived.Test.YtcbojffcnlkejaaGreatDoorG29
import Derived.Test.YtcbojffcnlkejaaGreatDoorG09
import Derived.Test.YtcbojffcnlkejaaGreatDoorG27
set_option linter.unusedVariables false
/- Package leaf: Fence; walked. -/
namespace Go.Proofs.YtcbojffcnlkejaaGreatDoor
open Go.RowKit

/-- What Fence tells. -/
def fenceV (o : UInt8 × Nat × List UInt8) : Value := .tuple #[.int .u8 (o.1.toNat : Int), .int .i64 (o.2.1 : Int), .string ⟨o.2.2.toArray⟩]

theorem idx_has (l : List UInt8) (c : UInt8) : decide (0 ≤ Lib.indexByte l c) = decide (c ∈ l) := by
  by_cases h : c ∈ l
  · obtain ⟨k, hk, _⟩ := idx_pos l c h
    rw [decide_eq_true h, hk]
    exact decide_eq_true (by omega)
  · rw [decide_eq_false h, idx_neg l c h]
    rfl

set_option maxHeartbeats 2000000 in
theorem lfence_any (s : ByteArray) (hs : s.size ≤ 140737488351232) (w : World) :
    Calls Tryz.prog 42 #[.string s] w fun e w' => e = .returned (fenceV (fenceL s.data.toList)) ∧ Below w.heap.size w w' := by
  cases hl : s.data.toList with
  | nil =>
    have he : s.toList.isEmpty = true := nil_text s _ (by rw [hl]; rfl)
    clear hl
    go_enter Tryz.func42, Tryz.ntmps42
    go_wp2
    go_ret3
    exact ⟨rfl, Below.refl _ _⟩
  | cons b t =>
    have he : s.toList.isEmpty = false := nil_text s _ (by rw [hl]; rfl)
    have hz : 0 < s.size := by rw [← len_data, hl]; simp
    have hb0 : s[0] = b := by have := (Suf.head hl).byte (by rw [pos_of (p := []) hl]; exact hz); simpa [pos_of (p := []) hl] using this
    by_cases hbb : b ≠ 96 ∧ b ≠ 126
    · have HE : Hid (fenceL (b :: t) = (0, 0, [])) := by show (if b ≠ 96 ∧ b ≠ 126 then _ else _) = _; rw [if_pos hbb]
      have q1 : ¬ (b.toNat : Int) = 96 := fun e => hbb.1 (UInt8.toNat_inj.1 (by show b.toNat = 96; omega))
      have q2 : ¬ (b.toNat : Int) = 126 := fun e => hbb.2 (UInt8.toNat_inj.1 (by show b.toNat = 126; omega))
      have q3 : ((b.toNat : Int) != 96) = true := by simpa using q1
      have q4 : ((b.toNat : Int) != 126) = true := by simpa using q2
      clear hbb hl
      go_enter Tryz.func42, Tryz.ntmps42
      go_wp2
      go_ret3
      exact ⟨by rw [HE.out]; rfl, Below.refl _ _⟩
    · have HF : Hid (fenceL (b :: t) = if runB b (b :: t) < 3 ∨ (b = 96 ∧ 96 ∈ (b :: t).drop (runB b (b :: t))) then (0, 0, []) else (b, runB b (b :: t), unesc (trimG ((b :: t).drop (runB b (b :: t)))))) := by show (if b ≠ 96 ∧ b ≠ 126 then _ else _) = _; rw [if_neg hbb]
      have hkl : runB b (b :: t) ≤ s.size := by have := row_le (· == b) (b :: t); rw [← hl, len_data] at this; rw [← hl]; exact this
      have HR := (show Hid _ from fun w => lrun_any s (by omega) b w)
      obtain ⟨T, hT⟩ : ∃ T : ByteArray, T = s.extract (runB b s.data.toList) s.size := ⟨_, rfl⟩
      have hTs : T.size ≤ s.size := by rw [hT]; exact ext_size _ _
      have hTd : T.data.toList = s.data.toList.drop (runB b s.data.toList) := by rw [hT, ext_from]
      obtain ⟨R, hR⟩ : ∃ R : ByteArray, R = ⟨(trimG T.data.toList).toArray⟩ := ⟨_, rfl⟩
      have hRd : R.data.toList = trimG T.data.toList := by rw [hR]
      have hRs : R.size ≤ T.size := by rw [← len_data, hRd, ← len_data T]; exact trimG_len _
      have HC : Hid (∀ w, Calls Tryz.prog 68 #[.string T, .string ⟨#[96]⟩] w fun e w' => e = .returned (.bool (decide (96 ∈ T.data.toList))) ∧ w' = w) := fun w => by
        have := Tryz.strings_Contains_one T 96 w
        rwa [idx_has] at this
      have H1 : Hid (∀ u : BelW w, Calls Tryz.prog 67 #[.string T, .string ⟨#[32, 9]⟩] u.wo fun e w' => e = .returned (.string R) ∧ ∃ u' : BelW w, w' = u'.wo) := bq (trim_at T ⟨#[32, 9]⟩ (by omega) (by decide) (by decide) R hR)
      have H2 : Hid (∀ u : BelW w, Calls Tryz.prog 69 #[.string R] u.wo fun e w' => e = .returned (.string ⟨(unesc R.data.toList).toArray⟩) ∧ ∃ u' : BelW w, w' = u'.wo) := bq (fun w => esc.unesc_any R w (by omega))
      rw [← hl, ← hTd, ← hRd] at HF
      rw [hl] at hT HR HF
      clear hR hRd hTd
      obtain ⟨mb, hmem⟩ : ∃ mb, decide (96 ∈ T.data.toList) = mb := ⟨_, rfl⟩
      rw [hmem] at HC
      rw [hT] at HC H1
      generalize runB b (b :: t) = k at *
      generalize unesc R.data.toList = X at *
      have HM := (show Hid _ from hmem)
      clear hmem hT hl
      have hcase : (b = 96) ∨ (b = 126) := by
        by_cases h : b = 96
        · exact .inl h
        · by_cases h2 : b = 126
          · exact .inr h2
          · exact absurd ⟨h, h2⟩ hbb
      clear hbb
      by_cases h3 : k < 3
      · have q3 : (k : Int) < 3 := by omega
        have HE : Hid (fenceL (b :: t) = (0, 0, [])) := by show _ = _; rw [HF.out, if_pos (.inl h3)]
        clear HF
        rcases hcase with rfl | rfl
        all_goals
          go_enter Tryz.func42, Tryz.ntmps42
          go_wp2_with (go_at_call 64; refine (HR.out _).mono ?_; rintro e w1 ⟨rfl, hb1⟩)
          go_ret3
          exact ⟨by rw [HE.out]; rfl, hb1⟩
      · have q3 : ¬ (k : Int) < 3 := by omega
        rcases hcase with rfl | rfl
        · cases mb
          · have HE : Hid (fenceL (96 :: t) = (96, k, X)) := by show _ = _; rw [HF.out, if_neg (by rintro (h | ⟨_, h⟩); exact h3 h; exact of_decide_eq_false HM.out h)]
            clear HF
            go_enter Tryz.func42, Tryz.ntmps42
            go_wp2_with (first
              | (go_at_call 64; refine (HR.out _).mono ?_; rintro e w1 ⟨rfl, hb1⟩)
              | (go_at_call 68; refine (HC.out _).mono ?_; rintro e w2 ⟨rfl, hw⟩; subst w2))
            refine region_class (fun w' => ∃ u : BelW w, w' = u.wo) (by kernel_rfl) (by kernel_rfl) ⟨BelW.of (below_drewK hb1), rfl⟩ ?_
            haveI : Nonempty (BelW w) := ⟨BelW.of hb1⟩
            repeat (go_big_quiet_step (first
              | (go_at_call 67; exact H1.out _)
              | (go_at_call 69; exact H2.out _)))
            refine wpQuiet_nil ?_
            intro _ hw'
            obtain ⟨u, hu⟩ := hw'
            subst hu
            have HU := (show Hid _ from u.is)
            go_wp2
            go_ret3
            exact ⟨by rw [HE.out]; rfl, HU.out⟩
          · have HE : Hid (fenceL (96 :: t) = (0, 0, [])) := by show _ = _; rw [HF.out, if_pos (.inr ⟨rfl, of_decide_eq_true HM.out⟩)]
            clear HF
            go_enter Tryz.func42, Tryz.ntmps42
            go_wp2_with (first
              | (go_at_call 64; refine (HR.out _).mono ?_; rintro e w1 ⟨rfl, hb1⟩)
              | (go_at_call 68; refine (HC.out _).mono ?_; rintro e w2 ⟨rfl, hw⟩; subst w2))
            go_ret3
            exact ⟨by rw [HE.out]; rfl, hb1⟩
        · have HE : Hid (fenceL (126 :: t) = (126, k, X)) := by show _ = _; rw [HF.out, if_neg (by rintro (h | ⟨h, _⟩); exact h3 h; cases h)]
          clear HF
          go_enter Tryz.func42, Tryz.ntmps42
          go_wp2_with (first
            | (go_at_call 64; refine (HR.out _).mono ?_; rintro e w1 ⟨rfl, hb1⟩)
            | (go_at_call 68; refine (HC.out _).mono ?_; rintro e w2 ⟨rfl, hw⟩; subst w2))
          refine region_class (fun w' => ∃ u : BelW w, w' = u.wo) (by kernel_rfl) (by kernel_rfl) ⟨BelW.of (below_drewK hb1), rfl⟩ ?_
          haveI : Nonempty (BelW w) := ⟨BelW.of hb1⟩
          repeat (go_big_quiet_step (first
            | (go_at_call 67; exact H1.out _)
            | (go_at_call 69; exact H2.out _)))
          refine wpQuiet_nil ?_
          intro _ hw'
          obtain ⟨u, hu⟩ := hw'
          subst hu
          have HU := (show Hid _ from u.is)
          go_wp2
          go_ret3
          exact ⟨by rw [HE.out]; rfl, HU.out⟩

end Go.Proofs.YtcbojffcnlkejaaGreatDoor

/- Package leaf: HTML: it answers 0 to 7, and 0 of what does not begin with '<'; walked. -/
namespace Go.Proofs.YtcbojffcnlkejaaGreatDoor
open Go.RowKit

theorem lletter_any (c : Nat) (w : World) :
    Calls Tryz.prog 73 #[.int .u8 (c : Int)] w fun e w' => e = .returned (.bool (letN c)) ∧ w' = w := by
  have hc : c < 65 ∨ (65 ≤ c ∧ c ≤ 90) ∨ (90 < c ∧ c < 97) ∨ (97 ≤ c ∧ c ≤ 122) ∨ 122 < c := by omega
  rcases hc with h | ⟨h, h'⟩ | ⟨h, h'⟩ | ⟨h, h'⟩ | h
  all_goals
    go_enter Tryz.func73, Tryz.ntmps73
    go_wp2
    go_ret
    exact ⟨ret_bool (by unfold letN; rw [Bool.eq_iff_iff]; simp; omega), rfl⟩

theorem ldigit_any (c : Nat) (w : World) :
    Calls Tryz.prog 113 #[.int .u8 (c : Int)] w fun e w' => e = .returned (.bool (digN c)) ∧ w' = w := by
  have hc : c < 48 ∨ (48 ≤ c ∧ c ≤ 57) ∨ 57 < c := by omega
  rcases hc with h | ⟨h, h'⟩ | h
  all_goals
    go_enter Tryz.func113, Tryz.ntmps113
    go_wp2
    go_ret
    exact ⟨ret_bool (by unfold digN; rw [Bool.eq_iff_iff]; simp; omega), rfl⟩

theorem ltag_kind : LKind 132 #[] (fun _ => True) nameC := by
  refine ⟨enters_of Tryz.func132 (by kernel_rfl) rfl, fun c w _ => ?_⟩
  have he := eqN c 45 (by omega)
  have hn : nameC c = (letN c.toNat || digN c.toNat || c == Nat.toUInt8 45) := rfl
  rw [he] at hn
  have HN := (show Hid _ from hn)
  clear he hn
  cases hl : letN c.toNat <;> cases hd : digN c.toNat <;> by_cases h45 : c.toNat = 45
  all_goals
    go_enter Tryz.func132, Tryz.ntmps132
    go_wp2_with (first
      | (go_at_call 73; refine (lletter_any _ _).mono ?_; rintro e w1 ⟨rfl, hw⟩; subst w1)
      | (go_at_call 113; refine (ldigit_any _ _).mono ?_; rintro e w1 ⟨rfl, hw⟩; subst w1))
    go_ret
    exact ⟨ret_bool (by rw [HN.out, hl, hd]; simp [h45]; try omega), rfl⟩

theorem nameC_ascii {c : UInt8} (h : nameC c = true) : c.toNat < 128 := by
  have h1 : (letN c.toNat || digN c.toNat || c == 45) = true := h
  rw [Bool.or_eq_true, Bool.or_eq_true] at h1
  rcases h1 with (h | h) | h
  · unfold letN at h
    simp at h
    omega
  · unfold digN at h
    simp at h
    omega
  · have : c = 45 := by simpa using h
    subst this
    decide

set_option maxHeartbeats 1000000 in
theorem ltagName_any (s : ByteArray) (hs : s.size ≤ 140737488351232) (w : World) :
    Calls Tryz.prog 103 #[.string s] w fun e w' => e = .returned (.tuple #[.string ⟨(Lib.toLowerA (s.data.toList.take (rowN nameC s.data.toList))).toArray⟩, .string ⟨(s.data.toList.drop (rowN nameC s.data.toList)).toArray⟩]) ∧ Below w.heap.size w w' := by
  have hkl : rowN nameC s.data.toList ≤ s.size := by have := row_le nameC s.data.toList; rw [len_data] at this; exact this
  have HR := (show Hid _ from fun w => lrow_any ltag_kind s (by omega) w trivial)
  have hall := lrow_take nameC s.data.toList
  have hx : s.extract 0 (rowN nameC s.data.toList) = ⟨(s.data.toList.take (rowN nameC s.data.toList)).toArray⟩ := by rw [extract_eq]; rfl
  have hy : s.extract (rowN nameC s.data.toList) s.size = ⟨(s.data.toList.drop (rowN nameC s.data.toList)).toArray⟩ := extract_end s _
  obtain ⟨A, hA⟩ : ∃ A : ByteArray, A = ⟨(Lib.toLowerA (s.data.toList.take (rowN nameC s.data.toList))).toArray⟩ := ⟨_, rfl⟩
  have H1 : Hid (∀ u : BelW w, Calls Tryz.prog 133 #[.string (s.extract 0 (rowN nameC s.data.toList))] u.wo fun e w' => e = .returned (.string A) ∧ ∃ u' : BelW w, w' = u'.wo) := bq (fun w => by
    have h2 : (s.extract 0 (rowN nameC s.data.toList)).data.toList = s.data.toList.take (rowN nameC s.data.toList) := by rw [hx]
    have h3 : (s.extract 0 (rowN nameC s.data.toList)).size ≤ s.size := by rw [ByteArray.size_extract]; omega
    have := Tryz.strings_ToLower_ascii (s.extract 0 (rowN nameC s.data.toList)) w (by omega) (fun j b hb => by
      rw [h2] at hb
      exact nameC_ascii (List.all_eq_true.1 hall b (List.mem_of_getElem? hb)))
    rw [h2, ← hA] at this
    exact this)
  rw [← hA, ← hy]
  clear hA hx hy hall
  generalize rowN nameC s.data.toList = k at *
  go_enter Tryz.func103, Tryz.ntmps103
  go_wp2_with (go_at_call 89; refine (HR.out _).mono ?_; rintro e w1 ⟨rfl, hw⟩; subst w1)
  have hk2 : (k : Int) ≤ (s.size : Int) := by omega
  have o1 : ∀ w', (Instr.slice 9 (.string s) none (some (.int .i64 (k : Int))) none).run Tryz.prog w' = .ok (.string (s.extract 0 k)) w' := fun w' => by
    rw [run_slice_string_to_if w' 9 s .i64 (k : Int) Tryz.underlying9, if_pos (by omega), Int.toNat_natCast]
  refine region_class (fun w' => ∃ u : BelW w, w' = u.wo) (by kernel_rfl) (by kernel_rfl) ⟨BelW.of (below_drewK (Below.refl _ _)), rfl⟩ ?_
  haveI : Nonempty (BelW w) := ⟨BelW.of (Below.refl _ _)⟩
  repeat (go_big_quiet_step ((go_at_call 133; exact H1.out _)))
  refine wpQuiet_nil ?_
  intro _ hw'
  obtain ⟨u, hu⟩ := hw'
  subst hu
  have HU := (show Hid _ from u.is)
  go_wp2
  go_ret2
  exact ⟨rfl, HU.out⟩

/-! ### Names -/

theorem ltext_any (s : ByteArray) (w : World) :
    Calls Tryz.prog 104 #[.string s] w fun e w' => (∃ b : Bool, e = .returned (.bool b)) ∧ w' = w := by
  go_enter Tryz.func104, Tryz.ntmps104
  go_wp2
  all_goals
    go_ret
    exact ⟨⟨_, rfl⟩, rfl⟩

set_option maxHeartbeats 4000000 in
set_option maxRecDepth 8000 in
theorem lblock_any (s : ByteArray) (w : World) :
    Calls Tryz.prog 106 #[.string s] w fun e w' => (∃ b : Bool, e = .returned (.bool b)) ∧ w' = w := by
  go_enter Tryz.func106, Tryz.ntmps106
  go_wp2
  all_goals
    go_ret
    exact ⟨⟨_, rfl⟩, rfl⟩

theorem ltext_div (w : World) : Calls Tryz.prog 104 #[.string ⟨#[100, 105, 118]⟩] w fun e w' => e = .returned (.bool false) ∧ w' = w := by
  go_enter Tryz.func104, Tryz.ntmps104
  go_wp2
  go_ret
  exact ⟨rfl, rfl⟩
theorem lblock_div (w : World) : Calls Tryz.prog 106 #[.string ⟨#[100, 105, 118]⟩] w fun e w' => e = .returned (.bool true) ∧ w' = w := by
  go_enter Tryz.func106, Tryz.ntmps106
  go_wp2
  go_ret
  exact ⟨rfl, rfl⟩

end Go.Proofs.YtcbojffcnlkejaaGreatDoor

/- Package leaf: HTML, on; walked. -/
namespace Go.Proofs.YtcbojffcnlkejaaGreatDoor
open Go.RowKit

theorem ltagName_some (s : ByteArray) (hs : s.size ≤ 140737488351232) : ∃ N R : ByteArray, ∀ w, Calls Tryz.prog 103 #[.string s] w fun e w' => e = .returned (.tuple #[.string N, .string R]) ∧ Below w.heap.size w w' :=
  ⟨_, _, fun w => ltagName_any s hs w⟩

theorem below_drewN {B : Nat} {w0 w : World} (h : Below B w0 w) (n : Nat) : Below B w0 (w.drewN n) := h.trans ⟨rfl, rfl, rfl, Nat.le_refl _, fun k hk => rfl⟩

/-- A text's first byte, or that there is none. -/
theorem first_of (R : ByteArray) : (partedL R.data.toList = true) ∨ (partedL R.data.toList = false ∧ ∃ h : 0 < R.size, R[0]'h = R.data.toList.headD 0) := by
  cases h : partedL R.data.toList
  · right
    refine ⟨rfl, ?_⟩
    cases hl : R.data.toList with
    | nil => rw [hl] at h; cases h
    | cons b t =>
      have hz : 0 < R.size := by rw [← len_data, hl]; simp
      refine ⟨hz, ?_⟩
      have := (Suf.head hl).byte (by rw [pos_of (p := []) hl]; exact hz)
      simpa [pos_of (p := []) hl] using this
  · exact .inl rfl

set_option maxHeartbeats 1000000 in
theorem lbeginsText_any (s : ByteArray) (hs : s.size ≤ 140737488351232) (hz : 1 ≤ s.size) (w : World) :
    Calls Tryz.prog 72 #[.string s] w fun e w' => (∃ b : Bool, e = .returned (.bool b)) ∧ Below w.heap.size w w' := by
  have hz1 : (1 : Int) ≤ (s.size : Int) := by omega
  obtain ⟨N, R, HT⟩ := ltagName_some (s.extract 1 s.size) (by have := ext_size s 1; omega)
  have HT := (show Hid _ from HT)
  have HP := (show Hid _ from fun w => lparted_any R w)
  rcases first_of R with h | ⟨h, hR, hR0⟩
  · rw [h] at HP
    clear h
    go_enter Tryz.func72, Tryz.ntmps72
    go_wp2_with (first
      | (go_at_call 103; refine (HT.out _).mono ?_; rintro e w1 ⟨rfl, hb1⟩)
      | (go_at_call 104; refine (ltext_any _ _).mono ?_; rintro e w2 ⟨⟨b, rfl⟩, hw⟩; subst w2; cases b)
      | (go_at_call 65; refine (HP.out _).mono ?_; rintro e w2 ⟨rfl, hw⟩; subst w2))
    all_goals
      go_ret
      exact ⟨⟨_, rfl⟩, hb1⟩
  · rw [h] at HP
    clear h
    go_enter Tryz.func72, Tryz.ntmps72
    go_wp2_with (first
      | (go_at_call 103; refine (HT.out _).mono ?_; rintro e w1 ⟨rfl, hb1⟩)
      | (go_at_call 104; refine (ltext_any _ _).mono ?_; rintro e w2 ⟨⟨b, rfl⟩, hw⟩; subst w2; cases b)
      | (go_at_call 65; refine (HP.out _).mono ?_; rintro e w2 ⟨rfl, hw⟩; subst w2))
    all_goals
      go_ret
      exact ⟨⟨_, rfl⟩, hb1⟩

theorem lpre_any (s p : ByteArray) (b : Bool) (h : p.data.toList.isPrefixOf s.data.toList = b) (w : World) :
    Calls Tryz.prog 71 #[.string s, .string p] w fun e w' => e = .returned (.bool b) ∧ w' = w := by
  refine (Tryz.strings_HasPrefix s p w).mono ?_
  rintro e w' ⟨rfl, rfl⟩
  exact ⟨ret_bool h, rfl⟩
theorem lpre_some (s p : ByteArray) (w : World) : Calls Tryz.prog 71 #[.string s, .string p] w fun e w' => (∃ b : Bool, e = .returned (.bool b)) ∧ w' = w :=
  (lpre_any s p _ rfl w).mono fun _ _ ⟨he, hw⟩ => ⟨⟨_, he⟩, hw⟩

theorem trimPre_size (l p : List UInt8) : (Lib.trimPrefix l p).length ≤ l.length := by
  unfold Lib.trimPrefix
  split
  · rw [List.length_drop]; omega
  · exact Nat.le_refl _

theorem ltrimPre_some (s : ByteArray) (p : ByteArray) : ∃ T : ByteArray, T.size ≤ s.size ∧ ∀ w, Calls Tryz.prog 105 #[.string s, .string p] w fun e w' => e = .returned (.string T) ∧ w' = w :=
  ⟨_, by rw [size_list, ← len_data s]; exact trimPre_size _ _, fun w => Tryz.strings_TrimPrefix s p w⟩

set_option maxHeartbeats 1000000 in
theorem lbeginsBlock_any (s : ByteArray) (hs : s.size ≤ 140737488351232) (hz : 1 ≤ s.size) (w : World) :
    Calls Tryz.prog 74 #[.string s] w fun e w' => (∃ b : Bool, e = .returned (.bool b)) ∧ Below w.heap.size w w' := by
  have hz1 : (1 : Int) ≤ (s.size : Int) := by omega
  obtain ⟨T, hTs, HTP⟩ := ltrimPre_some (s.extract 1 s.size) ⟨#[47]⟩
  have HTP := (show Hid _ from HTP)
  obtain ⟨N, R, HT⟩ := ltagName_some T (by have := ext_size s 1; omega)
  have HT := (show Hid _ from HT)
  have HP := (show Hid _ from fun w => lparted_any R w)
  rcases first_of R with h | ⟨h, hR, hR0⟩
  all_goals
    rw [h] at HP
    clear h
    go_enter Tryz.func74, Tryz.ntmps74
    go_wp2_with (first
      | (go_at_call 105; refine (HTP.out _).mono ?_; rintro e w2 ⟨rfl, hw⟩; subst w2)
      | (go_at_call 103; refine (HT.out _).mono ?_; rintro e w1 ⟨rfl, hb1⟩)
      | (go_at_call 106; refine (lblock_any _ _).mono ?_; rintro e w2 ⟨⟨b, rfl⟩, hw⟩; subst w2; cases b)
      | (go_at_call 65; refine (HP.out _).mono ?_; rintro e w2 ⟨rfl, hw⟩; subst w2)
      | (go_at_call 71; refine (lpre_some _ _ _).mono ?_; rintro e w2 ⟨⟨b, rfl⟩, hw⟩; subst w2))
    all_goals
      go_ret
      exact ⟨⟨_, rfl⟩, hb1⟩

set_option maxHeartbeats 1000000 in
theorem ltagAlone_any (s : ByteArray) (hs : s.size ≤ 140737488351232) (hz : 1 ≤ s.size) (w : World) :
    Calls Tryz.prog 75 #[.string s] w fun e w' => (∃ b : Bool, e = .returned (.bool b)) ∧ Below w.heap.size w w' := by
  have hz1 : (1 : Int) ≤ (s.size : Int) := by omega
  obtain ⟨T, hTs, HTP⟩ := ltrimPre_some (s.extract 1 s.size) ⟨#[47]⟩
  have HTP := (show Hid _ from HTP)
  obtain ⟨N, R, HT⟩ := ltagName_some T (by have := ext_size s 1; omega)
  have HT := (show Hid _ from HT)
  have HTag := (show Hid _ from fun w => tag_any s (by omega) w)
  have hkl : tagN s.data.toList ≤ s.size := by have := tagN_le s.data.toList; rwa [len_data] at this
  have HG := (show Hid _ from fun w => lgap_any (s.extract (tagN s.data.toList) s.size) (by have := ext_size s (tagN s.data.toList); omega) w)
  generalize tagN s.data.toList = k at *
  generalize (s.extract k s.size).data.toList.all gapB = g at *
  by_cases hk : k = 0
  · subst hk
    go_enter Tryz.func75, Tryz.ntmps75
    go_wp2_with (go_at_call 107; refine (HTag.out _).mono ?_; rintro e w1 ⟨rfl, n, hw⟩; subst w1)
    go_ret
    exact ⟨⟨_, rfl⟩, (Below.refl _ _).trans ⟨rfl, rfl, rfl, Nat.le_refl _, fun k hk => rfl⟩⟩
  · have q : ¬ (k : Int) = 0 := by omega
    cases g
    all_goals
      go_enter Tryz.func75, Tryz.ntmps75
      go_wp2_with (first
        | (go_at_call 107; refine (HTag.out _).mono ?_; rintro e w1 ⟨rfl, n, hw⟩; subst w1)
        | (go_at_call 108; refine (HG.out _).mono ?_; rintro e w2 ⟨rfl, hb2⟩)
        | (go_at_call 105; refine (HTP.out _).mono ?_; rintro e w3 ⟨rfl, hw⟩; subst w3)
        | (go_at_call 103; refine (HT.out _).mono ?_; rintro e w4 ⟨rfl, hb4⟩)
        | (go_at_call 104; refine (ltext_any _ _).mono ?_; rintro e w5 ⟨⟨b, rfl⟩, hw⟩; subst w5))
    · go_ret
      exact ⟨⟨_, rfl⟩, (below_drewN (Below.refl _ _) n).trans hb2⟩
    · go_ret
      exact ⟨⟨_, rfl⟩, below_next ((below_drewN (Below.refl _ _) n).trans hb2) hb4⟩

/-- What HTML tells of a text: 0 to 7, and 0 unless it begins with '<'. -/
def HtmlSays (l : List UInt8) (e : Ending) : Prop := ∃ k : Nat, k ≤ 7 ∧ (k ≠ 0 → l.head? = some 60) ∧ e = .returned (.int .i64 (k : Int))

theorem html_says {l : List UInt8} {z : Int} (k : Nat) (h : z = (k : Int)) (h7 : k ≤ 7) (hh : l.head? = some 60) : HtmlSays l (.returned (.int .i64 z)) := ⟨k, h7, fun _ => hh, by rw [h]⟩

set_option maxHeartbeats 2000000 in
theorem lhtml_any (s : ByteArray) (hs : s.size ≤ 140737488351232) (w : World) :
    Calls Tryz.prog 45 #[.string s] w fun e w' => HtmlSays s.data.toList e ∧ Below w.heap.size w w' := by
  cases h60 : ([60] : List UInt8).isPrefixOf s.data.toList
  · have HP := (show Hid _ from fun w => lpre_any s ⟨#[60]⟩ false h60 w)
    clear h60
    go_enter Tryz.func45, Tryz.ntmps45
    go_wp2_with (go_at_call 71; refine (HP.out _).mono ?_; rintro e w2 ⟨rfl, hw⟩; subst w2)
    go_ret
    exact ⟨⟨0, by omega, fun h => absurd rfl h, rfl⟩, Below.refl _ _⟩
  · have HP := (show Hid _ from fun w => lpre_any s ⟨#[60]⟩ true h60 w)
    have hhd : s.data.toList.head? = some 60 := by
      cases hl : s.data.toList with
      | nil => rw [hl] at h60; cases h60
      | cons b t => rw [hl] at h60; simp at h60; rw [h60]; rfl
    have hz : 1 ≤ s.size := by
      cases hl : s.data.toList with
      | nil => rw [hl] at hhd; cases hhd
      | cons b t => rw [← len_data, hl]; simp
    have HH := (show Hid _ from hhd)
    have H1 := (show Hid _ from fun w => lbeginsText_any s hs hz w)
    have H6 := (show Hid _ from fun w => lbeginsBlock_any s hs hz w)
    have H7 := (show Hid _ from fun w => ltagAlone_any s hs hz w)
    clear hhd h60
    go_enter Tryz.func45, Tryz.ntmps45
    go_wp2_with (first
      | (go_at_call_of 71 (Value.string ⟨#[60]⟩); refine (HP.out _).mono ?_; rintro e w2 ⟨rfl, hw⟩; subst w2)
      | (go_at_call 71; refine (lpre_some _ _ _).mono ?_; rintro e w2 ⟨⟨b, rfl⟩, hw⟩; subst w2; cases b)
      | (go_at_call 72; refine (H1.out _).mono ?_; rintro e w1 ⟨⟨b, rfl⟩, hb1⟩; cases b)
      | (go_at_call 73; refine (lletter_any _ _).mono ?_; rintro e w2 ⟨rfl, hw⟩; subst w2)
      | (go_at_call 74; refine (H6.out _).mono ?_; rintro e w6 ⟨⟨b, rfl⟩, hb6⟩; cases b)
      | (go_at_call 75; refine (H7.out _).mono ?_; rintro e w7 ⟨⟨b, rfl⟩, hb7⟩; cases b))
    all_goals
      go_ret
      refine ⟨by first | exact html_says 0 rfl (by omega) HH.out | exact html_says 1 rfl (by omega) HH.out | exact html_says 2 rfl (by omega) HH.out | exact html_says 3 rfl (by omega) HH.out | exact html_says 4 rfl (by omega) HH.out | exact html_says 5 rfl (by omega) HH.out | exact html_says 6 rfl (by omega) HH.out | exact html_says 7 rfl (by omega) HH.out, ?_⟩
      first
        | exact below_next (below_next hb1 hb6) hb7
        | exact below_next hb1 hb6
        | exact hb1

end Go.Proofs.YtcbojffcnlkejaaGreatDoor
