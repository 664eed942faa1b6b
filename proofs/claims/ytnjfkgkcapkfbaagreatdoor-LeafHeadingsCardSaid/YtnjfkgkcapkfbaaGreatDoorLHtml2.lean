/- Package leaf: HTML, on; walked. -/
import Derived.Test.YtnjfkgkcapkfbaaGreatDoorLHtml
set_option linter.unusedVariables false
namespace Go.Proofs.YtnjfkgkcapkfbaaGreatDoor
open Go.RowKit

theorem ltagName_some (s : ByteArray) (hs : s.size ≤ 140737488351232) : ∃ N R : ByteArray, ∀ w, Calls Tryz.prog 52 #[.string s] w fun e w' => e = .returned (.tuple #[.string N, .string R]) ∧ Below w.heap.size w w' :=
  ⟨_, _, fun w => ltagName_any s hs w⟩

theorem below_drewN {B : Nat} {w0 w : World} (h : Below B w0 w) (n : Nat) : Below B w0 (w.drewN n) := h.trans ⟨rfl, rfl, rfl, Nat.le_refl _, fun k hk => rfl⟩

/-- A text's first byte, or that there is none. -/
theorem first_of (R : ByteArray) : (partedL R.data.toList = true) ∨ (partedL R.data.toList = false ∧ ∃ h : 0 < R.size, R[0]'h = R.data.toList.headD 0) := by
  cases h : partedL R.data.toList
  · right
    refine ⟨rfl, ?_⟩
    cases hl : R.data.toList with
    | nil => rw [hl] at h; cases h
    | cons b t =>
      have hz : 0 < R.size := by rw [← len_data, hl]; simp
      refine ⟨hz, ?_⟩
      have := (Suf.head hl).byte (by rw [pos_of (p := []) hl]; exact hz)
      simpa [pos_of (p := []) hl] using this
  · exact .inl rfl

set_option maxHeartbeats 1000000 in
theorem lbeginsText_any (s : ByteArray) (hs : s.size ≤ 140737488351232) (hz : 1 ≤ s.size) (w : World) :
    Calls Tryz.prog 28 #[.string s] w fun e w' => (∃ b : Bool, e = .returned (.bool b)) ∧ Below w.heap.size w w' := by
  have hz1 : (1 : Int) ≤ (s.size : Int) := by omega
  obtain ⟨N, R, HT⟩ := ltagName_some (s.extract 1 s.size) (by have := ext_size s 1; omega)
  have HT := (show Hid _ from HT)
  have HP := (show Hid _ from fun w => lparted_any R w)
  rcases first_of R with h | ⟨h, hR, hR0⟩
  · rw [h] at HP
    clear h
    go_enter Tryz.func28, Tryz.ntmps28
    go_wp2_with (first
      | (go_at_call 52; refine (HT.out _).mono ?_; rintro e w1 ⟨rfl, hb1⟩)
      | (go_at_call 53; refine (ltext_any _ _).mono ?_; rintro e w2 ⟨⟨b, rfl⟩, hw⟩; subst w2; cases b)
      | (go_at_call 23; refine (HP.out _).mono ?_; rintro e w2 ⟨rfl, hw⟩; subst w2))
    all_goals
      go_ret
      exact ⟨⟨_, rfl⟩, hb1⟩
  · rw [h] at HP
    clear h
    go_enter Tryz.func28, Tryz.ntmps28
    go_wp2_with (first
      | (go_at_call 52; refine (HT.out _).mono ?_; rintro e w1 ⟨rfl, hb1⟩)
      | (go_at_call 53; refine (ltext_any _ _).mono ?_; rintro e w2 ⟨⟨b, rfl⟩, hw⟩; subst w2; cases b)
      | (go_at_call 23; refine (HP.out _).mono ?_; rintro e w2 ⟨rfl, hw⟩; subst w2))
    all_goals
      go_ret
      exact ⟨⟨_, rfl⟩, hb1⟩

theorem lpre_any (s p : ByteArray) (b : Bool) (h : p.data.toList.isPrefixOf s.data.toList = b) (w : World) :
    Calls Tryz.prog 27 #[.string s, .string p] w fun e w' => e = .returned (.bool b) ∧ w' = w := by
  refine (Tryz.strings_HasPrefix s p w).mono ?_
  rintro e w' ⟨rfl, rfl⟩
  exact ⟨ret_bool h, rfl⟩
theorem lpre_some (s p : ByteArray) (w : World) : Calls Tryz.prog 27 #[.string s, .string p] w fun e w' => (∃ b : Bool, e = .returned (.bool b)) ∧ w' = w :=
  (lpre_any s p _ rfl w).mono fun _ _ ⟨he, hw⟩ => ⟨⟨_, he⟩, hw⟩

theorem trimPre_size (l p : List UInt8) : (Lib.trimPrefix l p).length ≤ l.length := by
  unfold Lib.trimPrefix
  split
  · rw [List.length_drop]; omega
  · exact Nat.le_refl _

theorem ltrimPre_some (s : ByteArray) (p : ByteArray) : ∃ T : ByteArray, T.size ≤ s.size ∧ ∀ w, Calls Tryz.prog 54 #[.string s, .string p] w fun e w' => e = .returned (.string T) ∧ w' = w :=
  ⟨_, by rw [size_list, ← len_data s]; exact trimPre_size _ _, fun w => Tryz.strings_TrimPrefix s p w⟩

set_option maxHeartbeats 1000000 in
theorem lbeginsBlock_any (s : ByteArray) (hs : s.size ≤ 140737488351232) (hz : 1 ≤ s.size) (w : World) :
    Calls Tryz.prog 30 #[.string s] w fun e w' => (∃ b : Bool, e = .returned (.bool b)) ∧ Below w.heap.size w w' := by
  have hz1 : (1 : Int) ≤ (s.size : Int) := by omega
  obtain ⟨T, hTs, HTP⟩ := ltrimPre_some (s.extract 1 s.size) ⟨#[47]⟩
  have HTP := (show Hid _ from HTP)
  obtain ⟨N, R, HT⟩ := ltagName_some T (by have := ext_size s 1; omega)
  have HT := (show Hid _ from HT)
  have HP := (show Hid _ from fun w => lparted_any R w)
  rcases first_of R with h | ⟨h, hR, hR0⟩
  all_goals
    rw [h] at HP
    clear h
    go_enter Tryz.func30, Tryz.ntmps30
    go_wp2_with (first
      | (go_at_call 54; refine (HTP.out _).mono ?_; rintro e w2 ⟨rfl, hw⟩; subst w2)
      | (go_at_call 52; refine (HT.out _).mono ?_; rintro e w1 ⟨rfl, hb1⟩)
      | (go_at_call 55; refine (lblock_any _ _).mono ?_; rintro e w2 ⟨⟨b, rfl⟩, hw⟩; subst w2; cases b)
      | (go_at_call 23; refine (HP.out _).mono ?_; rintro e w2 ⟨rfl, hw⟩; subst w2)
      | (go_at_call 27; refine (lpre_some _ _ _).mono ?_; rintro e w2 ⟨⟨b, rfl⟩, hw⟩; subst w2))
    all_goals
      go_ret
      exact ⟨⟨_, rfl⟩, hb1⟩

set_option maxHeartbeats 1000000 in
theorem ltagAlone_any (s : ByteArray) (hs : s.size ≤ 140737488351232) (hz : 1 ≤ s.size) (w : World) :
    Calls Tryz.prog 31 #[.string s] w fun e w' => (∃ b : Bool, e = .returned (.bool b)) ∧ Below w.heap.size w w' := by
  have hz1 : (1 : Int) ≤ (s.size : Int) := by omega
  obtain ⟨T, hTs, HTP⟩ := ltrimPre_some (s.extract 1 s.size) ⟨#[47]⟩
  have HTP := (show Hid _ from HTP)
  obtain ⟨N, R, HT⟩ := ltagName_some T (by have := ext_size s 1; omega)
  have HT := (show Hid _ from HT)
  have HTag := (show Hid _ from fun w => tag_any s (by omega) w)
  have hkl : tagN s.data.toList ≤ s.size := by have := tagN_le s.data.toList; rwa [len_data] at this
  have HG := (show Hid _ from fun w => lgap_any (s.extract (tagN s.data.toList) s.size) (by have := ext_size s (tagN s.data.toList); omega) w)
  generalize tagN s.data.toList = k at *
  generalize (s.extract k s.size).data.toList.all gapB = g at *
  by_cases hk : k = 0
  · subst hk
    go_enter Tryz.func31, Tryz.ntmps31
    go_wp2_with (go_at_call 56; refine (HTag.out _).mono ?_; rintro e w1 ⟨rfl, n, hw⟩; subst w1)
    go_ret
    exact ⟨⟨_, rfl⟩, (Below.refl _ _).trans ⟨rfl, rfl, rfl, Nat.le_refl _, fun k hk => rfl⟩⟩
  · have q : ¬ (k : Int) = 0 := by omega
    cases g
    all_goals
      go_enter Tryz.func31, Tryz.ntmps31
      go_wp2_with (first
        | (go_at_call 56; refine (HTag.out _).mono ?_; rintro e w1 ⟨rfl, n, hw⟩; subst w1)
        | (go_at_call 32; refine (HG.out _).mono ?_; rintro e w2 ⟨rfl, hb2⟩)
        | (go_at_call 54; refine (HTP.out _).mono ?_; rintro e w3 ⟨rfl, hw⟩; subst w3)
        | (go_at_call 52; refine (HT.out _).mono ?_; rintro e w4 ⟨rfl, hb4⟩)
        | (go_at_call 53; refine (ltext_any _ _).mono ?_; rintro e w5 ⟨⟨b, rfl⟩, hw⟩; subst w5))
    · go_ret
      exact ⟨⟨_, rfl⟩, (below_drewN (Below.refl _ _) n).trans hb2⟩
    · go_ret
      exact ⟨⟨_, rfl⟩, below_next ((below_drewN (Below.refl _ _) n).trans hb2) hb4⟩

/-- What HTML tells of a text: 0 to 7, and 0 unless it begins with '<'. -/
def HtmlSays (l : List UInt8) (e : Ending) : Prop := ∃ k : Nat, k ≤ 7 ∧ (k ≠ 0 → l.head? = some 60) ∧ e = .returned (.int .i64 (k : Int))

theorem html_says {l : List UInt8} {z : Int} (k : Nat) (h : z = (k : Int)) (h7 : k ≤ 7) (hh : l.head? = some 60) : HtmlSays l (.returned (.int .i64 z)) := ⟨k, h7, fun _ => hh, by rw [h]⟩

set_option maxHeartbeats 2000000 in
theorem lhtml_any (s : ByteArray) (hs : s.size ≤ 140737488351232) (w : World) :
    Calls Tryz.prog 13 #[.string s] w fun e w' => HtmlSays s.data.toList e ∧ Below w.heap.size w w' := by
  cases h60 : ([60] : List UInt8).isPrefixOf s.data.toList
  · have HP := (show Hid _ from fun w => lpre_any s ⟨#[60]⟩ false h60 w)
    clear h60
    go_enter Tryz.func13, Tryz.ntmps13
    go_wp2_with (go_at_call 27; refine (HP.out _).mono ?_; rintro e w2 ⟨rfl, hw⟩; subst w2)
    go_ret
    exact ⟨⟨0, by omega, fun h => absurd rfl h, rfl⟩, Below.refl _ _⟩
  · have HP := (show Hid _ from fun w => lpre_any s ⟨#[60]⟩ true h60 w)
    have hhd : s.data.toList.head? = some 60 := by
      cases hl : s.data.toList with
      | nil => rw [hl] at h60; cases h60
      | cons b t => rw [hl] at h60; simp at h60; rw [h60]; rfl
    have hz : 1 ≤ s.size := by
      cases hl : s.data.toList with
      | nil => rw [hl] at hhd; cases hhd
      | cons b t => rw [← len_data, hl]; simp
    have HH := (show Hid _ from hhd)
    have H1 := (show Hid _ from fun w => lbeginsText_any s hs hz w)
    have H6 := (show Hid _ from fun w => lbeginsBlock_any s hs hz w)
    have H7 := (show Hid _ from fun w => ltagAlone_any s hs hz w)
    clear hhd h60
    go_enter Tryz.func13, Tryz.ntmps13
    go_wp2_with (first
      | (go_at_call_of 27 (Value.string ⟨#[60]⟩); refine (HP.out _).mono ?_; rintro e w2 ⟨rfl, hw⟩; subst w2)
      | (go_at_call 27; refine (lpre_some _ _ _).mono ?_; rintro e w2 ⟨⟨b, rfl⟩, hw⟩; subst w2; cases b)
      | (go_at_call 28; refine (H1.out _).mono ?_; rintro e w1 ⟨⟨b, rfl⟩, hb1⟩; cases b)
      | (go_at_call 29; refine (lletter_any _ _).mono ?_; rintro e w2 ⟨rfl, hw⟩; subst w2)
      | (go_at_call 30; refine (H6.out _).mono ?_; rintro e w6 ⟨⟨b, rfl⟩, hb6⟩; cases b)
      | (go_at_call 31; refine (H7.out _).mono ?_; rintro e w7 ⟨⟨b, rfl⟩, hb7⟩; cases b))
    all_goals
      go_ret
      refine ⟨by first | exact html_says 0 rfl (by omega) HH.out | exact html_says 1 rfl (by omega) HH.out | exact html_says 2 rfl (by omega) HH.out | exact html_says 3 rfl (by omega) HH.out | exact html_says 4 rfl (by omega) HH.out | exact html_says 5 rfl (by omega) HH.out | exact html_says 6 rfl (by omega) HH.out | exact html_says 7 rfl (by omega) HH.out, ?_⟩
      first
        | exact below_next (below_next hb1 hb6) hb7
        | exact below_next hb1 hb6
        | exact hb1

end Go.Proofs.YtnjfkgkcapkfbaaGreatDoor
