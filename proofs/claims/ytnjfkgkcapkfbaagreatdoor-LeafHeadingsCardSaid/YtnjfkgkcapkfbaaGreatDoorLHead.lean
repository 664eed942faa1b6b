/- Package leaf: Heading, Rule, Marker; walked. -/
import Derived.Test.YtnjfkgkcapkfbaaGreatDoorLLine
set_option linter.unusedVariables false
namespace Go.Proofs.YtnjfkgkcapkfbaaGreatDoor
open Go.RowKit

theorem same_text (x y : ByteArray) (r : Bool) (h : decide (x.data.toList = y.data.toList) = r) : (x.toList == y.toList) = r := by
  rw [ByteArray.toList_eq, ByteArray.toList_eq, ← h, Bool.eq_iff_iff]
  simp

theorem trimRight_len (l cs : List UInt8) : (Lib.trimRightS l cs).length ≤ l.length := by
  unfold Lib.trimRightS
  rw [List.length_reverse]
  refine Nat.le_trans (dropWhile_le _ _) ?_
  rw [List.length_reverse]
  exact Nat.le_refl _

theorem lheadText_any (s : ByteArray) (hs : s.size ≤ 9223372036854775000) (w : World) :
    Calls Tryz.prog 24 #[.string s] w fun e w' => e = .returned (.string ⟨(headT s.data.toList).toArray⟩) ∧ Below w.heap.size w w' := by
  obtain ⟨a, ha⟩ : ∃ a : ByteArray, a = ⟨(Lib.trimRightS s.data.toList [35]).toArray⟩ := ⟨_, rfl⟩
  have had : a.data.toList = Lib.trimRightS s.data.toList [35] := by rw [ha]
  have has : a.size ≤ s.size := by rw [← len_data, had, ← len_data s]; exact trimRight_len _ _
  obtain ⟨t, ht⟩ : ∃ t : ByteArray, t = ⟨(Lib.trimRightS a.data.toList [32, 9]).toArray⟩ := ⟨_, rfl⟩
  have htd : t.data.toList = Lib.trimRightS a.data.toList [32, 9] := by rw [ht]
  have H1 := (show Hid _ from fun w => trimRight_at s ⟨#[35]⟩ hs (by decide) (by decide) a ha w)
  have H2 := (show Hid _ from fun w => trimRight_at a ⟨#[32, 9]⟩ (by omega) (by decide) (by decide) t ht w)
  have HH : Hid (headT s.data.toList = if t.data.toList = a.data.toList ∧ t.data.toList ≠ [] then s.data.toList else t.data.toList) := by
    show _ = _
    rw [htd, had]
    rfl
  clear ha ht had htd
  by_cases h1 : t.data.toList = a.data.toList
  · have q1 : (t.toList == a.toList) = true := same_text t a true (decide_eq_true h1)
    cases h2 : t.data.toList.isEmpty
    · have q2 : t.toList.isEmpty = false := nil_text t _ h2
      have HE : Hid (headT s.data.toList = s.data.toList) := by show _ = _; rw [HH.out, if_pos ⟨h1, by intro e; rw [e] at h2; cases h2⟩]
      clear h1 h2
      go_enter Tryz.func24, Tryz.ntmps24
      go_wp2_with (first
        | (go_at_call_of 48 (Value.string s); refine (H1.out _).mono ?_; rintro e w1 ⟨rfl, hb1⟩)
        | (go_at_call 48; refine (H2.out _).mono ?_; rintro e w2 ⟨rfl, hb2⟩))
      go_ret
      exact ⟨ret_str (by rw [HE.out, mk_data]), below_next hb1 hb2⟩
    · have q2 : t.toList.isEmpty = true := nil_text t _ h2
      have HE : Hid (headT s.data.toList = t.data.toList) := by show _ = _; rw [HH.out, if_neg (by rintro ⟨_, h⟩; exact h (List.isEmpty_iff.1 h2))]
      clear h1 h2
      go_enter Tryz.func24, Tryz.ntmps24
      go_wp2_with (first
        | (go_at_call_of 48 (Value.string s); refine (H1.out _).mono ?_; rintro e w1 ⟨rfl, hb1⟩)
        | (go_at_call 48; refine (H2.out _).mono ?_; rintro e w2 ⟨rfl, hb2⟩))
      go_ret
      exact ⟨ret_str (by rw [HE.out, mk_data]), below_next hb1 hb2⟩
  · have q1 : (t.toList == a.toList) = false := same_text t a false (decide_eq_false h1)
    have HE : Hid (headT s.data.toList = t.data.toList) := by show _ = _; rw [HH.out, if_neg (by rintro ⟨h, _⟩; exact h1 h)]
    clear h1
    go_enter Tryz.func24, Tryz.ntmps24
    go_wp2_with (first
      | (go_at_call_of 48 (Value.string s); refine (H1.out _).mono ?_; rintro e w1 ⟨rfl, hb1⟩)
      | (go_at_call 48; refine (H2.out _).mono ?_; rintro e w2 ⟨rfl, hb2⟩))
    go_ret
    exact ⟨ret_str (by rw [HE.out, mk_data]), below_next hb1 hb2⟩

/-- What Heading tells. -/
def headV (o : Nat × List UInt8) : Value := .tuple #[.int .i64 (o.1 : Int), .string ⟨o.2.toArray⟩]

theorem lheading_any (s : ByteArray) (hs : s.size ≤ 9223372036854775000) (w : World) :
    Calls Tryz.prog 11 #[.string s] w fun e w' => e = .returned (headV (headL s.data.toList)) ∧ Below w.heap.size w w' := by
  have hkl : runB 35 s.data.toList ≤ s.size := by have := row_le (· == 35) s.data.toList; rw [len_data] at this; exact this
  have HL : Hid (headL s.data.toList = if runB 35 s.data.toList < 1 ∨ 6 < runB 35 s.data.toList ∨ partedL (s.data.toList.drop (runB 35 s.data.toList)) = false then (0, []) else (runB 35 s.data.toList, headT (trimG (s.data.toList.drop (runB 35 s.data.toList))))) := rfl
  have HR := (show Hid _ from fun w => lrun_any s hs 35 w)
  obtain ⟨T, hT⟩ : ∃ T : ByteArray, T = s.extract (runB 35 s.data.toList) s.size := ⟨_, rfl⟩
  have hTs : T.size ≤ s.size := by rw [hT]; exact ext_size _ _
  have hTd : T.data.toList = s.data.toList.drop (runB 35 s.data.toList) := by rw [hT, ext_from]
  obtain ⟨R, hR⟩ : ∃ R : ByteArray, R = ⟨(trimG T.data.toList).toArray⟩ := ⟨_, rfl⟩
  have hRd : R.data.toList = trimG T.data.toList := by rw [hR]
  have hRs : R.size ≤ T.size := by rw [← len_data, hRd, ← len_data T]; exact trimG_len _
  have HP := (show Hid _ from fun w => lparted_any T w)
  have H1 := (show Hid _ from fun w => trim_at T ⟨#[32, 9]⟩ (by omega) (by decide) (by decide) R hR w)
  have H2 := (show Hid _ from fun w => lheadText_any R (by omega) w)
  rw [← hTd, ← hRd] at HL
  clear hR hRd hTd
  generalize partedL T.data.toList = pb at *
  rw [hT] at HP H1
  generalize runB 35 s.data.toList = k at *
  generalize headT R.data.toList = X at *
  clear hT
  by_cases h1 : k < 1
  · have HE : Hid (headL s.data.toList = (0, [])) := by show _ = _; rw [HL.out, if_pos (.inl h1)]
    have q1 : (k : Int) < 1 := by omega
    clear HL
    go_enter Tryz.func11, Tryz.ntmps11
    go_wp2_with (go_at_call 22; refine (HR.out _).mono ?_; rintro e w1 ⟨rfl, hb1⟩)
    go_ret2
    exact ⟨by rw [HE.out]; rfl, hb1⟩
  · have q1 : ¬ (k : Int) < 1 := by omega
    by_cases h2 : 6 < k
    · have HE : Hid (headL s.data.toList = (0, [])) := by show _ = _; rw [HL.out, if_pos (.inr (.inl h2))]
      have q2 : (6 : Int) < (k : Int) := by omega
      clear HL
      go_enter Tryz.func11, Tryz.ntmps11
      go_wp2_with (go_at_call 22; refine (HR.out _).mono ?_; rintro e w1 ⟨rfl, hb1⟩)
      go_ret2
      exact ⟨by rw [HE.out]; rfl, hb1⟩
    · have q2 : ¬ (6 : Int) < (k : Int) := by omega
      cases pb
      · have HE : Hid (headL s.data.toList = (0, [])) := by show _ = _; rw [HL.out, if_pos (.inr (.inr rfl))]
        clear HL
        go_enter Tryz.func11, Tryz.ntmps11
        go_wp2_with (first
          | (go_at_call 22; refine (HR.out _).mono ?_; rintro e w1 ⟨rfl, hb1⟩)
          | (go_at_call 23; refine (HP.out _).mono ?_; rintro e w2 ⟨rfl, hw⟩; subst w2))
        go_ret2
        exact ⟨by rw [HE.out]; rfl, hb1⟩
      · have HE : Hid (headL s.data.toList = (k, X)) := by show _ = _; rw [HL.out, if_neg (by rintro (h | h | h); exact h1 h; exact h2 h; cases h)]
        clear HL
        go_enter Tryz.func11, Tryz.ntmps11
        go_wp2_with (first
          | (go_at_call 22; refine (HR.out _).mono ?_; rintro e w1 ⟨rfl, hb1⟩)
          | (go_at_call 23; refine (HP.out _).mono ?_; rintro e w2 ⟨rfl, hw⟩; subst w2)
          | (go_at_call 21; refine (H1.out _).mono ?_; rintro e w3 ⟨rfl, hb3⟩)
          | (go_at_call 24; refine (H2.out _).mono ?_; rintro e w4 ⟨rfl, hb4⟩))
        go_ret2
        exact ⟨by rw [HE.out]; rfl, below_next (below_next hb1 hb3) hb4⟩

end Go.Proofs.YtnjfkgkcapkfbaaGreatDoor
