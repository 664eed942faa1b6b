/- LeafOne: a line is one thing alone; walked. -/
import Derived.Test.YtnjfkgkcapkfbaaGreatDoorLShown
set_option linter.unusedVariables false
namespace Go.Proofs.YtnjfkgkcapkfbaaGreatDoor
open Go.RowKit

theorem rule_first {l : List UInt8} (h : ruleL l = true) : l.head? = some 42 ∨ l.head? = some 45 ∨ l.head? = some 95 := by
  cases l with
  | nil => cases h
  | cons b t =>
    simp only [ruleL, Bool.and_eq_true, Bool.or_eq_true, beq_iff_eq] at h
    rcases h.1.1 with (h | h) | h <;> simp [h]

theorem head_first {l : List UInt8} (h : 0 < (headL l).1) : l.head? = some 35 := by
  unfold headL at h
  split at h
  · cases h
  · rename_i hn
    cases l with
    | nil => exact absurd (.inl (by decide)) hn
    | cons b t =>
      by_cases hb : b = 35
      · rw [hb]; rfl
      · refine absurd (.inl ?_) hn
        show rowN (· == 35) (b :: t) < 1
        rw [row_cons, if_neg (by simpa using hb)]
        omega

theorem head_six (l : List UInt8) : (headL l).1 ≤ 6 := by
  unfold headL
  split
  · exact Nat.zero_le _
  · rename_i hn
    show runB 35 l ≤ 6
    omega

theorem fence_first {l : List UInt8} (h : 0 < (fenceL l).2.1) : (l.head? = some 96 ∨ l.head? = some 126) ∧ 3 ≤ (fenceL l).2.1 := by
  cases l with
  | nil => cases h
  | cons b t =>
    simp only [fenceL] at h ⊢
    by_cases hb : b ≠ 96 ∧ b ≠ 126
    · rw [if_pos hb] at h; cases h
    · rw [if_neg hb] at h ⊢
      by_cases h3 : runB b (b :: t) < 3 ∨ (b = 96 ∧ 96 ∈ (b :: t).drop (runB b (b :: t)))
      · rw [if_pos h3] at h; cases h
      · rw [if_neg h3]
        refine ⟨?_, by show 3 ≤ runB b (b :: t); omega⟩
        by_cases h1 : b = 96
        · left; rw [h1]; rfl
        · by_cases h2 : b = 126
          · right; rw [h2]; rfl
          · exact absurd ⟨h1, h2⟩ hb

set_option maxHeartbeats 2000000 in
theorem leafOne.walk (s : ByteArray) (hs : s.size ≤ 140737488351232) (w : World) :
    Calls Tryz.prog 3 #[.string s] w fun e w' => e = .returned (.bool true) ∧ Below w.heap.size w w' := by
  have HR := (show Hid _ from fun w => lrule_any s (by omega) w)
  have HH := (show Hid _ from fun w => lheading_any s (by omega) w)
  have HF := (show Hid _ from fun w => lfence_any s hs w)
  have HT := (show Hid _ from fun w => lhtml_any s hs w)
  have f1 := (show Hid _ from @rule_first s.data.toList)
  have f2 := (show Hid _ from @head_first s.data.toList)
  have f3 := (show Hid _ from head_six s.data.toList)
  have f4 := (show Hid _ from @fence_first s.data.toList)
  generalize ruleL s.data.toList = r at *
  obtain ⟨h, ht, hh⟩ : ∃ h ht, headL s.data.toList = (h, ht) := ⟨_, _, rfl⟩
  rw [hh] at HH f2 f3
  obtain ⟨fb, f, fi, hf⟩ : ∃ fb f fi, fenceL s.data.toList = (fb, f, fi) := ⟨_, _, _, rfl⟩
  rw [hf] at HF f4
  clear hh hf
  obtain ⟨hd, hhd⟩ : ∃ hd, s.data.toList.head? = hd := ⟨_, rfl⟩
  rw [hhd] at f1 f2 f4
  have HHD := (show Hid _ from hhd)
  clear hhd
  have hV : Hid (headV (h, ht) = .tuple #[.int .i64 (h : Int), .string ⟨ht.toArray⟩]) := rfl
  have hW : Hid (fenceV (fb, f, fi) = .tuple #[.int .u8 (fb.toNat : Int), .int .i64 (f : Int), .string ⟨fi.toArray⟩]) := rfl
  rw [hV.out] at HH
  rw [hW.out] at HF
  generalize ByteArray.mk ht.toArray = HX at *
  generalize ByteArray.mk fi.toArray = FX at *
  have g3 : h ≤ 6 := f3.out
  have g4 : 0 < f → 3 ≤ f := fun h => (f4.out h).2
  have G3 : Hid (h ≤ 6) := g3
  clear f3 hV hW
  cases r
  · rcases Nat.eq_zero_or_pos h with rfl | hh
    · rcases Nat.eq_zero_or_pos f with rfl | hf
      · -- none of them but, perhaps, HTML
        clear f1 f2 f4 g3 g4 G3
        go_enter Tryz.func3, Tryz.ntmps3
        go_wp2_with (first
          | (go_at_call 9; refine (lshown_any _).mono ?_; rintro e w0 ⟨rfl, hb0⟩)
          | (go_at_call 10; refine (HR.out _).mono ?_; rintro e w1 ⟨rfl, hb1⟩)
          | (go_at_call 11; refine (HH.out _).mono ?_; rintro e w2 ⟨rfl, hb2⟩)
          | (go_at_call 12; refine (HF.out _).mono ?_; rintro e w3 ⟨rfl, hb3⟩)
          | (go_at_call 13; refine (HT.out _).mono ?_; rintro e w4 ⟨⟨k, hk7, hk0, rfl⟩, hb4⟩; have q7 : (k : Int) ≤ 7 := by omega))
        all_goals
          go_ret
          exact ⟨rfl, below_next (below_next (below_next (below_next hb0 hb1) hb2) hb3) hb4⟩
      · have HN : Hid (¬ hd = some 60) := fun e => by rcases (f4.out hf).1 with h | h <;> (rw [e] at h; cases h)
        have q3 : (3 : Int) ≤ (f : Int) := by have := g4 hf; omega
        clear f1 f2 f4 g3 g4 G3
        go_enter Tryz.func3, Tryz.ntmps3
        go_wp2_with (first
          | (go_at_call 9; refine (lshown_any _).mono ?_; rintro e w0 ⟨rfl, hb0⟩)
          | (go_at_call 10; refine (HR.out _).mono ?_; rintro e w1 ⟨rfl, hb1⟩)
          | (go_at_call 11; refine (HH.out _).mono ?_; rintro e w2 ⟨rfl, hb2⟩)
          | (go_at_call 12; refine (HF.out _).mono ?_; rintro e w3 ⟨rfl, hb3⟩)
          | (go_at_call 13; refine (HT.out _).mono ?_; rintro e w4 ⟨⟨k, hk7, hk0, rfl⟩, hb4⟩; obtain rfl : k = 0 := Classical.byContradiction fun h => HN.out (HHD.out.symm.trans (hk0 h))))
        go_ret
        exact ⟨rfl, below_next (below_next (below_next (below_next hb0 hb1) hb2) hb3) hb4⟩
    · have HN : Hid (¬ hd = some 60) := fun e => by have h := f2.out hh; rw [e] at h; cases h
      have h0 : f = 0 := by
        rcases Nat.eq_zero_or_pos f with h | hf
        · exact h
        · have a := f2.out hh
          rcases (f4.out hf).1 with b | b <;> (rw [a] at b; cases b)
      subst h0
      have q1 : (1 : Int) ≤ (h : Int) := by omega
      have q6 : (h : Int) ≤ 6 := by have := G3.out; omega
      clear f1 f2 f4 g3 g4 G3
      go_enter Tryz.func3, Tryz.ntmps3
      go_wp2_with (first
        | (go_at_call 9; refine (lshown_any _).mono ?_; rintro e w0 ⟨rfl, hb0⟩)
        | (go_at_call 10; refine (HR.out _).mono ?_; rintro e w1 ⟨rfl, hb1⟩)
        | (go_at_call 11; refine (HH.out _).mono ?_; rintro e w2 ⟨rfl, hb2⟩)
        | (go_at_call 12; refine (HF.out _).mono ?_; rintro e w3 ⟨rfl, hb3⟩)
        | (go_at_call 13; refine (HT.out _).mono ?_; rintro e w4 ⟨⟨k, hk7, hk0, rfl⟩, hb4⟩; obtain rfl : k = 0 := Classical.byContradiction fun h => HN.out (HHD.out.symm.trans (hk0 h))))
      go_ret
      exact ⟨rfl, below_next (below_next (below_next (below_next hb0 hb1) hb2) hb3) hb4⟩
  · have HN : Hid (¬ hd = some 60) := fun e => by rcases f1.out rfl with h | h | h <;> (rw [e] at h; cases h)
    have h0 : h = 0 := by
      rcases Nat.eq_zero_or_pos h with h | hh
      · exact h
      · have a := f2.out hh
        rcases f1.out rfl with b | b | b <;> (rw [a] at b; cases b)
    have h1 : f = 0 := by
      rcases Nat.eq_zero_or_pos f with h | hf
      · exact h
      · rcases (f4.out hf).1 with a | a <;> rcases f1.out rfl with b | b | b <;> (rw [a] at b; cases b)
    subst h0 h1
    clear f1 f2 f4 g3 g4 G3
    go_enter Tryz.func3, Tryz.ntmps3
    go_wp2_with (first
      | (go_at_call 9; refine (lshown_any _).mono ?_; rintro e w0 ⟨rfl, hb0⟩)
      | (go_at_call 10; refine (HR.out _).mono ?_; rintro e w1 ⟨rfl, hb1⟩)
      | (go_at_call 11; refine (HH.out _).mono ?_; rintro e w2 ⟨rfl, hb2⟩)
      | (go_at_call 12; refine (HF.out _).mono ?_; rintro e w3 ⟨rfl, hb3⟩)
      | (go_at_call 13; refine (HT.out _).mono ?_; rintro e w4 ⟨⟨k, hk7, hk0, rfl⟩, hb4⟩; obtain rfl : k = 0 := Classical.byContradiction fun h => HN.out (HHD.out.symm.trans (hk0 h))))
    go_ret
    exact ⟨rfl, below_next (below_next (below_next (below_next hb0 hb1) hb2) hb3) hb4⟩
end Go.Proofs.YtnjfkgkcapkfbaaGreatDoor
