/- Package leaf: Rule; walked. -/
import Derived.Test.YtnjfkgkcapkfbaaGreatDoorLHead
set_option linter.unusedVariables false
namespace Go.Proofs.YtnjfkgkcapkfbaaGreatDoor
open Go.RowKit

theorem rule_cons (b : UInt8) (t : List UInt8) : ruleL (b :: t) = (([42, 45, 95] : List UInt8).elem b && decide (3 ≤ (b :: t).count b) && (Lib.trimS (b :: t) [b, 32, 9]).isEmpty) := by
  rw [trim_nil]
  have h1 : ([42, 45, 95] : List UInt8).elem b = (b == 42 || b == 45 || b == 95) := by
    rw [Bool.eq_iff_iff]
    simp [or_assoc]
  have h2 : (fun x : UInt8 => ([b, 32, 9] : List UInt8).contains x) = fun x => x == b || gapB x := by
    funext x
    rw [List.contains_cons, gapB_row]
  rw [h1, h2]
  rfl

set_option maxHeartbeats 1000000 in
theorem lrule_any (s : ByteArray) (hs : s.size ≤ 9223372036854775000) (w : World) :
    Calls Tryz.prog 10 #[.string s] w fun e w' => e = .returned (.bool (ruleL s.data.toList)) ∧ Below w.heap.size w w' := by
  cases hl : s.data.toList with
  | nil =>
    have he : s.toList.isEmpty = true := nil_text s _ (by rw [hl]; rfl)
    clear hl
    go_enter Tryz.func10, Tryz.ntmps10
    go_wp2
    go_ret
    exact ⟨rfl, Below.refl _ _⟩
  | cons b t =>
    have he : s.toList.isEmpty = false := nil_text s _ (by rw [hl]; rfl)
    have hz : 0 < s.size := by rw [← len_data, hl]; simp
    have hz1 : (1 : Int) ≤ (s.size : Int) := by omega
    have hb0 : s[0] = b := by have := (Suf.head hl).byte (by rw [pos_of (p := []) hl]; exact hz); simpa [pos_of (p := []) hl] using this
    have hx : s.extract 0 1 = ⟨#[b]⟩ := by rw [extract_eq, hl]; rfl
    have HR := (show Hid _ from rule_cons b t)
    have HI := (show Hid _ from fun w => among_any ⟨#[42, 45, 95]⟩ b w)
    obtain ⟨X, hX⟩ : ∃ X : ByteArray, X = ⟨(Lib.trimS s.data.toList [b, 32, 9]).toArray⟩ := ⟨_, rfl⟩
    have HC : Hid (∀ w, Calls Tryz.prog 20 #[.string s, .string ⟨#[b]⟩] w fun e w' => e = .returned (.int .i64 ((b :: t).count b : Int)) ∧ w' = w) := fun w => by have := Tryz.strings_Count_one s b w; rw [hl] at this; exact this
    have HE : Hid (X.data.toList = Lib.trimS (b :: t) [b, 32, 9]) := by show _ = _; rw [hX, hl]
    clear hl
    cases hel : ([42, 45, 95] : List UInt8).elem b
    · have HF : Hid (ruleL (b :: t) = false) := by show _ = _; rw [HR.out, hel]; rfl
      go_enter Tryz.func10, Tryz.ntmps10
      go_wp2_with (go_at_call 19; refine (HI.out _).mono ?_; rintro e w1 ⟨⟨k, rfl, hk1, hk2⟩, hw⟩; subst w1; have hk := hk2 hel)
      go_ret
      exact ⟨ret_bool HF.out.symm, Below.refl _ _⟩
    · rw [hel, Bool.true_and] at HR
      by_cases h3 : 3 ≤ (b :: t).count b
      · have hA : ([b, 32, 9] : List UInt8).all (fun b => decide (b.toNat < 128)) = true := by
          have : b = 42 ∨ b = 45 ∨ b = 95 := by simpa using hel
          rcases this with rfl | rfl | rfl <;> decide
        have HT := (show Hid _ from fun w => trim_at s ⟨#[b, 32, 9]⟩ hs (show 3 < 100 by omega) hA X hX w)
        have q3 : (3 : Int) ≤ ((b :: t).count b : Int) := by omega
        have hcat : (ByteArray.mk #[b] ++ ByteArray.mk #[32, 9]) = ⟨#[b, 32, 9]⟩ := cat_eq [b] [32, 9]
        have HF : Hid (ruleL (b :: t) = X.data.toList.isEmpty) := by show _ = _; rw [HR.out, HE.out, decide_eq_true h3]; rfl
        clear hX HR
        generalize (b :: t).count b = n at *
        cases hxe : X.data.toList.isEmpty
        all_goals
          have hxe2 := nil_text X _ hxe
          go_enter Tryz.func10, Tryz.ntmps10
          go_wp2_with (first
            | (go_at_call 19; refine (HI.out _).mono ?_; rintro e w1 ⟨⟨k, rfl, hk1, hk2⟩, hw⟩; subst w1; have hk := hk1 hel)
            | (go_at_call 20; refine (HC.out _).mono ?_; rintro e w1 ⟨rfl, hw⟩; subst w1)
            | (go_at_call 21; refine (HT.out _).mono ?_; rintro e w2 ⟨rfl, hb2⟩))
          go_ret
          exact ⟨ret_bool (by rw [HF.out, hxe]), hb2⟩
      · have q3 : ¬ (3 : Int) ≤ ((b :: t).count b : Int) := by omega
        have HF : Hid (ruleL (b :: t) = false) := by show _ = _; rw [HR.out, decide_eq_false h3]; rfl
        clear HR
        generalize (b :: t).count b = n at *
        go_enter Tryz.func10, Tryz.ntmps10
        go_wp2_with (first
          | (go_at_call 19; refine (HI.out _).mono ?_; rintro e w1 ⟨⟨k, rfl, hk1, hk2⟩, hw⟩; subst w1; have hk := hk1 hel)
          | (go_at_call 20; refine (HC.out _).mono ?_; rintro e w1 ⟨rfl, hw⟩; subst w1))
        go_ret
        exact ⟨ret_bool HF.out.symm, Below.refl _ _⟩

end Go.Proofs.YtnjfkgkcapkfbaaGreatDoor
