/- Package link: Label; walked. -/
import Derived.Test.YtadghfgjdfgopaaDoorKLabel
import Derived.Test.YtadghfgjdfgopaaDoorPlainLink8
set_option linter.unusedVariables false
namespace Go.Proofs.YtadghfgjdfgopaaDoor
open Go.RowKit

theorem ext_take (s : ByteArray) (k : Nat) : (s.extract 0 k).data.toList = s.data.toList.take k := by
  rw [extract_eq]
  simp

theorem two_none {v : List UInt8} {z : Nat} (h : Hid ((v, z) = (([] : List UInt8), 0))) : Ending.returned (.tuple #[.string ⟨#[]⟩, .int .i64 0]) = .returned (.tuple #[.string ⟨v.toArray⟩, .int .i64 (z : Int)]) := by
  have := h.out
  cases this
  rfl
theorem two_some {v x : List UInt8} {z m : Nat} {a : ByteArray} {k : Int} (h : Hid ((v, z) = (x, m))) (ha : a = ⟨x.toArray⟩) (hk : k = (m : Int)) : Ending.returned (.tuple #[.string a, .int .i64 k]) = .returned (.tuple #[.string ⟨v.toArray⟩, .int .i64 (z : Int)]) := by
  have := h.out
  cases this
  rw [ha, hk]

set_option maxHeartbeats 1000000 in
set_option maxRecDepth 8000 in
theorem klabel_at (s : ByteArray) (hs : s.size ≤ 9223372036854775000) (v : List UInt8) (z : Nat) (h : Hid (pairL (labelL s.data.toList) = (v, z))) (w : World) :
    Calls Tryd.prog 9 #[.string s] w fun e w' => e = .returned (.tuple #[.string ⟨v.toArray⟩, .int .i64 (z : Int)]) ∧ Below w.heap.size w w' := by
  obtain ⟨q, hm1⟩ : ∃ q : ByteArray, (s.size ≤ 1001 ∧ q = s) ∨ (1001 < s.size ∧ q = s.extract 0 1001) := by
    by_cases hc : s.size ≤ 1001
    · exact ⟨s, .inl ⟨hc, rfl⟩⟩
    · exact ⟨_, .inr ⟨by omega, rfl⟩⟩
  have et : q.data.toList = s.data.toList.take 1001 := by
    rcases hm1 with ⟨h1, h2⟩ | ⟨h1, h2⟩
    · rw [h2, List.take_of_length_le (by rw [len_data]; omega)]
    · rw [h2, ext_take]
  have hz0 : q.size ≤ 9223372036854775000 := by rw [← len_data, et, List.length_take]; omega
  have HE := (show Hid _ from fun w => kencl_any q hz0 91 93 91 93 rfl rfl ⟨#[91]⟩ (· == 91) (fun b => by rw [Bool.eq_iff_iff]; simp) w)
  rw [et] at HE
  have hl2 := encl_two 91 93 (· == 91) (s.data.toList.take 1001)
  have hle := encl_le 91 93 (· == 91) (s.data.toList.take 1001)
  have HL := h.out
  rw [label_code] at HL
  rw [List.length_take, len_data] at hle
  generalize enclL 91 93 (· == 91) (s.data.toList.take 1001) = n at *
  have hn : n ≤ s.size := by omega
  clear et hz0 hle h
  by_cases h0 : n = 0
  · subst h0
    rw [if_pos (.inl rfl)] at HL
    have HV : Hid ((v, z) = (([] : List UInt8), 0)) := HL.symm
    clear HL hl2
    rcases hm1 with ⟨h1, rfl⟩ | ⟨h1, rfl⟩
    all_goals
      go_enter Tryd.func9, Tryd.ntmps9
      go_wp2_with (go_at_call 21; refine (HE.out _).mono ?_; rintro e w' ⟨rfl, hw'⟩; subst w')
      go_ret2
      exact ⟨two_none HV, Below.refl _ _⟩
  · have h2 : 2 ≤ n := by omega
    have hq : ((n : Int) == 0) = false := by simp; omega
    have hq2 : (n : Int) - 1 = ((n - 1 : Nat) : Int) := by omega
    have hq3 : 1 ≤ n - 1 := by omega
    have hq4 : n - 1 ≤ s.size := by omega
    have hx : s.extract 1 (n - 1) = ⟨((s.data.toList.drop 1).take (n - 2)).toArray⟩ := by rw [extract_eq, show n - 1 - 1 = n - 2 by omega]
    have hu : ((s.data.toList.drop 1).take (n - 2)).length ≤ 9223372036854775000 := by rw [List.length_take]; omega
    generalize (s.data.toList.drop 1).take (n - 2) = U at *
    obtain ⟨b, hb⟩ : ∃ b, (runes U).all spaceN = b := ⟨_, rfl⟩
    have HS := (show Hid _ from fun w => kspaces_any U b hb hu w)
    rw [← hx] at HS
    rw [hb] at HL
    have HX := (show Hid _ from hx)
    clear hx hb hu hl2 hn h0
    cases b
    · rw [if_neg (by rintro (x | x); omega; cases x)] at HL
      have HV : Hid ((v, z) = (U, n)) := HL.symm
      clear HL
      rcases hm1 with ⟨h1, rfl⟩ | ⟨h1, rfl⟩
      all_goals
        go_enter Tryd.func9, Tryd.ntmps9
        go_wp2_with (first
          | (go_at_call 21; refine (HE.out _).mono ?_; rintro e w' ⟨rfl, hw'⟩; subst w')
          | (go_at_call 22; refine (HS.out _).mono ?_; rintro e w1 ⟨rfl, hb1⟩))
        go_ret2
        exact ⟨two_some HV HX.out rfl, hb1⟩
    · rw [if_pos (.inr rfl)] at HL
      have HV : Hid ((v, z) = (([] : List UInt8), 0)) := HL.symm
      clear HL
      rcases hm1 with ⟨h1, rfl⟩ | ⟨h1, rfl⟩
      all_goals
        go_enter Tryd.func9, Tryd.ntmps9
        go_wp2_with (first
          | (go_at_call 21; refine (HE.out _).mono ?_; rintro e w' ⟨rfl, hw'⟩; subst w')
          | (go_at_call 22; refine (HS.out _).mono ?_; rintro e w1 ⟨rfl, hb1⟩))
        go_ret2
        exact ⟨two_none HV, hb1⟩

end Go.Proofs.YtadghfgjdfgopaaDoor
