/- Package leaf: HTML: it answers 0 to 7, and 0 of what does not begin with '<'; walked. -/
import Derived.Test.YtnjfkgkcapkfbaaGreatDoorLFence
import Derived.Test.YtnjfkgkcapkfbaaGreatDoorSTag3
set_option linter.unusedVariables false
namespace Go.Proofs.YtnjfkgkcapkfbaaGreatDoor
open Go.RowKit

theorem lletter_any (c : Nat) (w : World) :
    Calls Tryz.prog 29 #[.int .u8 (c : Int)] w fun e w' => e = .returned (.bool (letN c)) ∧ w' = w := by
  have hc : c < 65 ∨ (65 ≤ c ∧ c ≤ 90) ∨ (90 < c ∧ c < 97) ∨ (97 ≤ c ∧ c ≤ 122) ∨ 122 < c := by omega
  rcases hc with h | ⟨h, h'⟩ | ⟨h, h'⟩ | ⟨h, h'⟩ | h
  all_goals
    go_enter Tryz.func29, Tryz.ntmps29
    go_wp2
    go_ret
    exact ⟨ret_bool (by unfold letN; rw [Bool.eq_iff_iff]; simp; omega), rfl⟩

theorem ldigit_any (c : Nat) (w : World) :
    Calls Tryz.prog 34 #[.int .u8 (c : Int)] w fun e w' => e = .returned (.bool (digN c)) ∧ w' = w := by
  have hc : c < 48 ∨ (48 ≤ c ∧ c ≤ 57) ∨ 57 < c := by omega
  rcases hc with h | ⟨h, h'⟩ | h
  all_goals
    go_enter Tryz.func34, Tryz.ntmps34
    go_wp2
    go_ret
    exact ⟨ret_bool (by unfold digN; rw [Bool.eq_iff_iff]; simp; omega), rfl⟩

theorem ltag_kind : LKind 65 #[] (fun _ => True) nameC := by
  refine ⟨enters_of Tryz.func65 (by kernel_rfl) rfl, fun c w _ => ?_⟩
  have he := eqN c 45 (by omega)
  have hn : nameC c = (letN c.toNat || digN c.toNat || c == Nat.toUInt8 45) := rfl
  rw [he] at hn
  have HN := (show Hid _ from hn)
  clear he hn
  cases hl : letN c.toNat <;> cases hd : digN c.toNat <;> by_cases h45 : c.toNat = 45
  all_goals
    go_enter Tryz.func65, Tryz.ntmps65
    go_wp2_with (first
      | (go_at_call 29; refine (lletter_any _ _).mono ?_; rintro e w1 ⟨rfl, hw⟩; subst w1)
      | (go_at_call 34; refine (ldigit_any _ _).mono ?_; rintro e w1 ⟨rfl, hw⟩; subst w1))
    go_ret
    exact ⟨ret_bool (by rw [HN.out, hl, hd]; simp [h45]; try omega), rfl⟩

theorem nameC_ascii {c : UInt8} (h : nameC c = true) : c.toNat < 128 := by
  have h1 : (letN c.toNat || digN c.toNat || c == 45) = true := h
  rw [Bool.or_eq_true, Bool.or_eq_true] at h1
  rcases h1 with (h | h) | h
  · unfold letN at h
    simp at h
    omega
  · unfold digN at h
    simp at h
    omega
  · have : c = 45 := by simpa using h
    subst this
    decide

set_option maxHeartbeats 1000000 in
theorem ltagName_any (s : ByteArray) (hs : s.size ≤ 140737488351232) (w : World) :
    Calls Tryz.prog 52 #[.string s] w fun e w' => e = .returned (.tuple #[.string ⟨(Lib.toLowerA (s.data.toList.take (rowN nameC s.data.toList))).toArray⟩, .string ⟨(s.data.toList.drop (rowN nameC s.data.toList)).toArray⟩]) ∧ Below w.heap.size w w' := by
  have hkl : rowN nameC s.data.toList ≤ s.size := by have := row_le nameC s.data.toList; rw [len_data] at this; exact this
  have HR := (show Hid _ from fun w => lrow_any ltag_kind s (by omega) w trivial)
  have hall := row_take nameC s.data.toList
  have hx : s.extract 0 (rowN nameC s.data.toList) = ⟨(s.data.toList.take (rowN nameC s.data.toList)).toArray⟩ := by rw [extract_eq]; rfl
  have hy : s.extract (rowN nameC s.data.toList) s.size = ⟨(s.data.toList.drop (rowN nameC s.data.toList)).toArray⟩ := extract_end s _
  obtain ⟨A, hA⟩ : ∃ A : ByteArray, A = ⟨(Lib.toLowerA (s.data.toList.take (rowN nameC s.data.toList))).toArray⟩ := ⟨_, rfl⟩
  have H1 : Hid (∀ u : BelW w, Calls Tryz.prog 66 #[.string (s.extract 0 (rowN nameC s.data.toList))] u.wo fun e w' => e = .returned (.string A) ∧ ∃ u' : BelW w, w' = u'.wo) := bq (fun w => by
    have h2 : (s.extract 0 (rowN nameC s.data.toList)).data.toList = s.data.toList.take (rowN nameC s.data.toList) := by rw [hx]
    have h3 : (s.extract 0 (rowN nameC s.data.toList)).size ≤ s.size := by rw [ByteArray.size_extract]; omega
    have := Tryz.strings_ToLower_ascii (s.extract 0 (rowN nameC s.data.toList)) w (by omega) (fun j b hb => by
      rw [h2] at hb
      exact nameC_ascii (List.all_eq_true.1 hall b (List.mem_of_getElem? hb)))
    rw [h2, ← hA] at this
    exact this)
  rw [← hA, ← hy]
  clear hA hx hy hall
  generalize rowN nameC s.data.toList = k at *
  go_enter Tryz.func52, Tryz.ntmps52
  go_wp2_with (go_at_call 33; refine (HR.out _).mono ?_; rintro e w1 ⟨rfl, hw⟩; subst w1)
  have hk2 : (k : Int) ≤ (s.size : Int) := by omega
  have o1 : ∀ w', (Instr.slice 9 (.string s) none (some (.int .i64 (k : Int))) none).run Tryz.prog w' = .ok (.string (s.extract 0 k)) w' := fun w' => by
    rw [run_slice_string_to_if w' 9 s .i64 (k : Int) Tryz.underlying9, if_pos (by omega), Int.toNat_natCast]
  refine region_class (fun w' => ∃ u : BelW w, w' = u.wo) (by kernel_rfl) (by kernel_rfl) ⟨BelW.of (below_drewK (Below.refl _ _)), rfl⟩ ?_
  haveI : Nonempty (BelW w) := ⟨BelW.of (Below.refl _ _)⟩
  repeat (go_big_quiet_step ((go_at_call 66; exact H1.out _)))
  refine wpQuiet_nil ?_
  intro _ hw'
  obtain ⟨u, hu⟩ := hw'
  subst hu
  have HU := (show Hid _ from u.is)
  go_wp2
  go_ret2
  exact ⟨rfl, HU.out⟩

/-! ### Names -/

theorem ltext_any (s : ByteArray) (w : World) :
    Calls Tryz.prog 53 #[.string s] w fun e w' => (∃ b : Bool, e = .returned (.bool b)) ∧ w' = w := by
  go_enter Tryz.func53, Tryz.ntmps53
  go_wp2
  all_goals
    go_ret
    exact ⟨⟨_, rfl⟩, rfl⟩

set_option maxHeartbeats 4000000 in
set_option maxRecDepth 8000 in
theorem lblock_any (s : ByteArray) (w : World) :
    Calls Tryz.prog 55 #[.string s] w fun e w' => (∃ b : Bool, e = .returned (.bool b)) ∧ w' = w := by
  go_enter Tryz.func55, Tryz.ntmps55
  go_wp2
  all_goals
    go_ret
    exact ⟨⟨_, rfl⟩, rfl⟩

theorem ltext_div (w : World) : Calls Tryz.prog 53 #[.string ⟨#[100, 105, 118]⟩] w fun e w' => e = .returned (.bool false) ∧ w' = w := by
  go_enter Tryz.func53, Tryz.ntmps53
  go_wp2
  go_ret
  exact ⟨rfl, rfl⟩
theorem lblock_div (w : World) : Calls Tryz.prog 55 #[.string ⟨#[100, 105, 118]⟩] w fun e w' => e = .returned (.bool true) ∧ w' = w := by
  go_enter Tryz.func55, Tryz.ntmps55
  go_wp2
  go_ret
  exact ⟨rfl, rfl⟩

end Go.Proofs.YtnjfkgkcapkfbaaGreatDoor
