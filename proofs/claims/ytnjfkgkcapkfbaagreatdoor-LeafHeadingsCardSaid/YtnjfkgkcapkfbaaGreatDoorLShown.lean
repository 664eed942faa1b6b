/- What must be in any case (stage 5's laws): shown, walked. -/
import Derived.Test.YtnjfkgkcapkfbaaGreatDoorLHtml2
set_option linter.unusedVariables false
namespace Go.Proofs.YtnjfkgkcapkfbaaGreatDoor
open Go.RowKit

theorem tagName_div (w : World) : Calls Tryz.prog 52 #[.string ⟨#[68, 73, 86]⟩] w fun e w' => e = .returned (.tuple #[.string ⟨#[100, 105, 118]⟩, .string ⟨#[]⟩]) ∧ Below w.heap.size w w' := by
  have := ltagName_any ⟨#[68, 73, 86]⟩ (by decide) w
  rw [show (ByteArray.mk (Lib.toLowerA ((ByteArray.mk #[68, 73, 86]).data.toList.take (rowN nameC (ByteArray.mk #[68, 73, 86]).data.toList))).toArray) = ⟨#[100, 105, 118]⟩ by kernel_rfl,
    show (ByteArray.mk ((ByteArray.mk #[68, 73, 86]).data.toList.drop (rowN nameC (ByteArray.mk #[68, 73, 86]).data.toList)).toArray) = ⟨#[]⟩ by kernel_rfl] at this
  exact this

theorem ext_div : (ByteArray.mk #[60, 68, 73, 86]).extract 1 4 = ⟨#[68, 73, 86]⟩ := by kernel_rfl
theorem trimPre_div (w : World) : Calls Tryz.prog 54 #[.string ⟨#[68, 73, 86]⟩, .string ⟨#[47]⟩] w fun e w' => e = .returned (.string ⟨#[68, 73, 86]⟩) ∧ w' = w := by
  have := Tryz.strings_TrimPrefix ⟨#[68, 73, 86]⟩ ⟨#[47]⟩ w
  rw [show (ByteArray.mk (Lib.trimPrefix (ByteArray.mk #[68, 73, 86]).data.toList (ByteArray.mk #[47]).data.toList).toArray) = ⟨#[68, 73, 86]⟩ by kernel_rfl] at this
  exact this
theorem parted_nil (w : World) : Calls Tryz.prog 23 #[.string ⟨#[]⟩] w fun e w' => e = .returned (.bool true) ∧ w' = w := lparted_any ⟨#[]⟩ w

theorem beginsText_div (w : World) : Calls Tryz.prog 28 #[.string ⟨#[60, 68, 73, 86]⟩] w fun e w' => e = .returned (.bool false) ∧ Below w.heap.size w w' := by
  have hx := ext_div
  go_enter Tryz.func28, Tryz.ntmps28
  go_wp2_with (first
    | (go_at_call 52; refine (tagName_div _).mono ?_; rintro e w1 ⟨rfl, hb1⟩)
    | (go_at_call 53; refine (ltext_div _).mono ?_; rintro e w2 ⟨rfl, hw⟩; subst w2))
  go_ret
  exact ⟨rfl, hb1⟩

theorem beginsBlock_div (w : World) : Calls Tryz.prog 30 #[.string ⟨#[60, 68, 73, 86]⟩] w fun e w' => e = .returned (.bool true) ∧ Below w.heap.size w w' := by
  have hx := ext_div
  go_enter Tryz.func30, Tryz.ntmps30
  go_wp2_with (first
    | (go_at_call 54; refine (trimPre_div _).mono ?_; rintro e w2 ⟨rfl, hw⟩; subst w2)
    | (go_at_call 52; refine (tagName_div _).mono ?_; rintro e w1 ⟨rfl, hb1⟩)
    | (go_at_call 55; refine (lblock_div _).mono ?_; rintro e w2 ⟨rfl, hw⟩; subst w2)
    | (go_at_call 23; refine (parted_nil _).mono ?_; rintro e w2 ⟨rfl, hw⟩; subst w2))
  go_ret
  exact ⟨rfl, hb1⟩

theorem html_div (w : World) : Calls Tryz.prog 13 #[.string ⟨#[60, 68, 73, 86]⟩] w fun e w' => e = .returned (.int .i64 6) ∧ Below w.heap.size w w' := by
  have H0 := (show Hid _ from fun w => lpre_any ⟨#[60, 68, 73, 86]⟩ ⟨#[60]⟩ true (by decide) w)
  have H2 := (show Hid _ from fun w => lpre_any ⟨#[60, 68, 73, 86]⟩ ⟨#[60, 33, 45, 45]⟩ false (by decide) w)
  have H3 := (show Hid _ from fun w => lpre_any ⟨#[60, 68, 73, 86]⟩ ⟨#[60, 63]⟩ false (by decide) w)
  have H4 := (show Hid _ from fun w => lpre_any ⟨#[60, 68, 73, 86]⟩ ⟨#[60, 33]⟩ false (by decide) w)
  have H5 := (show Hid _ from fun w => lpre_any ⟨#[60, 68, 73, 86]⟩ ⟨#[60, 33, 91, 67, 68, 65, 84, 65, 91]⟩ false (by decide) w)
  go_enter Tryz.func13, Tryz.ntmps13
  go_wp2_with (first
    | (go_at_call_of 27 (Value.string ⟨#[60]⟩); refine (H0.out _).mono ?_; rintro e w2 ⟨rfl, hw⟩; subst w2)
    | (go_at_call_of 27 (Value.string ⟨#[60, 33, 45, 45]⟩); refine (H2.out _).mono ?_; rintro e w2 ⟨rfl, hw⟩; subst w2)
    | (go_at_call_of 27 (Value.string ⟨#[60, 63]⟩); refine (H3.out _).mono ?_; rintro e w2 ⟨rfl, hw⟩; subst w2)
    | (go_at_call_of 27 (Value.string ⟨#[60, 33]⟩); refine (H4.out _).mono ?_; rintro e w2 ⟨rfl, hw⟩; subst w2)
    | (go_at_call_of 27 (Value.string ⟨#[60, 33, 91, 67, 68, 65, 84, 65, 91]⟩); refine (H5.out _).mono ?_; rintro e w2 ⟨rfl, hw⟩; subst w2)
    | (go_at_call 28; refine (beginsText_div _).mono ?_; rintro e w1 ⟨rfl, hb1⟩)
    | (go_at_call 30; refine (beginsBlock_div _).mono ?_; rintro e w6 ⟨rfl, hb6⟩))
  go_ret
  exact ⟨rfl, below_next hb1 hb6⟩

theorem shown_head (w : World) : Calls Tryz.prog 11 #[.string ⟨#[35, 35, 32, 97, 32, 35, 98, 32, 35, 35]⟩] w fun e w' => e = .returned (.tuple #[.int .i64 2, .string ⟨#[97, 32, 35, 98]⟩]) ∧ Below w.heap.size w w' := by
  have := lheading_any ⟨#[35, 35, 32, 97, 32, 35, 98, 32, 35, 35]⟩ (by decide) w
  rw [show headL (ByteArray.mk #[35, 35, 32, 97, 32, 35, 98, 32, 35, 35]).data.toList = (2, [97, 32, 35, 98]) by decide +kernel] at this
  exact this
theorem shown_fence (w : World) : Calls Tryz.prog 12 #[.string ⟨#[126, 126, 126, 126, 32, 120]⟩] w fun e w' => e = .returned (.tuple #[.int .u8 126, .int .i64 4, .string ⟨#[120]⟩]) ∧ Below w.heap.size w w' := by
  have := lfence_any ⟨#[126, 126, 126, 126, 32, 120]⟩ (by decide) w
  rw [show fenceL (ByteArray.mk #[126, 126, 126, 126, 32, 120]).data.toList = (126, 4, [120]) by decide +kernel] at this
  exact this
theorem shown_mark (w : World) : Calls Tryz.prog 15 #[.string ⟨#[49, 50, 41, 32, 97]⟩] w fun e w' => e = .returned (.tuple #[.int .u8 41, .int .i64 3, .int .i64 12]) ∧ Below w.heap.size w w' := by
  have := lmarker_any ⟨#[49, 50, 41, 32, 97]⟩ (by decide) w
  rw [show markL (ByteArray.mk #[49, 50, 41, 32, 97]).data.toList = (41, 3, 12) by decide +kernel] at this
  refine this.mono ?_
  rintro e w' ⟨rfl, n, rfl⟩
  exact ⟨rfl, below_drewN (Below.refl _ _) n⟩
theorem shown_rule (w : World) : Calls Tryz.prog 10 #[.string ⟨#[42, 32, 42, 32, 42]⟩] w fun e w' => e = .returned (.bool true) ∧ Below w.heap.size w w' := by
  have := lrule_any ⟨#[42, 32, 42, 32, 42]⟩ (by decide) w
  rw [show ruleL (ByteArray.mk #[42, 32, 42, 32, 42]).data.toList = true by decide +kernel] at this
  exact this
theorem shown_under (w : World) : Calls Tryz.prog 18 #[.string ⟨#[61, 61]⟩] w fun e w' => e = .returned (.int .i64 1) ∧ Below w.heap.size w w' := by
  have := lunder_any ⟨#[61, 61]⟩ (by decide) w
  rw [show underL (ByteArray.mk #[61, 61]).data.toList = 1 by decide +kernel] at this
  exact this

set_option maxHeartbeats 2000000 in
set_option maxRecDepth 4000 in
theorem lshown_any (w : World) : Calls Tryz.prog 9 #[] w fun e w' => e = .returned (.bool true) ∧ Below w.heap.size w w' := by
  go_enter Tryz.func9, Tryz.ntmps9
  go_wp2_with (first
    | (go_at_call 11; refine (shown_head _).mono ?_; rintro e w1 ⟨rfl, hb1⟩)
    | (go_at_call 12; refine (shown_fence _).mono ?_; rintro e w2 ⟨rfl, hb2⟩)
    | (go_at_call 15; refine (shown_mark _).mono ?_; rintro e w3 ⟨rfl, hb3⟩)
    | (go_at_call 10; refine (shown_rule _).mono ?_; rintro e w4 ⟨rfl, hb4⟩)
    | (go_at_call 13; refine (html_div _).mono ?_; rintro e w5 ⟨rfl, hb5⟩)
    | (go_at_call 18; refine (shown_under _).mono ?_; rintro e w6 ⟨rfl, hb6⟩))
  go_ret
  exact ⟨rfl, below_next (below_next (below_next (below_next (below_next hb1 hb2) hb3) hb4) hb5) hb6⟩

end Go.Proofs.YtnjfkgkcapkfbaaGreatDoor
