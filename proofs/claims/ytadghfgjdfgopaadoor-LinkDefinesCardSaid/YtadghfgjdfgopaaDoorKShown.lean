/- What must be in any case (stage 6's laws): shown, walked. -/
import Derived.Test.YtadghfgjdfgopaaDoorKDefine
set_option linter.unusedVariables false
namespace Go.Proofs.YtadghfgjdfgopaaDoor
open Go.RowKit

theorem shown_label (w : World) : Calls Tryd.prog 9 #[.string ⟨#[91, 97, 92, 93, 98, 93, 99]⟩] w fun e w' => e = .returned (.tuple #[.string ⟨#[97, 92, 93, 98]⟩, .int .i64 6]) ∧ Below w.heap.size w w' :=
  klabel_at ⟨#[91, 97, 92, 93, 98, 93, 99]⟩ (by decide) [97, 92, 93, 98] 6 (by show _ = _; decide +kernel) w
theorem shown_dest (w : World) : Calls Tryd.prog 11 #[.string ⟨#[97, 40, 98, 41, 99, 41, 100]⟩] w fun e w' => e = .returned (.tuple #[.string ⟨#[97, 40, 98, 41, 99]⟩, .int .i64 5]) ∧ Below w.heap.size w w' :=
  kdest_at ⟨#[97, 40, 98, 41, 99, 41, 100]⟩ (by decide) [97, 40, 98, 41, 99] 5 (by decide) (by show _ = _; decide +kernel) w
theorem shown_title (w : World) : Calls Tryd.prog 13 #[.string ⟨#[34, 97, 92, 34, 98, 34]⟩] w fun e w' => e = .returned (.tuple #[.string ⟨#[97, 34, 98]⟩, .int .i64 6]) ∧ Below w.heap.size w w' :=
  ktitle_at ⟨#[34, 97, 92, 34, 98, 34]⟩ (by decide) [97, 34, 98] 6 (by decide) (by show _ = _; decide +kernel) w
theorem shown_define (w : World) : Calls Tryd.prog 15 #[.string ⟨#[91, 70, 111, 111, 93, 58, 32, 47, 117, 32, 34, 116, 34, 10]⟩] w fun e w' => e = .returned (.tuple #[.agg #[.string ⟨#[102, 111, 111]⟩, .string ⟨#[47, 117]⟩, .string ⟨#[116]⟩], .int .i64 14]) ∧ Below w.heap.size w w' :=
  kdefine_at ⟨#[91, 70, 111, 111, 93, 58, 32, 47, 117, 32, 34, 116, 34, 10]⟩ (by decide) [102, 111, 111] [47, 117] [116] 14 (by show _ = _; decide +kernel) w

set_option maxHeartbeats 2000000 in
set_option maxRecDepth 8000 in
theorem kshown_any (w : World) : Calls Tryd.prog 8 #[] w fun e w' => e = .returned (.bool true) ∧ Below w.heap.size w w' := by
  go_enter Tryd.func8, Tryd.ntmps8
  go_wp2_with (first
    | (go_at_call 9; refine (shown_label _).mono ?_; rintro e w1 ⟨rfl, hb1⟩)
    | (go_at_call 11; refine (shown_dest _).mono ?_; rintro e w2 ⟨rfl, hb2⟩)
    | (go_at_call 13; refine (shown_title _).mono ?_; rintro e w3 ⟨rfl, hb3⟩)
    | (go_at_call 15; refine (shown_define _).mono ?_; rintro e w4 ⟨rfl, hb4⟩))
  go_ret
  have hb := below_next (below_next (below_next hb1 hb2) hb3) hb4
  exact ⟨rfl, hb.alloc hb.size _⟩

end Go.Proofs.YtadghfgjdfgopaaDoor
