/- What must be in any case: shown answers true. -/
import Derived.Test.YtebnobhalffalaaEUnesc
set_option linter.unusedVariables false
namespace Go.Proofs.Ytebnobhalffalaa
open Go.RowKit

theorem html_shown : html [60, 97, 38, 34, 62] = [38, 108, 116, 59, 97, 38, 97, 109, 112, 59, 38, 113, 117, 111, 116, 59, 38, 103, 116, 59] := by kernel_rfl
theorem url_shown : url [47, 91, 38] = [47, 37, 53, 66, 38, 97, 109, 112, 59] := by kernel_rfl
theorem entity_shown : entity [38, 99, 111, 112, 121, 59, 120] = ([194, 169], 6) := by kernel_rfl
theorem unesc_shown : unesc [92, 42, 38, 108, 116, 59, 92, 97] = [42, 60, 92, 97] := by kernel_rfl

theorem html_call (w : World) :
    Calls Try.prog 10 #[.string ⟨#[60, 97, 38, 34, 62]⟩] w fun e w' => e = .returned (.string ⟨#[38, 108, 116, 59, 97, 38, 97, 109, 112, 59, 38, 113, 117, 111, 116, 59, 38, 103, 116, 59]⟩) ∧ Below w.heap.size w w' := by
  refine (html_any ⟨#[60, 97, 38, 34, 62]⟩ w (by decide)).mono ?_
  rintro e w1 ⟨rfl, hb⟩
  rw [show (ByteArray.mk #[60, 97, 38, 34, 62]).data.toList = [60, 97, 38, 34, 62] from rfl, html_shown]
  exact ⟨rfl, hb⟩
theorem url_call (w : World) :
    Calls Try.prog 12 #[.string ⟨#[47, 91, 38]⟩] w fun e w' => e = .returned (.string ⟨#[47, 37, 53, 66, 38, 97, 109, 112, 59]⟩) ∧ Below w.heap.size w w' := by
  refine (url_any ⟨#[47, 91, 38]⟩ w (by decide)).mono ?_
  rintro e w1 ⟨rfl, hb⟩
  rw [show (ByteArray.mk #[47, 91, 38]).data.toList = [47, 91, 38] from rfl, url_shown]
  exact ⟨rfl, hb⟩
theorem ent_call (w : World) :
    Calls Try.prog 14 #[.string ⟨#[38, 99, 111, 112, 121, 59, 120]⟩] w fun e w' => e = .returned (.tuple #[.string ⟨#[194, 169]⟩, .int .i64 6]) ∧ w = w' := by
  have h := entity_any ⟨#[38, 99, 111, 112, 121, 59, 120]⟩ (by decide) w
  rw [show (ByteArray.mk #[38, 99, 111, 112, 121, 59, 120]).data.toList = [38, 99, 111, 112, 121, 59, 120] from rfl, entity_shown] at h
  exact h
theorem unesc_call (w : World) :
    Calls Try.prog 16 #[.string ⟨#[92, 42, 38, 108, 116, 59, 92, 97]⟩] w fun e w' => e = .returned (.string ⟨#[42, 60, 92, 97]⟩) ∧ Below w.heap.size w w' := by
  refine (unesc_any ⟨#[92, 42, 38, 108, 116, 59, 92, 97]⟩ w (by decide)).mono ?_
  rintro e w1 ⟨rfl, hb⟩
  rw [show (ByteArray.mk #[92, 42, 38, 108, 116, 59, 92, 97]).data.toList = [92, 42, 38, 108, 116, 59, 92, 97] from rfl, unesc_shown]
  exact ⟨rfl, hb⟩

set_option maxHeartbeats 2000000 in
set_option maxRecDepth 100000 in
theorem shown_any (w : World) :
    Calls Try.prog 9 #[] w fun e w' => e = .returned (.bool true) ∧ Below w.heap.size w w' := by
  go_enter Try.func9, Try.ntmps9
  go_wp2_with (first | (go_at_call 14; refine (ent_call _).mono ?_; rintro e w' ⟨rfl, rfl⟩) | (go_at_call 10; refine (html_call _).mono ?_))
  rintro e w1 ⟨rfl, hb1⟩
  go_wp2_with (go_at_call 12; refine (url_call _).mono ?_)
  rintro e w2 ⟨rfl, hb2⟩
  go_wp2_with (go_at_call 16; refine (unesc_call _).mono ?_)
  rintro e w3 ⟨rfl, hb3⟩
  go_wp2
  go_ret
  have hb12 := hb1.trans (hb2.mono hb1.size)
  exact ⟨rfl, hb12.trans (hb3.mono hb12.size)⟩

end Go.Proofs.Ytebnobhalffalaa
