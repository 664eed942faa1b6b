/- What must be in any case: shown, walked. -/
import Derived.Test.YtegjpfhpkkffiaaDoorSAuto2
set_option linter.unusedVariables false
namespace Go.Proofs.YtegjpfhpkkffiaaDoor
open Go.RowKit

theorem below_drewN {B : Nat} {w0 w : World} (h : Below B w0 w) (n : Nat) : Below B w0 (w.drewN n) := h.trans ⟨rfl, rfl, rfl, Nat.le_refl _, fun k hk => rfl⟩

set_option maxRecDepth 100000 in
theorem shown_code : codeL [96, 96, 97, 32, 96, 32, 98, 96, 96, 99] = some ([97, 32, 96, 32, 98], 9) := by decide +kernel
set_option maxRecDepth 100000 in
theorem shown_auto : autoL [60, 97, 64, 98, 46, 99, 62] = some ([109, 97, 105, 108, 116, 111, 58, 97, 64, 98, 46, 99], [97, 64, 98, 46, 99], 7) := by decide +kernel
set_option maxRecDepth 100000 in
theorem shown_tag : tagN [60, 97, 32, 98, 61, 39, 99, 39, 32, 100, 47, 62, 120] = 12 := by decide +kernel
set_option maxRecDepth 100000 in
theorem shown_raw : rawN [60, 33, 65, 32, 98, 62] = 6 := by decide +kernel

set_option maxHeartbeats 2000000 in
theorem shown_any (w : World) (hm : ML w) : Calls Tryd.prog 9 #[] w fun e w' => e = .returned (.bool true) ∧ Below w.heap.size w w' := by
  have HC : Hid (∀ w, ML w → Calls Tryd.prog 10 #[.string ⟨#[96, 96, 97, 32, 96, 32, 98, 96, 96, 99]⟩] w fun e w' => e = .returned (.tuple #[.string ⟨#[97, 32, 96, 32, 98]⟩, .int .i64 9]) ∧ Below w.heap.size w w') := fun w hm => by
    have := code_any ⟨#[96, 96, 97, 32, 96, 32, 98, 96, 96, 99]⟩ (by decide) w hm
    rw [show codeL (ByteArray.mk #[96, 96, 97, 32, 96, 32, 98, 96, 96, 99]).data.toList = _ from shown_code] at this
    exact this
  have HA : Hid (∀ w, ML w → Calls Tryd.prog 12 #[.string ⟨#[60, 97, 64, 98, 46, 99, 62]⟩] w fun e w' => e = .returned (.tuple #[.string ⟨#[109, 97, 105, 108, 116, 111, 58, 97, 64, 98, 46, 99]⟩, .string ⟨#[97, 64, 98, 46, 99]⟩, .int .i64 7]) ∧ Below w.heap.size w w') := fun w hm => by
    have := auto_any ⟨#[60, 97, 64, 98, 46, 99, 62]⟩ (by decide) w hm
    rw [show autoL (ByteArray.mk #[60, 97, 64, 98, 46, 99, 62]).data.toList = _ from shown_auto] at this
    exact this
  have HT : Hid (∀ w, Calls Tryd.prog 14 #[.string ⟨#[60, 97, 32, 98, 61, 39, 99, 39, 32, 100, 47, 62, 120]⟩] w fun e w' => e = .returned (.int .i64 12) ∧ ∃ n, w' = w.drewN n) := fun w => by
    have := tag_any ⟨#[60, 97, 32, 98, 61, 39, 99, 39, 32, 100, 47, 62, 120]⟩ (by decide) w
    rw [show tagN (ByteArray.mk #[60, 97, 32, 98, 61, 39, 99, 39, 32, 100, 47, 62, 120]).data.toList = _ from shown_tag] at this
    exact this
  have HR : Hid (∀ w, ML w → Calls Tryd.prog 16 #[.string ⟨#[60, 33, 65, 32, 98, 62]⟩] w fun e w' => e = .returned (.int .i64 6) ∧ ∃ n, w' = w.drewN n) := fun w hm => by
    have := raw_any ⟨#[60, 33, 65, 32, 98, 62]⟩ (by decide) w hm
    rw [show rawN (ByteArray.mk #[60, 33, 65, 32, 98, 62]).data.toList = _ from shown_raw] at this
    exact this
  go_enter Tryd.func9, Tryd.ntmps9
  go_wp2_with (go_at_call 10; refine (HC.out _ hm).mono ?_; rintro e w1 ⟨rfl, hb1⟩)
  have hm1 := hm.go hb1
  go_wp2_with (go_at_call 12; refine (HA.out _ hm1).mono ?_; rintro e w2 ⟨rfl, hb2⟩)
  have hm2 := hm1.go hb2
  go_wp2_with (first
    | (go_at_call 14; refine (HT.out _).mono ?_; rintro e w3 ⟨rfl, n, hw⟩; subst w3)
    | (go_at_call 16; refine (HR.out _ (hm2.drewN _)).mono ?_; rintro e w4 ⟨rfl, n2, hw⟩; subst w4))
  go_ret
  exact ⟨rfl, below_drewN (hb1.trans (hb2.mono hb1.size)) _⟩

end Go.Proofs.YtegjpfhpkkffiaaDoor
