/- What must be in any case, of stage 3. -/
import Derived.Test.YtonlkkpoanlcbaaCMv
set_option linter.unusedVariables false
namespace Go.Proofs.Ytonlkkpoanlcbaa
open Go.RowKit

theorem sh_new (w : World) : Calls Try.prog 8 #[.string ⟨#[9, 97]⟩] w fun e w' => e = .returned (cptr w.heap.size) ∧ Cur w' w.heap.size ([9, 97], 0, 0) ∧ Below w.heap.size w w' :=
  new_any ⟨#[9, 97]⟩ w (by decide)

theorem sh_indent {b : Nat} {w : World} (h : Cur w b ([9, 97], 0, 0)) : Calls Try.prog 14 #[cptr b] w fun e w' => e = .returned (.int .i64 4) ∧ w' = w := indent_any h

theorem sh_skip {b : Nat} {w : World} (h : Cur w b ([9, 97], 0, 0)) : Calls Try.prog 9 #[cptr b, .int .i64 2] w fun e w' => e = .returned (.int .i64 2) ∧ Cur w' b ([97], 2, 2) ∧ Oth b w w' := skip_any h 2 (by decide)

theorem sh_rest {b : Nat} {w : World} (h : Cur w b ([97], 2, 2)) : Calls Try.prog 20 #[cptr b] w fun e w' => e = .returned (.string ⟨#[32, 32, 97]⟩) ∧ ∃ m, w' = w.drewN m := rest_any h

theorem sh_column {b : Nat} {w : World} (h : Cur w b ([97], 2, 2)) : Calls Try.prog 13 #[cptr b] w fun e w' => e = .returned (.int .i64 2) ∧ w' = w := column_any h

theorem sh_next {b : Nat} {w : World} (h : Cur w b ([97], 2, 2)) : Calls Try.prog 18 #[cptr b] w fun e w' => e = .returned (.int .u8 97) ∧ w' = w := next_any h

theorem sh_behind {b : Nat} {w : World} (h : Cur w b ([97], 2, 2)) : Calls Try.prog 22 #[cptr b] w fun e w' => e = .returned (.string ⟨#[97]⟩) ∧ ∃ m, w' = w.drewN m := behind_any h

theorem sh_blank {b : Nat} {w : World} (h : Cur w b ([97], 2, 2)) : Calls Try.prog 16 #[cptr b] w fun e w' => e = .returned (.bool false) ∧ ∃ m, w' = w.drewN m := blank_any h

set_option maxHeartbeats 1000000 in
theorem shown_any (w : World) : Calls Try.prog 7 #[] w fun e w' => e = .returned (.bool true) ∧ Below w.heap.size w w' := by
  go_enter Try.func7, Try.ntmps7
  go_wp2_with (first
    | (go_at_call 8; refine (sh_new _).mono ?_; rintro e w1 ⟨rfl, hc, hb⟩; have HC := (show Hid (Cur w1 w.heap.size ([9, 97], 0, 0)) from hc); have HB := (show Hid (Below w.heap.size w w1) from hb); clear hc hb)
    | (go_at_call 14; refine (sh_indent HC.out).mono ?_; rintro e w2 ⟨rfl, hw2⟩; subst w2)
    | (go_at_call 9; refine (sh_skip HC.out).mono ?_; rintro e w2 ⟨rfl, hc2, ho2⟩; have HC2 := (show Hid (Cur w2 w.heap.size ([97], 2, 2)) from hc2); have HO := (show Hid (Oth w.heap.size w1 w2) from ho2); clear hc2 ho2)
    | (go_at_call 20; refine (sh_rest (by exact HC2.out)).mono ?_; rintro e w3 ⟨rfl, m1, hw3⟩; subst w3)
    | (go_at_call 13; refine (sh_column (by exact HC2.out)).mono ?_; rintro e w3 ⟨rfl, hw3⟩; subst w3)
    | (go_at_call 18; refine (sh_next (by exact HC2.out)).mono ?_; rintro e w3 ⟨rfl, hw3⟩; subst w3)
    | (go_at_call 22; refine (sh_behind (by exact HC2.out)).mono ?_; rintro e w3 ⟨rfl, m2, hw3⟩; subst w3)
    | (go_at_call 16; refine (sh_blank (by exact HC2.out)).mono ?_; rintro e w3 ⟨rfl, m3, hw3⟩; subst w3))
  go_ret
  exact ⟨rfl, below_drewN (HB.out.trans (HO.out.below (Nat.le_refl _))) _⟩

end Go.Proofs.Ytonlkkpoanlcbaa
