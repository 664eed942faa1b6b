/- DiskKeeps, walked. -/
import Derived.Test.YtkbmblmnhhlicaaGreatDoorDBeg
set_option linter.unusedVariables false
namespace Go.Proofs.YtkbmblmnhhlicaaGreatDoor
open Go.RowKit

abbrev nF : Nm := [102]
abbrev nG : Nm := [103]
/-- A disk of the laws' room, not armed. -/
abbrev kD (l : Fls) (up : Bool) (falls : Int) : Dk := ⟨1099511627776, l, up, -1, falls, 0⟩

theorem usedL_nil : usedL [] = 0 := rfl
theorem usedL_one (n : Nm) (f : Fl) : usedL [(n, f)] = f.bs.length := by simp [usedL]
theorem usedL_two (n k : Nm) (f g : Fl) : usedL [(n, f), (k, g)] = f.bs.length + g.bs.length := by simp [usedL]

theorem k_new : newD 1099511627776 = kD [] true 0 := rfl
theorem k_app0 (one : List UInt8) (h : one.length ≤ 100000) : appendP (kD [] true 0) nF one = (0, kD [(nF, ⟨one, 0⟩)] true 0) := by
  rw [append_idle rfl rfl (by show 0 + one.length ≤ 1099511627776; omega) (by show (-1 : Int) < 0; omega)]
  rfl
theorem k_sync (one : List UInt8) : syncP (kD [(nF, ⟨one, 0⟩)] true 0) nF = (0, kD [(nF, ⟨one, one.length⟩)] true 0) := by
  rw [sync_idle rfl (by show (-1 : Int) < 0; omega)]
  rfl
theorem k_app1 (one more : List UInt8) (h : one.length + more.length ≤ 100000) : appendP (kD [(nF, ⟨one, one.length⟩)] true 0) nF more = (0, kD [(nF, ⟨one ++ more, one.length⟩)] true 0) := by
  rw [append_idle rfl rfl (by show usedL [(nF, ⟨one, one.length⟩)] + more.length ≤ 1099511627776; rw [usedL_one]; simp only; omega) (by show (-1 : Int) < 0; omega)]
  rfl
theorem k_app2 (x two : List UInt8) (k : Nat) (h : x.length + two.length ≤ 100000) : appendP (kD [(nF, ⟨x, k⟩)] true 0) nG two = (0, kD [(nF, ⟨x, k⟩), (nG, ⟨two, 0⟩)] true 0) := by
  rw [append_idle rfl rfl (by show usedL [(nF, ⟨x, k⟩)] + two.length ≤ 1099511627776; rw [usedL_one]; simp only; omega) (by show (-1 : Int) < 0; omega)]
  rfl
theorem k_crash (f g : Fl) (keep : Nat) (c : Int) (c' : Int) (hc : IntKind.i64.wrap (c + 1) = c') : crashD (kD [(nF, f), (nG, g)] true c) keep = kD [(nF, fallF keep 0 f), (nG, fallF keep 1 g)] false c' := by
  subst hc
  rfl

theorem not_u64 (keep : Nat) (h : keep < 18446744073709551616) : ∃ K : Nat, K < 18446744073709551616 ∧ bits .xor .u64 IntKind.u64.max (keep : Int) = (K : Int) := by
  have h1 : IntKind.u64.max = ((18446744073709551615 : Nat) : Int) := by decide
  refine ⟨18446744073709551615 ^^^ keep, ?_, ?_⟩
  · have := Nat.xor_lt_two_pow (x := 18446744073709551615) (y := keep) (n := 64) (by decide) (by simpa using h)
    simpa using this
  · rw [h1, u64_xor_nat _ _ (by decide) h]

end Go.Proofs.YtkbmblmnhhlicaaGreatDoor
