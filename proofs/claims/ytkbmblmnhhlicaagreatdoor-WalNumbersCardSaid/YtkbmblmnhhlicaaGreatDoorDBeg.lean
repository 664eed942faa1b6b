/- begins, walked; what a disk that is not armed does. -/
import Derived.Test.YtkbmblmnhhlicaaGreatDoorD03
set_option linter.unusedVariables false
namespace Go.Proofs.YtkbmblmnhhlicaaGreatDoor
open Go.RowKit

theorem BRow.pre {w : World} {a : Option Addr} {n c : Nat} {l : List UInt8} (h : BRow w a n c l) {k : Nat} (hk : k ≤ n) : BRow w a k c (l.take k) := by
  have hl := h.1
  refine ⟨by rw [List.length_take]; omega, ?_⟩
  rcases h.2 with ⟨h1, h2, h3⟩ | ⟨x, h1, hc⟩
  · exact .inl ⟨h1, by omega, h3⟩
  · refine .inr ⟨x, h1, fun j hj => ?_⟩
    rw [List.length_take] at hj
    rw [List.getElem_take]
    exact hc j (by omega)
theorem BRow.drewN {w : World} {a : Option Addr} {n c : Nat} {l : List UInt8} (h : BRow w a n c l) (k : Nat) : BRow (w.drewN k) a n c l := h

/-! ### a disk that is not armed -/
theorem append_idle {d : Dk} {n : Nm} {l : List UInt8} (hu : d.up = true) (hm : mayN n = true) (hr : usedL d.files + l.length ≤ d.room) (ha : d.ahead < 0) : appendP d n l = (0, addD d n l) := by
  have h1 : ¬ d.ahead = 0 := by omega
  have h2 : ¬ 0 < d.ahead := by omega
  unfold appendP
  rw [if_neg (by rw [hu]; decide), if_neg (by rw [hm]; decide), if_neg (by omega), if_neg h1]
  unfold failD doneD
  rw [if_neg (by exact h1), if_neg (by exact h2)]
theorem append_off {d : Dk} {n : Nm} {l : List UInt8} (hu : d.up = false) : appendP d n l = (13, d) := by
  unfold appendP
  rw [if_pos hu]
theorem sync_idle {d : Dk} {n : Nm} (hf : findV d n = 0) (ha : d.ahead < 0) : syncP d n = (0, { d with files := putA n ⟨(theF d n).bs, (theF d n).bs.length⟩ d.files }) := by
  have h1 : ¬ d.ahead = 0 := by omega
  have h2 : ¬ 0 < d.ahead := by omega
  unfold syncP
  rw [if_neg (by rw [hf]; decide), if_neg h1]
  unfold failD doneD
  rw [if_neg h1, if_neg h2]

/-- What stays of a file all of which lasts. -/
theorem fall_lasts (keep i : Nat) (bs : List UInt8) : fallF keep i ⟨bs, bs.length⟩ = ⟨bs, bs.length⟩ := by
  have : stay keep i ⟨bs, bs.length⟩ = bs.length := by
    unfold stay
    simp [Nat.mod_one]
  unfold fallF
  rw [this]
  simp

end Go.Proofs.YtkbmblmnhhlicaaGreatDoor
