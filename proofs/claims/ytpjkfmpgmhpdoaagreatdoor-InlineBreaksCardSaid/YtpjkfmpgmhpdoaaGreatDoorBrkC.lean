/- What lies in memory of a row of breaks. -/
import Derived.Test.YtpjkfmpgmhpdoaaGreatDoorG08
import Derived.Test.YtpjkfmpgmhpdoaaGreatDoorH01
set_option linter.unusedVariables false
namespace Go.Proofs.YtpjkfmpgmhpdoaaGreatDoor
open Go.RowKit

theorem brks_len : ∀ qs : List (Nat × Bool), (brksI qs).len = 2 * qs.length + 1
  | [] => rfl
  | q :: r => by
    have h := brks_len r
    show ((brksI r).len + 1) + 1 = _
    rw [h, List.length_cons]
    omega

theorem brks_cells {w : World} {S : Nat → Prop} : ∀ (qs : List (Nat × Bool)) (ys : List Value), KidI w S (brksI qs) ys →
    (∀ i q, qs[i]? = some q → ys[10 * i]? = some (.int .i64 0) ∧ ys[10 * i + 1]? = some (strW (brkW q.1)) ∧ ys[10 * i + 5]? = some (.int .i64 (brkK q.1 : Nat))) ∧ ys[10 * qs.length + 1]? = some (strW [122])
  | [], ys, h => by
    obtain ⟨v, y1, z1, rfl, _, _, _, h2⟩ := h
    exact ⟨fun i q hq => (by cases hq), rfl⟩
  | q :: r, ys, h => by
    obtain ⟨v, y1, z1, rfl, _, _, _, h2⟩ := h
    obtain ⟨v2, y2, z2, rfl, _, _, _, h3⟩ := h2
    obtain ⟨c1, c2⟩ := brks_cells r z2 h3
    have key : ∀ m, (iiCells { text := brkW q.1 } v ++ (iiCells { kind := brkK q.1 } v2 ++ z2))[m + 10]? = z2[m]? := fun m => rfl
    refine ⟨fun i p hp => ?_, ?_⟩
    · cases i with
      | zero =>
        cases (Option.some.inj hp)
        exact ⟨rfl, rfl, rfl⟩
      | succ j =>
        obtain ⟨d1, d2, d3⟩ := c1 j p hp
        refine ⟨?_, ?_, ?_⟩
        · rw [show 10 * (j + 1) = 10 * j + 10 by omega, key]; exact d1
        · rw [show 10 * (j + 1) + 1 = 10 * j + 1 + 10 by omega, key]; exact d2
        · rw [show 10 * (j + 1) + 5 = 10 * j + 5 + 10 by omega, key]; exact d3
    · rw [List.length_cons, show 10 * (r.length + 1) + 1 = 10 * r.length + 1 + 10 by omega, key]
      exact c2

/-- The numbers of the row: the ending of each line, and whether blanks follow. -/
def brkQ (lo : Nat → Nat) (hi : Nat → Nat) (k : Nat) : List (Nat × Bool) := (List.range k).map fun i => (lo i, hi i == 1)
theorem brkQ_next (lo hi : Nat → Nat) (k : Nat) : (brkQ lo hi (k + 1)).flatMap pieceI = (brkQ lo hi k).flatMap pieceI ++ pieceI (lo k, hi k == 1) := by
  unfold brkQ
  rw [List.range_succ, List.map_append, List.flatMap_append]
  simp
theorem brkQ_at (lo hi : Nat → Nat) {k i : Nat} (h : i < k) : (brkQ lo hi k)[i]? = some (lo i, hi i == 1) := by
  unfold brkQ
  simp [h]
theorem brkQ_len (lo hi : Nat → Nat) (k : Nat) : (brkQ lo hi k).length = k := by simp [brkQ]
theorem piece_len (q : Nat × Bool) : (pieceI q).length ≤ 12 := by
  have h1 : (brkE q.1).length ≤ 8 := by
    unfold brkE brkN
    repeat (first | decide | split)
    all_goals simp
  have h2 : (brkB q.2).length ≤ 2 := by unfold brkB; split <;> simp
  unfold pieceI
  simp only [List.length_append, List.length_cons, List.length_nil]
  omega
theorem brkQ_size (lo hi : Nat → Nat) : ∀ k, ((brkQ lo hi k).flatMap pieceI).length ≤ 12 * k
  | 0 => by simp [brkQ]
  | k + 1 => by
    have h1 := brkQ_size lo hi k
    have h2 := piece_len (lo k, hi k == 1)
    rw [brkQ_next, List.length_append]
    omega
end Go.Proofs.YtpjkfmpgmhpdoaaGreatDoor
