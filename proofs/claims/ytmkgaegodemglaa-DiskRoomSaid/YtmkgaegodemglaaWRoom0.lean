/- DiskRoom, walked. -/
import Derived.Test.YtmkgaegodemglaaDCls
import Derived.Test.YtmkgaegodemglaaPlainRoom
import Derived.Laws.OwnMore
set_option linter.unusedVariables false
namespace Go.Proofs.Ytmkgaegodemglaa
open Go.RowKit

/-- A row of so many bytes 0. -/
abbrev zeros (K : Nat) : Array Value := Array.replicate K (.int .u8 0)
theorem zeros_cells (K : Nat) : zeros K = (Lib.byteCells (List.replicate K 0)).toArray := by
  simp [zeros, Lib.byteCells]
theorem made_zeros (K : Nat) : madeCells #[.int .u8 0] (K * 1) = zeros K := by
  rw [Nat.mul_one]
  apply Array.ext
  · rw [size_madeCells]; simp [zeros]
  · intro i h1 h2
    simp [madeCells, zeros, Nat.mod_one]
theorem make_at (K : Nat) (hK : K ≤ 1000000) (W : World) : (Instr.makeSlice 29 (.int .i64 (K : Int)) (.int .i64 (K : Int))).run Try.prog W = .ok (.slice (some ⟨W.heap.size, 0, none⟩) K K) (W.alloc (.cells (zeros K) 5)) := by
  obtain ⟨i0, hi, hz0, hz1, hz2⟩ := info_parts info5
  have h := run_makeSlice (P := Try.prog) W 29 5 i0 (.int .u8 0) Try.underlying29 hi hz0 .i64 .i64 (K : Int) (K : Int) (by omega) (by omega) (by rw [hz1]; omega) (by rw [hz2]; omega) (by omega)
  rw [hz1] at h
  have e : (Value.int .u8 0).cells = #[.int .u8 0] := rfl
  rw [Int.toNat_natCast, e, made_zeros] at h
  exact h

structure Rdy (wr : World) (K : Nat) (W : World) (X : Addr) : Prop where
  row : BRow W (some X) K K (List.replicate K 0)
  below : Below wr.heap.size wr W

/-- The name that is read. -/
def nmAt (P : Nat) : Nm := if P = 0 then nA else nB
theorem nmAt_or (P : Nat) : nmAt P = nA ∨ nmAt P = nB := by unfold nmAt; split <;> simp
theorem nmAt_get (P : Nat) (h : P < 2) : ∀ hh, [Value.string { data := #[97] }, Value.string { data := #[98] }][P]'hh = strN (nmAt P) := by
  intro hh
  have : P = 0 ∨ P = 1 := by omega
  rcases this with rfl | rfl <;> rfl
theorem nmAt_len (P : Nat) : (nmAt P).length ≤ 1099511627776 := by rcases nmAt_or P with h | h <;> rw [h] <;> decide

end Go.Proofs.Ytmkgaegodemglaa
