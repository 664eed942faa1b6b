/- Blanks, tabs, blanks and a letter: how many columns they take. -/
import Derived.Test.YtonlkkpoanlcbaaCThree
set_option linter.unusedVariables false
namespace Go.Proofs.Ytonlkkpoanlcbaa
open Go.RowKit

theorem end_blanks : ∀ (k : Nat) (t : List UInt8) (c : Nat), endC (List.replicate k 32 ++ t) c = endC t (c + k)
  | 0, t, c => rfl
  | k + 1, t, c => by
    rw [List.replicate_succ, List.cons_append]
    simp only [endC, show isB 32 = true from rfl, if_true, show wid 32 c = 1 from rfl]
    rw [end_blanks k t (c + 1)]
    congr 1; omega

theorem end_tabs0 : ∀ (k : Nat) (t : List UInt8) (c : Nat), c % 4 = 0 → endC (List.replicate k 9 ++ t) c = endC t (c + 4 * k)
  | 0, t, c, _ => rfl
  | k + 1, t, c, h => by
    rw [List.replicate_succ, List.cons_append]
    simp only [endC, show isB 9 = true from rfl, if_true, wid_tab, h]
    rw [end_tabs0 k t (c + (4 - 0)) (by omega)]
    congr 1; omega

theorem end_tabs (k : Nat) (h : 0 < k) (t : List UInt8) (c : Nat) : endC (List.replicate k 9 ++ t) c = endC t (c - c % 4 + 4 * k) := by
  obtain ⟨j, rfl⟩ : ∃ j, k = j + 1 := ⟨k - 1, by omega⟩
  rw [List.replicate_succ, List.cons_append]
  simp only [endC, show isB 9 = true from rfl, if_true, wid_tab]
  rw [end_tabs0 j t (c + (4 - c % 4)) (by omega)]
  congr 1; omega

theorem beh_run : ∀ (k : Nat) (b : UInt8) (t : List UInt8), isB b = true → beh (List.replicate k b ++ t) = beh t
  | 0, b, t, _ => rfl
  | k + 1, b, t, h => by
    rw [List.replicate_succ, List.cons_append]
    simp only [beh, h, if_true]
    exact beh_run k b t h

/-- The line of CursorTabs. -/
def tabLine (x y z : Nat) : List UInt8 := List.replicate x 32 ++ (List.replicate y 9 ++ (List.replicate z 32 ++ [120, 32, 121]))
def tabCols (x y z : Nat) : Nat := (if 0 < y then x - x % 4 + 4 * y else x) + z

theorem tab_end (x y z : Nat) : endC (tabLine x y z) 0 = tabCols x y z := by
  unfold tabLine tabCols
  rw [end_blanks, Nat.zero_add]
  by_cases h : 0 < y
  · rw [end_tabs y h, end_blanks, if_pos h]
    rfl
  · rw [show y = 0 by omega, if_neg (by omega)]
    show endC (List.replicate z 32 ++ [120, 32, 121]) x = _
    rw [end_blanks]
    rfl

theorem tab_beh (x y z : Nat) : beh (tabLine x y z) = [120, 32, 121] := by
  unfold tabLine
  rw [beh_run _ _ _ rfl, beh_run _ _ _ rfl, beh_run _ _ _ rfl]
  rfl

theorem tab_len (x y z : Nat) : (tabLine x y z).length = x + y + z + 3 := by
  unfold tabLine
  simp only [List.length_append, List.length_replicate, List.length_cons, List.length_nil]
  omega

theorem tab_ind (x y z : Nat) : indR (tabLine x y z, 0, 0) = tabCols x y z := by
  show endC (tabLine x y z) 0 - 0 = _
  rw [tab_end]; rfl

theorem tab_move (x y z : Nat) : moveR 1 (tabLine x y z, 0, 0) = ([32, 121], 0, tabCols x y z + 1) := by
  show passR 1 (beh (tabLine x y z)) (endC (tabLine x y z) 0) = _
  rw [tab_end, tab_beh]
  rfl

/-- A mask of five bits. -/
theorem and_31 (z : Int) : ∃ n : Nat, n ≤ 31 ∧ bits .and .i64 z 31 = (n : Int) := by
  have h : (BitVec.ofInt 64 z &&& BitVec.ofInt 64 31).toNat ≤ 31 := by
    rw [BitVec.toNat_and]
    exact Nat.le_trans Nat.and_le_right (by decide)
  refine ⟨(BitVec.ofInt 64 z &&& BitVec.ofInt 64 31).toNat, h, ?_⟩
  show IntKind.i64.wrap (((BitVec.ofInt 64 z &&& BitVec.ofInt 64 31).toNat : Nat) : Int) = _
  rw [IntKind.wrap_i64]
  omega

theorem rep_push {l : List UInt8} {k : Nat} {b : UInt8} {p : List UInt8} (h : l = p ++ List.replicate k b) : l ++ [b] = p ++ List.replicate (k + 1) b := by
  rw [h, List.append_assoc, List.replicate_succ']

end Go.Proofs.Ytonlkkpoanlcbaa
