/- What a line may be, over plain lists of bytes: rules, headings, fences, markers. -/
import Derived.Test.YtnjfkgkcapkfbaaGreatDoorPlainSpan
import Derived.Test.YtnjfkgkcapkfbaaGreatDoorPlainEsc
import Derived.Lib.SlTrimSet
set_option linter.unusedVariables false
namespace Go.Proofs.YtnjfkgkcapkfbaaGreatDoor

def gapB (b : UInt8) : Bool := b == 32 || b == 9
theorem gapB_row (b : UInt8) : ([32, 9] : List UInt8).contains b = gapB b := by
  unfold gapB
  rw [List.contains_cons, List.contains_cons]
  simp

/-- How many of a kind of bytes a text begins with. -/
def rowN (p : UInt8 → Bool) (l : List UInt8) : Nat := (l.takeWhile p).length
def runB (c : UInt8) (l : List UInt8) : Nat := rowN (· == c) l

theorem row_le (p : UInt8 → Bool) : ∀ l : List UInt8, rowN p l ≤ l.length
  | [] => by simp [rowN]
  | b :: t => by
    unfold rowN
    rw [List.takeWhile_cons]
    split
    · have := row_le p t
      unfold rowN at this
      simp; omega
    · simp

def partedL : List UInt8 → Bool
  | [] => true
  | b :: _ => gapB b

def closesL (l : List UInt8) (c : UInt8) (n : Int) : Bool := decide (max n 1 ≤ (runB c l : Int)) && (l.drop (runB c l)).all gapB

def underL (l : List UInt8) : Nat := if closesL l 61 1 = true then 1 else if closesL l 45 1 = true then 2 else 0

def ruleL : List UInt8 → Bool
  | [] => false
  | b :: t => (b == 42 || b == 45 || b == 95) && decide (3 ≤ (b :: t).count b) && (b :: t).all fun x => x == b || gapB x

def trimG (l : List UInt8) : List UInt8 := Lib.trimS l [32, 9]

/-- A heading's text, out of what stands behind its signs. -/
def headT (s : List UInt8) : List UInt8 :=
  let a := Lib.trimRightS s [35]
  let t := Lib.trimRightS a [32, 9]
  if t = a ∧ t ≠ [] then s else t

def headL (l : List UInt8) : Nat × List UInt8 :=
  if runB 35 l < 1 ∨ 6 < runB 35 l ∨ partedL (l.drop (runB 35 l)) = false then (0, []) else (runB 35 l, headT (trimG (l.drop (runB 35 l))))

def fenceL : List UInt8 → UInt8 × Nat × List UInt8
  | [] => (0, 0, [])
  | b :: t => if b ≠ 96 ∧ b ≠ 126 then (0, 0, []) else
      if runB b (b :: t) < 3 ∨ (b = 96 ∧ 96 ∈ (b :: t).drop (runB b (b :: t))) then (0, 0, []) else (b, runB b (b :: t), unesc (trimG ((b :: t).drop (runB b (b :: t)))))

def numL (n : Nat) : List UInt8 → Nat
  | [] => n
  | b :: t => numL (n * 10 + (b.toNat - 48)) t

def markL (l : List UInt8) : UInt8 × Nat × Nat :=
  if 9 < rowN digitB l then (0, 0, 0) else
  match l.drop (rowN digitB l) with
  | [] => (0, 0, 0)
  | b :: t => if partedL t = false then (0, 0, 0) else
      if (if 0 < rowN digitB l then b == 46 || b == 41 else b == 45 || b == 43 || b == 42) = true then (b, rowN digitB l + 1, numL 0 (l.take (rowN digitB l))) else (0, 0, 0)

/-! ### Trimming -/

theorem dwn (p : UInt8 → Bool) : ∀ l : List UInt8, (l.dropWhile p).isEmpty = l.all p
  | [] => rfl
  | b :: t => by
    rw [List.dropWhile_cons]
    cases h : p b
    · simp [h]
    · simp [h, dwn p t]

theorem trim_nil (l cs : List UInt8) : (Lib.trimS l cs).isEmpty = l.all (cs.contains ·) := by
  unfold Lib.trimS Lib.trimLeftS
  rw [dwn]
  unfold Lib.trimRightS
  rw [List.all_reverse]
  have h1 : ∀ m : List UInt8, (m.dropWhile (cs.contains ·)).all (cs.contains ·) = m.all (cs.contains ·) := by
    intro m
    induction m with
    | nil => rfl
    | cons b t ih =>
      rw [List.dropWhile_cons]
      cases h : cs.contains b
      · simp
      · rw [if_pos rfl, ih, List.all_cons, h]; rfl
  rw [h1, List.all_reverse]

theorem gap_nil (l : List UInt8) : (trimG l).isEmpty = l.all gapB := by
  unfold trimG
  rw [trim_nil]
  congr 1
  funext b
  exact gapB_row b

theorem trimG_len (l : List UInt8) : (trimG l).length ≤ l.length := by
  unfold trimG Lib.trimS Lib.trimLeftS Lib.trimRightS
  refine Nat.le_trans (dropWhile_le _ _) ?_
  rw [List.length_reverse]
  refine Nat.le_trans (dropWhile_le _ _) ?_
  rw [List.length_reverse]
  exact Nat.le_refl _

end Go.Proofs.YtnjfkgkcapkfbaaGreatDoor
