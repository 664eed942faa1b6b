/- Plain mathematics: a text's lines. -/
set_option linter.unusedVariables false
namespace Go.Proofs.YtkjicdldlnefeaaDoor

def notEnd (c : UInt8) : Bool := !(c.toNat == 10 || c.toNat == 13)
/-- Where the line that holds place i stops. -/
def stopAt (l : List UInt8) (i : Nat) : Nat := i + ((l.drop i).takeWhile notEnd).length
/-- How many bytes the end of a line has that stands at place i. -/
def endAt (l : List UInt8) (i : Nat) : Nat :=
  if l.length ≤ i then 0 else if (l.getD i 0).toNat = 13 ∧ i + 1 < l.length ∧ (l.getD (i + 1) 0).toNat = 10 then 2 else 1
def nextAt (l : List UInt8) (i : Nat) : Nat := stopAt l i + endAt l (stopAt l i)
/-- The lines from place i on. -/
def linesF (l : List UInt8) : Nat → Nat → List (List UInt8)
  | 0, _ => []
  | f + 1, i => if i < l.length then (l.drop i).takeWhile notEnd :: linesF l f (nextAt l i) else []
def linesAt (l : List UInt8) (i : Nat) : List (List UInt8) := linesF l (l.length - i) i
def lines (l : List UInt8) : List (List UInt8) := linesAt l 0

theorem drop_cons {l : List UInt8} {i : Nat} (h : i < l.length) : l.drop i = l.getD i 0 :: l.drop (i + 1) := by
  rw [List.drop_eq_getElem_cons h]
  simp [List.getD_eq_getElem?_getD, List.getElem?_eq_getElem h]

theorem stop_more {l : List UInt8} {i : Nat} (h : i < l.length) (hn : notEnd (l.getD i 0) = true) : stopAt l i = stopAt l (i + 1) := by
  unfold stopAt
  rw [drop_cons h, List.takeWhile_cons, if_pos hn, List.length_cons]
  omega

theorem stop_here {l : List UInt8} {i : Nat} (h : i < l.length) (hn : notEnd (l.getD i 0) = false) : stopAt l i = i := by
  unfold stopAt
  rw [drop_cons h, List.takeWhile_cons, if_neg (by rw [hn]; decide)]
  rfl

theorem stop_past {l : List UInt8} {i : Nat} (h : l.length ≤ i) : stopAt l i = i := by
  unfold stopAt
  rw [List.drop_eq_nil_of_le h]
  rfl

theorem stop_le {l : List UInt8} {i : Nat} (h : i ≤ l.length) : i ≤ stopAt l i ∧ stopAt l i ≤ l.length := by
  unfold stopAt
  have := (List.takeWhile_prefix (p := notEnd) (l := l.drop i)).length_le
  rw [List.length_drop] at this
  omega

theorem end_le (l : List UInt8) (i : Nat) : endAt l i ≤ 2 ∧ (i ≤ l.length → i + endAt l i ≤ l.length) ∧ (i < l.length → 1 ≤ endAt l i) := by
  unfold endAt
  split
  · omega
  · split <;> omega

theorem next_gt {l : List UInt8} {i : Nat} (h : i < l.length) : i < nextAt l i ∧ nextAt l i ≤ l.length := by
  have h1 := stop_le (l := l) (i := i) (by omega)
  have h2 := end_le l (stopAt l i)
  unfold nextAt
  omega

theorem linesF_fuel (l : List UInt8) : ∀ (f g i : Nat), l.length - i ≤ f → l.length - i ≤ g → linesF l f i = linesF l g i
  | 0, g, i, hf, hg => by
    cases g with
    | zero => rfl
    | succ g => simp only [linesF]; rw [if_neg (by omega)]
  | f + 1, g, i, hf, hg => by
    by_cases h : i < l.length
    · cases g with
      | zero => omega
      | succ g =>
        have := next_gt h
        simp only [linesF, if_pos h]
        rw [linesF_fuel l f g (nextAt l i) (by omega) (by omega)]
    · cases g with
      | zero => simp only [linesF, if_neg h]
      | succ g => simp only [linesF, if_neg h]

theorem lines_end {l : List UInt8} {i : Nat} (h : l.length ≤ i) : linesAt l i = [] := by
  unfold linesAt
  rw [Nat.sub_eq_zero_of_le h]
  rfl

theorem lines_step {l : List UInt8} {i : Nat} (h : i < l.length) : linesAt l i = (l.drop i).takeWhile notEnd :: linesAt l (nextAt l i) := by
  have hn := next_gt h
  unfold linesAt
  obtain ⟨k, hk⟩ : ∃ k, l.length - i = k + 1 := ⟨l.length - i - 1, by omega⟩
  rw [hk]
  simp only [linesF, if_pos h]
  rw [linesF_fuel l k (l.length - nextAt l i) (nextAt l i) (by omega) (Nat.le_refl _)]

/-- A line's bytes are those from its beginning to its stop. -/
theorem take_stop (l : List UInt8) (i : Nat) : (l.drop i).takeWhile notEnd = (l.drop i).take (stopAt l i - i) := by
  have h := List.takeWhile_prefix (p := notEnd) (l := l.drop i)
  have e : stopAt l i - i = ((l.drop i).takeWhile notEnd).length := by unfold stopAt; omega
  rw [e]
  exact (List.prefix_iff_eq_take.1 h)

theorem notEnd_of {c : UInt8} (h : notEnd c = true) : c.toNat ≠ 10 ∧ c.toNat ≠ 13 := by
  simpa [notEnd] using h
theorem isEnd_of {c : UInt8} (h : notEnd c = false) : c.toNat = 10 ∨ c.toNat = 13 := by
  simp [notEnd] at h
  omega

theorem linesF_le (l : List UInt8) : ∀ f i, (linesF l f i).length ≤ f
  | 0, i => by simp [linesF]
  | f + 1, i => by
    have := linesF_le l f (nextAt l i)
    simp only [linesF]
    split
    · simp; exact this
    · simp

end Go.Proofs.YtkjicdldlnefeaaDoor
