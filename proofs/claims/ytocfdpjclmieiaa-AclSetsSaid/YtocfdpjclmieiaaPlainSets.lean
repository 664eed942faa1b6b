/- Plain mathematics: Set, one grant behind the other. -/
import Derived.Test.YtocfdpjclmieiaaPlainAcl2
set_option linter.unusedVariables false
namespace Go.Proofs.Ytocfdpjclmieiaa

def hasN (l : List GrA) (g : GrA) : Nat := if hasL l g = true then 1 else 0
/-- What is put together of the first k. -/
def outK (l : List GrA) (g : GrA) (k : Nat) : List GrA := if k ≤ posL l g then l.take k else l.take (posL l g) ++ gainA g ++ (l.drop (posL l g + hasN l g)).take (k - posL l g - hasN l g)
def doneK (l : List GrA) (g : GrA) (k : Nat) : Bool := decide (g.right = 0) || decide (posL l g < k)
def hadK (l : List GrA) (g : GrA) (k : Nat) : Bool := hasL l g && decide (posL l g < k)

theorem outK_zero (l : List GrA) (g : GrA) : outK l g 0 = [] := by unfold outK; rw [if_pos (Nat.zero_le _)]; rfl
theorem doneK_zero (l : List GrA) (g : GrA) : doneK l g 0 = decide (g.right = 0) := by unfold doneK; simp
theorem hadK_zero (l : List GrA) (g : GrA) : hadK l g 0 = false := by unfold hadK; simp

theorem step_eq {l : List GrA} (hs : Asc l) {g x : GrA} {k : Nat} (hx : l[k]? = some x) (h : ordL x g = 0) : outK l g (k + 1) = outK l g k ++ gainA g ∧ doneK l g (k + 1) = true ∧ hadK l g (k + 1) = true ∧ doneK l g k = decide (g.right = 0) := by
  obtain ⟨hp, _, hh⟩ := granted_is hs hx h
  unfold outK doneK hadK hasN
  rw [hp, hh, if_neg (by omega), if_pos (Nat.le_refl _)]
  refine ⟨?_, by simp, by simp, by simp⟩
  simp
theorem step_less {l : List GrA} (hs : Asc l) {g x : GrA} {k : Nat} (hx : l[k]? = some x) (h : ordL x g < 0) : outK l g (k + 1) = outK l g k ++ [x] ∧ doneK l g (k + 1) = doneK l g k ∧ hadK l g (k + 1) = hadK l g k := by
  have hp : k < posL l g := by
    rcases Nat.lt_or_ge k (posL l g) with q | q
    · exact q
    · exact absurd h (pos_ge hs q hx)
  have e1 : decide (posL l g < k + 1) = false := decide_eq_false (by omega)
  have e2 : decide (posL l g < k) = false := decide_eq_false (by omega)
  unfold outK doneK hadK
  rw [if_pos (show k + 1 ≤ posL l g by omega), if_pos (show k ≤ posL l g by omega), List.take_add_one, hx, e1, e2]
  exact ⟨rfl, rfl, rfl⟩
theorem more_pos {l : List GrA} {g x : GrA} {k : Nat} (hx : l[k]? = some x) (h : 0 < ordL x g) : posL l g ≤ k := by
  rcases Nat.lt_or_ge k (posL l g) with q | q
  · have := pos_lt q hx
    omega
  · exact q
theorem more_has {l : List GrA} {g x : GrA} (hx : l[posL l g]? = some x) (h : 0 < ordL x g) : hasL l g = false := by
  unfold hasL
  rw [hx]
  simp only [beq_eq_false_iff_ne]
  omega
theorem step_more {l : List GrA} (hs : Asc l) {g x : GrA} {k : Nat} (hx : l[k]? = some x) (h : 0 < ordL x g) : hadK l g (k + 1) = hadK l g k ∧ doneK l g (k + 1) = true ∧ (doneK l g k = false → outK l g (k + 1) = outK l g k ++ [g] ++ [x]) ∧ (doneK l g k = true → outK l g (k + 1) = outK l g k ++ [x]) := by
  have hp := more_pos hx h
  have hd : doneK l g (k + 1) = true := by unfold doneK; rw [decide_eq_true (show posL l g < k + 1 by omega)]; simp
  rcases Nat.lt_or_ge (posL l g) k with q | q
  · have hk : doneK l g k = true := by unfold doneK; rw [decide_eq_true q]; simp
    refine ⟨?_, hd, fun e => (by rw [hk] at e; cases e), fun _ => ?_⟩
    · unfold hadK
      rw [decide_eq_true q, decide_eq_true (show posL l g < k + 1 by omega)]
    · unfold outK
      have hN : hasN l g ≤ 1 := by unfold hasN; split <;> omega
      rw [if_neg (by omega), if_neg (by omega), show k + 1 - posL l g - hasN l g = (k - posL l g - hasN l g) + 1 by omega, List.take_add_one, List.getElem?_drop, show posL l g + hasN l g + (k - posL l g - hasN l g) = k by omega, hx]
      simp
  · have hpk : posL l g = k := by omega
    subst hpk
    have hh := more_has hx h
    refine ⟨by unfold hadK; rw [hh]; rfl, hd, fun e => ?_, fun e => ?_⟩
    · have hr : g.right ≠ 0 := by
        unfold doneK at e
        rw [decide_eq_false (Nat.lt_irrefl _)] at e
        simpa using e
      unfold outK gainA hasN
      rw [hh, if_neg (by omega), if_pos (Nat.le_refl _), if_pos hr]
      simp [List.take_add_one, hx]
    · have hr : g.right = 0 := by
        unfold doneK at e
        rw [decide_eq_false (Nat.lt_irrefl _)] at e
        simpa using e
      unfold outK gainA hasN
      rw [hh, if_neg (by omega), if_pos (Nat.le_refl _), if_neg (by omega)]
      simp [List.take_add_one, hx]
theorem has_lt {l : List GrA} {g : GrA} (h : hasL l g = true) : posL l g < l.length := by
  obtain ⟨x, hx, _⟩ := has_at h
  exact (List.getElem?_eq_some_iff.1 hx).1
theorem had_end (l : List GrA) (g : GrA) : hadK l g l.length = hasL l g := by
  unfold hadK
  cases h : hasL l g with
  | false => rfl
  | true => rw [decide_eq_true (has_lt h)]; rfl
theorem end_not {l : List GrA} {g : GrA} (h : doneK l g l.length = false) : setL l g = outK l g l.length ++ [g] := by
  unfold doneK at h
  simp only [Bool.or_eq_false_iff, decide_eq_false_iff_not] at h
  have hp : posL l g = l.length := by have := pos_le l g; omega
  have hh : hasL l g = false := by
    cases q : hasL l g with
    | false => rfl
    | true => have := has_lt q; omega
  unfold setL outK gainA
  rw [hp, hh, if_pos h.1, if_pos (Nat.le_refl _)]
  simp
theorem end_done {l : List GrA} {g : GrA} (h : doneK l g l.length = true) : setL l g = outK l g l.length := by
  have hN : hasN l g ≤ 1 := by unfold hasN; split <;> omega
  rcases Nat.lt_or_ge (posL l g) l.length with q | q
  · have e : setL l g = l.take (posL l g) ++ gainA g ++ l.drop (posL l g + hasN l g) := rfl
    rw [e]
    unfold outK
    rw [if_neg (show ¬ l.length ≤ posL l g by omega), List.take_of_length_le (l := List.drop _ _) (by rw [List.length_drop]; omega)]
  · have hp : posL l g = l.length := by have := pos_le l g; omega
    have hr : g.right = 0 := by
      unfold doneK at h
      rw [decide_eq_false (show ¬ posL l g < l.length by omega)] at h
      simpa using h
    have hh : hasL l g = false := by
      cases q : hasL l g with
      | false => rfl
      | true => have := has_lt q; omega
    unfold setL outK gainA
    rw [hp, hh, if_neg (by omega), if_pos (Nat.le_refl _)]
    simp
theorem outK_len (l : List GrA) (g : GrA) (k : Nat) : (outK l g k).length ≤ k + 1 := by
  have hG : (gainA g).length ≤ 1 := by unfold gainA; split <;> simp
  have hp := pos_le l g
  unfold outK
  split
  · rw [List.length_take]; omega
  · simp only [List.length_append, List.length_take, List.length_drop]
    omega
theorem many_is {l : List GrA} {g : GrA} (h1 : rightA l = true) (h2 : fitsA g 0 = true) : errA l g = if hasL l g = false ∧ 64 < (setL l g).length then 11 else 0 := by
  have h64 := (right_asc h1).1
  have hl := set_len (l := l) g
  unfold errA
  rw [if_neg (by rw [h1, h2]; simp)]
  by_cases hh : hasL l g = true
  · rw [hh]; simp
  · have hh' : hasL l g = false := by simpa using hh
    rw [hh'] at hl ⊢
    simp only [Bool.false_eq_true, if_false, Nat.add_zero, true_and] at hl ⊢
    by_cases hr : g.right = 0
    · rw [if_neg (by omega)] at hl
      rw [if_neg (by omega), if_neg (by omega)]
    · rw [if_pos hr] at hl
      by_cases h : l.length = 64
      · rw [if_pos ⟨hr, h⟩, if_pos (by omega)]
      · rw [if_neg (fun q => h q.2), if_neg (by omega)]
end Go.Proofs.Ytocfdpjclmieiaa
