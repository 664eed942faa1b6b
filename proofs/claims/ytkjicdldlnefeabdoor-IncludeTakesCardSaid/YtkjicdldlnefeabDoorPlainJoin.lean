/- Plain mathematics: lines that are put together are these lines. -/
import Derived.Test.YtkjicdldlnefeabDoorPlainLines
set_option linter.unusedVariables false
namespace Go.Proofs.YtkjicdldlnefeabDoor

theorem stop_shift (l : List UInt8) (i j : Nat) : stopAt l (i + j) = i + stopAt (l.drop i) j := by
  unfold stopAt
  rw [List.drop_drop]
  omega

theorem end_shift (l : List UInt8) (i j : Nat) (h : i ≤ l.length) : endAt l (i + j) = endAt (l.drop i) j := by
  unfold endAt
  have e1 : (l.drop i).getD j 0 = l.getD (i + j) 0 := by simp [List.getD_eq_getElem?_getD, List.getElem?_drop]
  have e2 : (l.drop i).getD (j + 1) 0 = l.getD (i + j + 1) 0 := by simp [List.getD_eq_getElem?_getD, List.getElem?_drop, Nat.add_assoc]
  rw [e1, e2, List.length_drop]
  (repeat' split) <;> omega

theorem next_shift (l : List UInt8) (i j : Nat) (h : i ≤ l.length) : nextAt l (i + j) = i + nextAt (l.drop i) j := by
  unfold nextAt
  rw [stop_shift, end_shift l i _ h]
  omega

theorem lines_shift (l : List UInt8) (i : Nat) (h : i ≤ l.length) : ∀ (f j : Nat), (l.drop i).length - j ≤ f → linesAt l (i + j) = linesAt (l.drop i) j
  | 0, j, hf => by
    rw [List.length_drop] at hf
    rw [lines_end (by omega), lines_end (by rw [List.length_drop]; omega)]
  | f + 1, j, hf => by
    by_cases c : i + j < l.length
    · have c2 : j < (l.drop i).length := by rw [List.length_drop]; omega
      rw [lines_step c, lines_step c2, List.drop_drop, next_shift l i j h]
      rw [lines_shift l i h f (nextAt (l.drop i) j) (by have := next_gt c2; omega)]
    · rw [lines_end (by omega), lines_end (by rw [List.length_drop]; omega)]

theorem lines_at (l : List UInt8) (i : Nat) (h : i ≤ l.length) : linesAt l i = lines (l.drop i) :=
  lines_shift l i h _ 0 (Nat.le_refl _)

theorem take_all : ∀ (t r : List UInt8), (∀ c ∈ t, notEnd c = true) → (∀ c, r.head? = some c → notEnd c = false) → (t ++ r).takeWhile notEnd = t
  | [], r, _, hr => by
    cases r with
    | nil => rfl
    | cons c r => rw [List.nil_append, List.takeWhile_cons, if_neg (by rw [hr c rfl]; decide)]
  | c :: t, r, ht, hr => by
    rw [List.cons_append, List.takeWhile_cons, if_pos (ht c (by simp)), take_all t r (fun d hd => ht d (by simp [hd])) hr]

/-- A text without line ends, an end, and what stands behind it. -/
theorem lines_part (t e rest : List UInt8) (ht : ∀ c ∈ t, notEnd c = true) (he : e = [10] ∨ e = [13, 10] ∨ (e = [13] ∧ rest.head? ≠ some 10)) : lines (t ++ e ++ rest) = t :: lines rest := by
  have hhead : ∀ c, (e ++ rest).head? = some c → notEnd c = false := by
    intro c hc
    rcases he with rfl | rfl | ⟨rfl, _⟩
    · simp at hc; subst hc; decide
    · simp at hc; subst hc; decide
    · simp at hc; subst hc; decide
  have htw : (t ++ (e ++ rest)).takeWhile notEnd = t := take_all t (e ++ rest) ht hhead
  have hel : 1 ≤ e.length := by rcases he with rfl | rfl | ⟨rfl, _⟩ <;> simp
  rw [List.append_assoc]
  have hlen : 0 < (t ++ (e ++ rest)).length := by rw [List.length_append, List.length_append]; omega
  have hst : stopAt (t ++ (e ++ rest)) 0 = t.length := by unfold stopAt; rw [List.drop_zero, htw]; omega
  have h0 : (t ++ (e ++ rest)).getD t.length 0 = (e ++ rest).getD 0 0 := by rw [List.getD_eq_getElem?_getD, List.getElem?_append_right (Nat.le_refl _), Nat.sub_self, ← List.getD_eq_getElem?_getD]
  have h1 : (t ++ (e ++ rest)).getD (t.length + 1) 0 = (e ++ rest).getD 1 0 := by rw [List.getD_eq_getElem?_getD, List.getElem?_append_right (by omega), Nat.add_sub_cancel_left, ← List.getD_eq_getElem?_getD]
  have hend : endAt (t ++ (e ++ rest)) t.length = e.length := by
    unfold endAt
    rw [if_neg (by rw [List.length_append, List.length_append]; omega), h0, h1]
    rcases he with rfl | rfl | ⟨rfl, hr⟩
    · rw [if_neg (by intro hh; exact absurd hh.1 (by show ¬ (10 : UInt8).toNat = 13; decide))]; rfl
    · rw [if_pos ⟨rfl, by simp, rfl⟩]; rfl
    · rw [if_neg ?_]
      · rfl
      · intro hh
        cases rest with
        | nil => simp at hh
        | cons c r =>
          have h10 : c.toNat = 10 := hh.2.2
          apply hr
          have : c = 10 := by
            apply UInt8.toNat_inj.1
            exact h10
          rw [this]; rfl
  have hnx : nextAt (t ++ (e ++ rest)) 0 = t.length + e.length := by unfold nextAt; rw [hst, hend]
  show linesAt (t ++ (e ++ rest)) 0 = _
  rw [lines_step hlen, hnx, List.drop_zero, htw, lines_at _ _ (by rw [List.length_append, List.length_append]; omega), ← List.append_assoc, show t.length + e.length = (t ++ e).length by rw [List.length_append], List.drop_left]

/-- A text's bytes without line ends, up to place k. -/
def bare (l : List UInt8) (k : Nat) : List UInt8 := (l.take k).filter notEnd

theorem bare_ok (l : List UInt8) (k : Nat) : ∀ c ∈ bare l k, notEnd c = true := by
  intro c hc
  exact (List.mem_filter.1 hc).2

theorem bare_le (l : List UInt8) (k : Nat) : (bare l k).length ≤ k := by
  unfold bare
  exact Nat.le_trans (List.length_filter_le _ _) (List.length_take_le _ _)

theorem bare_more {l : List UInt8} {k : Nat} (h : k < l.length) (hn : notEnd (l.getD k 0) = true) : bare l (k + 1) = bare l k ++ [l.getD k 0] := by
  unfold bare
  have e : l.getD k 0 = l[k] := by simp [List.getD_eq_getElem?_getD, h]
  rw [e] at hn ⊢
  rw [List.take_succ_eq_append_getElem h, List.filter_append]
  simp [hn]

theorem bare_skip {l : List UInt8} {k : Nat} (h : k < l.length) (hn : notEnd (l.getD k 0) = false) : bare l (k + 1) = bare l k := by
  unfold bare
  have e : l.getD k 0 = l[k] := by simp [List.getD_eq_getElem?_getD, h]
  rw [e] at hn
  rw [List.take_succ_eq_append_getElem h, List.filter_append]
  simp [hn]

theorem bare_all {l : List UInt8} {k : Nat} (h : k = 200 ∨ (l.length ≤ k ∧ k ≤ 200)) : bare l k = bare l 200 := by
  rcases h with rfl | ⟨h1, h2⟩
  · rfl
  · unfold bare
    rw [List.take_of_length_le h1, List.take_of_length_le (by omega)]

theorem bare_ne {l : List UInt8} (h : 0 < l.length) (hn : notEnd (l.getD 0 0) = true) : bare l 200 ≠ [] := by
  intro e
  cases l with
  | nil => simp at h
  | cons c t =>
    have hc : notEnd c = true := hn
    unfold bare at e
    rw [List.take_succ_cons, List.filter_cons, if_pos hc] at e
    cases e

/-- What has been put together so far: whatever follows (with no line feed first, behind a bare carriage return). -/
def Put (A : List UInt8) (acc : List (List UInt8)) (b : Bool) : Prop := ∀ rest : List UInt8, (b = true → rest.head? ≠ some 10) → lines (A ++ rest) = acc ++ lines rest

theorem put_nil : Put [] [] false := fun rest _ => rfl

theorem put_step (A : List UInt8) (acc : List (List UInt8)) (b b' : Bool) (t e : List UInt8) (h : Put A acc b) (ht : ∀ c ∈ t, notEnd c = true) (hb : b = true → t ≠ [])
    (he : (e = [10] ∧ b' = false) ∨ (e = [13, 10] ∧ b' = false) ∨ (e = [13] ∧ b' = true)) : Put (A ++ t ++ e) (acc ++ [t]) b' := by
  intro rest hr
  have h1 : lines (A ++ (t ++ e ++ rest)) = acc ++ lines (t ++ e ++ rest) := by
    apply h
    intro hb1 hh
    cases t with
    | nil => exact hb hb1 rfl
    | cons c t =>
      simp at hh
      subst hh
      have := ht 10 (by simp)
      revert this; decide
  have h2 : lines (t ++ e ++ rest) = t :: lines rest := by
    apply lines_part t e rest ht
    rcases he with ⟨rfl, _⟩ | ⟨rfl, _⟩ | ⟨rfl, hb2⟩
    · exact .inl rfl
    · exact .inr (.inl rfl)
    · exact .inr (.inr ⟨rfl, hr hb2⟩)
  rw [List.append_assoc, List.append_assoc]
  rw [List.append_assoc] at h1 h2
  rw [h1, h2]
  simp

theorem put_done {A : List UInt8} {acc : List (List UInt8)} {b : Bool} (h : Put A acc b) : lines A = acc := by
  have := h [] (fun _ => by simp)
  rw [List.append_nil] at this
  rw [this]
  show acc ++ [] = acc
  rw [List.append_nil]

end Go.Proofs.YtkjicdldlnefeabDoor
