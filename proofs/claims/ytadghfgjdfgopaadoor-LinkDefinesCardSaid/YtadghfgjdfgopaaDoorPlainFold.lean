/- Plain mathematics: a label that is folded again is the same; more blanks at its ends do not matter. -/
import Derived.Test.YtadghfgjdfgopaaDoorPlain
set_option linter.unusedVariables false
namespace Go.Proofs.YtadghfgjdfgopaaDoor

theorem small_fix (r y : Nat) (hr : spaceN r = false) (hok : Ok r) (hy : y ∈ smallR r) : spaceN y = false ∧ smallR y = [y] ∧ Ok y := by
  by_cases hs : r = 223 ∨ r = 7838
  · unfold smallR at hy
    rw [if_pos hs] at hy
    simp only [List.mem_cons, List.not_mem_nil, or_false, or_self] at hy
    subst hy
    exact ⟨by decide, by decide, by decide⟩
  · have e1 : smallR r = [lower r] := by unfold smallR; rw [if_neg hs]
    rw [e1] at hy
    simp only [List.mem_cons, List.not_mem_nil, or_false] at hy
    subst hy
    simp only [spaceN, decide_eq_false_iff_not] at hr
    have hl : (lower r = r + 32 ∧ ((65 ≤ r ∧ r ≤ 90) ∨ (192 ≤ r ∧ r ≤ 222 ∧ r ≠ 215) ∨ (913 ≤ r ∧ r ≤ 937) ∨ (1040 ≤ r ∧ r ≤ 1071))) ∨ (lower r = r + 80 ∧ 1024 ≤ r ∧ r ≤ 1039) ∨ (lower r = r ∧ ¬ ((65 ≤ r ∧ r ≤ 90) ∨ (192 ≤ r ∧ r ≤ 222 ∧ r ≠ 215) ∨ (913 ≤ r ∧ r ≤ 937) ∨ (1040 ≤ r ∧ r ≤ 1071)) ∧ ¬ (1024 ≤ r ∧ r ≤ 1039)) := by
      unfold lower
      by_cases c1 : (65 ≤ r ∧ r ≤ 90) ∨ (192 ≤ r ∧ r ≤ 222 ∧ r ≠ 215) ∨ (913 ≤ r ∧ r ≤ 937) ∨ (1040 ≤ r ∧ r ≤ 1071)
      · rw [if_pos c1]; exact .inl ⟨rfl, c1⟩
      · rw [if_neg c1]
        by_cases c2 : 1024 ≤ r ∧ r ≤ 1039
        · rw [if_pos c2]; exact .inr (.inl ⟨rfl, c2⟩)
        · rw [if_neg c2]; exact .inr (.inr ⟨rfl, c1, c2⟩)
    generalize lower r = z at *
    have hz : ¬ (z = 223 ∨ z = 7838) := by omega
    have hz1 : ¬ ((65 ≤ z ∧ z ≤ 90) ∨ (192 ≤ z ∧ z ≤ 222 ∧ z ≠ 215) ∨ (913 ≤ z ∧ z ≤ 937) ∨ (1040 ≤ z ∧ z ≤ 1071)) := by omega
    have hz2 : ¬ (1024 ≤ z ∧ z ≤ 1039) := by omega
    refine ⟨?_, ?_, ?_⟩
    · simp only [spaceN, decide_eq_false_iff_not]; omega
    · unfold smallR lower; rw [if_neg hz, if_neg hz1, if_neg hz2]
    · simp only [Ok] at *; omega

theorem foldS_sp (out : List Nat) (gap : Bool) (r : Nat) (rs : List Nat) (h : spaceN r = true) : foldS out gap (r :: rs) = foldS out true rs := by simp [foldS, h]
theorem foldS_ch (out : List Nat) (gap : Bool) (r : Nat) (rs : List Nat) (h : spaceN r = false) : foldS out gap (r :: rs) = foldS (out ++ gapR gap out ++ smallR r) false rs := by simp [foldS, h]
theorem gapR_false (out : List Nat) : gapR false out = [] := by simp [gapR]
theorem gapR_nil (gap : Bool) : gapR gap [] = [] := by simp [gapR]

/-- Characters that folding leaves as they are go in one by one. -/
theorem foldS_fix : ∀ (ys out rest : List Nat), (∀ y ∈ ys, spaceN y = false ∧ smallR y = [y]) → foldS out false (ys ++ rest) = foldS (out ++ ys) false rest
  | [], out, rest, _ => by simp
  | y :: ys, out, rest, h => by
    have hy := h y (by simp)
    rw [List.cons_append, foldS_ch _ _ _ _ hy.1, gapR_false, List.append_nil, hy.2, foldS_fix ys (out ++ [y]) rest (fun z hz => h z (by simp [hz]))]
    simp

def Gd (out : List Nat) : Prop := ∀ rest, foldS [] false (out ++ rest) = foldS out false rest

theorem gd_nil : Gd [] := fun rest => rfl

theorem gd_push (out : List Nat) (gap : Bool) (r : Nat) (hr : spaceN r = false) (hok : Ok r) (h : Gd out) : Gd (out ++ gapR gap out ++ smallR r) := by
  intro rest
  have hf : ∀ y ∈ smallR r, spaceN y = false ∧ smallR y = [y] := fun y hy => ⟨(small_fix r y hr hok hy).1, (small_fix r y hr hok hy).2.1⟩
  rw [List.append_assoc, List.append_assoc, h]
  by_cases hg : gap = true ∧ out.length ≠ 0
  · have e : gapR gap out = [32] := by unfold gapR; rw [if_pos hg]
    rw [e, List.cons_append, List.nil_append, foldS_sp _ _ _ _ (by decide)]
    obtain ⟨y, ys, hys⟩ : ∃ y ys, smallR r = y :: ys := by
      cases hs : smallR r with
      | nil => unfold smallR at hs; split at hs <;> cases hs
      | cons y ys => exact ⟨y, ys, rfl⟩
    rw [hys] at hf ⊢
    have hy := hf y (by simp)
    have e2 : gapR true out = [32] := by unfold gapR; rw [if_pos ⟨rfl, hg.2⟩]
    rw [List.cons_append, foldS_ch _ _ _ _ hy.1, e2, hy.2, foldS_fix ys _ rest (fun z hz => hf z (by simp [hz]))]
    simp
  · have e : gapR gap out = [] := by unfold gapR; rw [if_neg hg]
    rw [e, List.nil_append, foldS_fix _ _ rest hf, List.append_nil]

theorem gd_fold : ∀ (rs : List Nat) (out : List Nat) (gap : Bool), (∀ r ∈ rs, Ok r) → Gd out → Gd (foldS out gap rs)
  | [], out, gap, _, h => h
  | r :: rs, out, gap, hok, h => by
    cases hs : spaceN r with
    | true => rw [foldS_sp _ _ _ _ hs]; exact gd_fold rs out true (fun x hx => hok x (by simp [hx])) h
    | false => rw [foldS_ch _ _ _ _ hs]; exact gd_fold rs _ false (fun x hx => hok x (by simp [hx])) (gd_push out gap r hs (hok r (by simp)) h)

theorem ok_fold : ∀ (rs : List Nat) (out : List Nat) (gap : Bool), (∀ r ∈ rs, Ok r) → (∀ r ∈ out, Ok r) → ∀ r ∈ foldS out gap rs, Ok r
  | [], out, gap, _, h => h
  | r :: rs, out, gap, hok, h => by
    cases hs : spaceN r with
    | true => rw [foldS_sp _ _ _ _ hs]; exact ok_fold rs out true (fun x hx => hok x (by simp [hx])) h
    | false =>
      rw [foldS_ch _ _ _ _ hs]
      refine ok_fold rs _ false (fun x hx => hok x (by simp [hx])) ?_
      intro x hx
      rcases List.mem_append.1 hx with hx | hx
      · rcases List.mem_append.1 hx with hx | hx
        · exact h x hx
        · unfold gapR at hx
          split at hx
          · simp only [List.mem_cons, List.not_mem_nil, or_false] at hx
            subst hx; decide
          · cases hx
      · exact (small_fix r x hs (hok r (by simp)) hx).2.2

/-- Folded again it is the same. -/
theorem fold_fold (l : List UInt8) : fold (fold l) = fold l := by
  have h1 : runes (fold l) = foldS [] false (runes l) := by
    unfold fold
    exact runes_encAll _ (ok_fold _ _ _ (runes_ok l) (fun r hr => by cases hr))
  show encAll (foldS [] false (runes (fold l))) = _
  rw [h1]
  have h2 := gd_fold (runes l) [] false (runes_ok l) gd_nil []
  rw [List.append_nil] at h2
  rw [h2]
  rfl

/-- A byte of ASCII behind does not turn what stands ahead of it. -/
theorem dc_ascii (l t : List UInt8) (x : UInt8) (hl : l ≠ []) (hx : x.toNat < 128) : dc (l ++ x :: t) = dc l := by
  rw [dc_def, dc_def]
  match l, hl with
  | [a], _ =>
    simp only [List.cons_append, List.nil_append, List.getD_cons_zero, List.getD_cons_succ, List.length_cons, List.length_nil]
    have h1 : ¬ (x.toNat / 64 = 2) := by omega
    simp [h1]
  | [a, b], _ =>
    simp only [List.cons_append, List.nil_append, List.getD_cons_zero, List.getD_cons_succ, List.length_cons, List.length_nil]
    have h1 : ¬ (x.toNat / 64 = 2) := by omega
    simp [h1]
  | [a, b, c], _ =>
    simp only [List.cons_append, List.nil_append, List.getD_cons_zero, List.getD_cons_succ, List.length_cons, List.length_nil]
    have h1 : ¬ (x.toNat / 64 = 2) := by omega
    simp [h1]
  | a :: b :: c :: d :: m, _ =>
    simp only [List.cons_append, List.getD_cons_zero, List.getD_cons_succ, List.length_cons, List.length_append]
    have e1 : (1 < m.length + (t.length + 1) + 1 + 1 + 1 + 1) = (1 < m.length + 1 + 1 + 1 + 1) := by rw [eq_iff_iff]; omega
    have e2 : (2 < m.length + (t.length + 1) + 1 + 1 + 1 + 1) = (2 < m.length + 1 + 1 + 1 + 1) := by rw [eq_iff_iff]; omega
    have e3 : (3 < m.length + (t.length + 1) + 1 + 1 + 1 + 1) = (3 < m.length + 1 + 1 + 1 + 1) := by rw [eq_iff_iff]; omega
    simp only [e1, e2, e3]

theorem runesF_ascii (x : UInt8) (t : List UInt8) (hx : x.toNat < 128) : ∀ (f : Nat) (l : List UInt8), l.length ≤ f → runes (l ++ x :: t) = runes l ++ runes (x :: t)
  | 0, l, h => by
    have : l = [] := List.eq_nil_of_length_eq_zero (by omega)
    subst this
    rfl
  | f + 1, l, h => by
    by_cases hl : l = []
    · subst hl; rfl
    · have hok := (dc_ok l hl).2
      rw [runes_cons _ (by simp), dc_ascii l t x hl hx, runes_cons l hl, List.cons_append, List.drop_append_of_le_length hok.2]
      rw [runesF_ascii x t hx f (l.drop (dc l).2) (by rw [List.length_drop]; omega)]

theorem runes_one (x : UInt8) (t : List UInt8) (hx : x.toNat < 128) : runes (x :: t) = x.toNat :: runes t := by
  rw [runes_cons _ (by simp)]
  have e : dc (x :: t) = (x.toNat, 1) := by rw [dc_def]; simp [hx]
  rw [e]
  rfl

theorem foldS_gap (rs : List Nat) : foldS [] true rs = foldS [] false rs := by
  cases rs with
  | nil => rfl
  | cons r rs =>
    cases hs : spaceN r with
    | true => rw [foldS_sp _ _ _ _ hs, foldS_sp _ _ _ _ hs]
    | false => rw [foldS_ch _ _ _ _ hs, foldS_ch _ _ _ _ hs, gapR_nil, gapR_nil]

theorem foldS_tail : ∀ (rs out : List Nat) (gap : Bool), foldS out gap (rs ++ [10, 32]) = foldS out gap rs
  | [], out, gap => by rw [List.nil_append, foldS_sp _ _ _ _ (by decide), foldS_sp _ _ _ _ (by decide)]; rfl
  | r :: rs, out, gap => by
    rw [List.cons_append]
    cases hs : spaceN r with
    | true => rw [foldS_sp _ _ _ _ hs, foldS_sp _ _ _ _ hs, foldS_tail rs]
    | false => rw [foldS_ch _ _ _ _ hs, foldS_ch _ _ _ _ hs, foldS_tail rs]

/-- With more blanks at its ends it is the same. -/
theorem fold_blanks (l : List UInt8) : fold ([32, 9] ++ l ++ [10, 32]) = fold l := by
  have e : runes ([32, 9] ++ l ++ [10, 32]) = 32 :: 9 :: (runes l ++ [10, 32]) := by
    rw [List.append_assoc]
    show runes (32 :: 9 :: (l ++ 10 :: [32])) = _
    rw [runes_one _ _ (by decide), runes_one _ _ (by decide), runesF_ascii 10 [32] (by decide) l.length l (Nat.le_refl _), runes_one _ _ (by decide), runes_one _ _ (by decide), runes_nil]
    rfl
  unfold fold
  rw [e, foldS_sp _ _ _ _ (by decide), foldS_sp _ _ _ _ (by decide), foldS_gap, foldS_tail]

theorem foldS_len : ∀ (rs out : List Nat) (gap : Bool), (encAll (foldS out gap rs)).length ≤ (encAll out).length + 5 * rs.length
  | [], out, gap => by simp [foldS]
  | r :: rs, out, gap => by
    cases hs : spaceN r with
    | true => rw [foldS_sp _ _ _ _ hs]; have := foldS_len rs out true; rw [List.length_cons]; omega
    | false =>
      rw [foldS_ch _ _ _ _ hs]
      have h1 := foldS_len rs (out ++ gapR gap out ++ smallR r) false
      have h2 := smallR_len r
      have h3 : (encAll (gapR gap out)).length ≤ 1 := by unfold gapR; split <;> decide
      rw [encAll_append, encAll_append, List.length_append, List.length_append] at h1
      rw [List.length_cons]; omega

theorem fold_len (l : List UInt8) : (fold l).length ≤ 5 * l.length := by
  have h1 := foldS_len (runes l) [] false
  have h2 := runes_le l
  have h3 : (encAll []).length = 0 := rfl
  unfold fold; omega

end Go.Proofs.YtadghfgjdfgopaaDoor
