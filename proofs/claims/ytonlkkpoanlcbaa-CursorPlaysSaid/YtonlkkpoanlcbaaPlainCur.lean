/- A place in a line, over plain lists of bytes: what is left, how many columns are left of a tab within which it stands, the column; one column of blanks and tabs, many, bytes. -/
set_option linter.unusedVariables false
namespace Go.Proofs.Ytonlkkpoanlcbaa

/-- Blanks and tabs. -/
def isB (b : UInt8) : Bool := b == 32 || b == 9

/-- How many columns a byte takes from a column on. -/
def wid (b : UInt8) (c : Nat) : Nat := if b = 9 then 4 - c % 4 else 1

/-- A place: what is left, the columns left of a tab, the column. -/
abbrev Pl := List UInt8 × Nat × Nat

/-- One column of blanks and tabs. -/
def stepR : Pl → Option Pl
  | (l, part + 1, c) => some (l, part, c + 1)
  | ([], 0, _) => none
  | (b :: t, 0, c) => if isB b then some (t, wid b c - 1, c + 1) else none

/-- Up to n columns of blanks and tabs. -/
def skipR : Nat → Pl → Pl
  | 0, σ => σ
  | n + 1, σ => match stepR σ with
    | none => σ
    | some τ => skipR n τ

/-- What follows blanks and tabs. -/
def beh : List UInt8 → List UInt8
  | [] => []
  | b :: t => if isB b then beh t else b :: t

/-- The column behind blanks and tabs. -/
def endC : List UInt8 → Nat → Nat
  | [], c => c
  | b :: t, c => if isB b then endC t (c + wid b c) else c

/-- So many bytes, or all. -/
def passR : Nat → List UInt8 → Nat → Pl
  | 0, l, c => (l, 0, c)
  | _ + 1, [], c => ([], 0, c)
  | n + 1, b :: t, c => passR n t (c + wid b c)

/-- Blanks and tabs, and then so many bytes. -/
def moveR (n : Nat) (σ : Pl) : Pl := passR n (beh σ.1) (endC σ.1 (σ.2.2 + σ.2.1))

/-- The columns of blanks and tabs that follow. -/
def indR (σ : Pl) : Nat := endC σ.1 (σ.2.2 + σ.2.1) - σ.2.2

/-- What follows. -/
def restR (σ : Pl) : List UInt8 := List.replicate σ.2.1 32 ++ σ.1

/-- A measure that bounds every number of a place. -/
def wt (σ : Pl) : Nat := σ.2.2 + σ.2.1 + 4 * σ.1.length

theorem wid_pos (b : UInt8) (c : Nat) : 1 ≤ wid b c ∧ wid b c ≤ 4 := by
  unfold wid; split <;> omega

theorem wid_tab (c : Nat) : wid 9 c = 4 - c % 4 := by simp [wid]
theorem wid_other {b : UInt8} (h : b ≠ 9) (c : Nat) : wid b c = 1 := by simp [wid, h]

theorem isB_iff (b : UInt8) : isB b = true ↔ b = 32 ∨ b = 9 := by simp [isB]

theorem wt_step {σ τ : Pl} (h : stepR σ = some τ) : wt τ ≤ wt σ := by
  match σ, h with
  | (l, part + 1, c), h =>
    simp only [stepR, Option.some.injEq] at h
    subst h
    simp only [wt]; omega
  | (b :: t, 0, c), h =>
    simp only [stepR] at h
    split at h
    · simp only [Option.some.injEq] at h
      subst h
      have := wid_pos b c
      simp only [wt, List.length_cons]; omega
    · simp at h

theorem wt_skip : ∀ (n : Nat) (σ : Pl), wt (skipR n σ) ≤ wt σ
  | 0, σ => Nat.le_refl _
  | n + 1, σ => by
    simp only [skipR]
    split
    · exact Nat.le_refl _
    · rename_i τ h
      exact Nat.le_trans (wt_skip n τ) (wt_step h)

theorem step_col {σ τ : Pl} (h : stepR σ = some τ) : τ.2.2 = σ.2.2 + 1 := by
  match σ, h with
  | (l, part + 1, c), h =>
    simp only [stepR, Option.some.injEq] at h
    subst h; rfl
  | (b :: t, 0, c), h =>
    simp only [stepR] at h
    split at h
    · simp only [Option.some.injEq] at h
      subst h; rfl
    · simp at h

theorem col_skip : ∀ (n : Nat) (σ : Pl), σ.2.2 ≤ (skipR n σ).2.2 ∧ (skipR n σ).2.2 ≤ σ.2.2 + n
  | 0, σ => ⟨Nat.le_refl _, Nat.le_refl _⟩
  | n + 1, σ => by
    simp only [skipR]
    split
    · exact ⟨Nat.le_refl _, by omega⟩
    · rename_i τ h
      have h1 := step_col h
      have h2 := col_skip n τ
      omega

theorem skip_none {σ : Pl} (h : stepR σ = none) : ∀ n, skipR n σ = σ
  | 0 => rfl
  | n + 1 => by simp only [skipR, h]

theorem skip_some {σ τ : Pl} (h : stepR σ = some τ) (n : Nat) : skipR (n + 1) σ = skipR n τ := by simp only [skipR, h]

/-- Columns passed in pieces are columns passed at once. -/
theorem skip_add : ∀ (a b : Nat) (σ : Pl), skipR (a + b) σ = skipR b (skipR a σ)
  | 0, b, σ => by rw [Nat.zero_add]; rfl
  | a + 1, b, σ => by
    rw [Nat.succ_add]
    cases h : stepR σ with
    | none => rw [skip_none h, skip_none h, skip_none h]
    | some τ => rw [skip_some h, skip_some h, skip_add a b τ]

/-- Within a tab. -/
theorem skip_part (l : List UInt8) : ∀ (k part c : Nat), k ≤ part → skipR k (l, part, c) = (l, part - k, c + k)
  | 0, part, c, _ => rfl
  | k + 1, part + 1, c, h => by
    rw [skip_some (τ := (l, part, c + 1)) rfl, skip_part l k part (c + 1) (by omega)]
    simp only [Nat.add_sub_add_right, Prod.mk.injEq, true_and]
    omega

/-- A blank or tab as a whole. -/
theorem skip_byte {b : UInt8} (h : isB b = true) (t : List UInt8) (c : Nat) : skipR (wid b c) (b :: t, 0, c) = (t, 0, c + wid b c) := by
  have hw := wid_pos b c
  obtain ⟨k, hk⟩ : ∃ k, wid b c = k + 1 := ⟨wid b c - 1, by omega⟩
  have hs : stepR (b :: t, 0, c) = some (t, k, c + 1) := by simp only [stepR, h, if_true, hk, Nat.add_sub_cancel]
  rw [hk, skip_some hs, skip_part t k k (c + 1) (Nat.le_refl _), Nat.sub_self]
  simp only [Prod.mk.injEq, true_and]; omega

/-- Fewer columns than the tab has. -/
theorem skip_less {b : UInt8} (h : isB b = true) (t : List UInt8) (c n : Nat) (h0 : 0 < n) (hn : n ≤ wid b c) : skipR n (b :: t, 0, c) = (t, wid b c - n, c + n) := by
  obtain ⟨k, rfl⟩ : ∃ k, n = k + 1 := ⟨n - 1, by omega⟩
  have hs : stepR (b :: t, 0, c) = some (t, wid b c - 1, c + 1) := by simp only [stepR, h, if_true]
  rw [skip_some hs, skip_part t k _ (c + 1) (by omega)]
  simp only [Prod.mk.injEq, true_and]; omega

theorem endC_le : ∀ (l : List UInt8) (c : Nat), c ≤ endC l c ∧ endC l c + 4 * (beh l).length ≤ c + 4 * l.length
  | [], c => by simp [endC, beh]
  | b :: t, c => by
    simp only [endC, beh]
    split
    · have := endC_le t (c + wid b c)
      have := wid_pos b c
      simp only [List.length_cons]; omega
    · simp only [List.length_cons]; omega

/-- All blanks and tabs, by a number that is great enough. -/
theorem skip_all : ∀ (l : List UInt8) (c n : Nat), endC l c ≤ c + n → skipR n (l, 0, c) = (beh l, 0, endC l c)
  | [], c, n, _ => by rw [skip_none rfl]; rfl
  | b :: t, c, n, h => by
    simp only [endC, beh] at h ⊢
    split at h
    · rename_i hb
      simp only [hb, if_true]
      have := (endC_le t (c + wid b c)).1
      have e : n = wid b c + (n - wid b c) := by omega
      rw [e, skip_add, skip_byte hb, skip_all t (c + wid b c) (n - wid b c) (by omega)]
    · rename_i hb
      simp only [hb]
      rw [skip_none (by simp [stepR, hb])]
      rfl

/-- All blanks and tabs from any place. -/
theorem skip_every (σ : Pl) (n : Nat) (h : indR σ ≤ n) : skipR n σ = (beh σ.1, 0, endC σ.1 (σ.2.2 + σ.2.1)) := by
  obtain ⟨l, part, c⟩ := σ
  simp only [indR] at h ⊢
  have := (endC_le l (c + part)).1
  have e : n = part + (n - part) := by omega
  rw [e, skip_add, skip_part l part part c (Nat.le_refl _), Nat.sub_self, skip_all l (c + part) (n - part) (by omega)]

theorem ind_le (σ : Pl) : indR σ + σ.2.2 = endC σ.1 (σ.2.2 + σ.2.1) ∧ indR σ ≤ σ.2.1 + 4 * σ.1.length := by
  obtain ⟨l, part, c⟩ := σ
  simp only [indR]
  have := endC_le l (c + part)
  omega

/-- How many columns are passed. -/
theorem col_ind : ∀ (n : Nat) (σ : Pl), (skipR n σ).2.2 = σ.2.2 + min n (indR σ) ∧ indR (skipR n σ) = indR σ - min n (indR σ)
  | 0, σ => by simp [skipR]
  | n + 1, σ => by
    cases h : stepR σ with
    | none =>
      have h0 : indR σ = 0 := by
        match σ, h with
        | ([], 0, c), _ => simp [indR, endC]
        | (b :: t, 0, c), h =>
          simp only [stepR] at h
          split at h
          · simp at h
          · rename_i hb
            simp [indR, endC, hb]
      rw [skip_none h, h0]; simp
    | some τ =>
      have h1 := step_col h
      have h2 := col_ind n τ
      have h3 : indR σ = indR τ + 1 := by
        match σ, h with
        | (l, part + 1, c), h =>
          simp only [stepR, Option.some.injEq] at h
          subst h
          simp only [indR]
          have e : c + 1 + part = c + (part + 1) := by omega
          have := (endC_le l (c + (part + 1))).1
          rw [e]; omega
        | (b :: t, 0, c), h =>
          simp only [stepR] at h
          split at h
          · rename_i hb
            simp only [Option.some.injEq] at h
            subst h
            have := wid_pos b c
            have e : c + 1 + (wid b c - 1) = c + wid b c := by omega
            have := (endC_le t (c + wid b c)).1
            simp only [indR, endC, hb, if_true, e, Nat.add_zero]
            omega
          · simp at h
      rw [skip_some h]
      omega

theorem wt_pass : ∀ (n : Nat) (l : List UInt8) (c : Nat), wt (passR n l c) ≤ c + 4 * l.length
  | 0, l, c => by simp [passR, wt]
  | _ + 1, [], c => by simp [passR, wt]
  | n + 1, b :: t, c => by
    have := wt_pass n t (c + wid b c)
    have := wid_pos b c
    simp only [passR, List.length_cons]; omega

theorem wt_move (n : Nat) (σ : Pl) : wt (moveR n σ) ≤ wt σ := by
  have h1 := wt_pass n (beh σ.1) (endC σ.1 (σ.2.2 + σ.2.1))
  have h2 := endC_le σ.1 (σ.2.2 + σ.2.1)
  simp only [moveR]
  unfold wt at h1 ⊢
  omega

end Go.Proofs.Ytonlkkpoanlcbaa
