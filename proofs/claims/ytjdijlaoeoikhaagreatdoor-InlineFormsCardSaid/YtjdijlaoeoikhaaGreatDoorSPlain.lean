/- Package span's own ways, over plain lists: values, attributes, the end of a tag; where a byte stands first. -/
import Derived.Test.YtjdijlaoeoikhaaGreatDoorG06
import Derived.Test.YtjdijlaoeoikhaaGreatDoorG01
import Derived.Lib.Bytealg
set_option linter.unusedVariables false
namespace Go.Proofs.YtjdijlaoeoikhaaGreatDoor

def hdB (l : List UInt8) (c : UInt8) : Bool := match l with
  | [] => false
  | b :: _ => b == c

/-- Where a byte stands first. -/
theorem idx_dw (q : UInt8) : ∀ u : List UInt8, (u.dropWhile (· != q) = [] ∧ Lib.indexByte u q = -1) ∨ (∃ v, u.dropWhile (· != q) = q :: v ∧ Lib.indexByte u q = ((u.length - (v.length + 1) : Nat) : Int) ∧ v.length + 1 ≤ u.length)
  | [] => .inl ⟨rfl, rfl⟩
  | b :: t => by
    unfold Lib.indexByte
    by_cases hb : b = q
    · subst hb
      refine .inr ⟨t, by simp, ?_, by simp⟩
      simp
    · have hd : (b :: t).dropWhile (· != q) = t.dropWhile (· != q) := by rw [List.dropWhile_cons, if_pos (by simpa using hb)]
      rw [hd, if_neg (by simpa using hb)]
      rcases idx_dw q t with ⟨h1, h2⟩ | ⟨v, h1, h2, h3⟩
      · exact .inl ⟨h1, by rw [h2]; rfl⟩
      · refine .inr ⟨v, h1, ?_, by simp; omega⟩
        rw [h2, if_neg (by simp), List.length_cons]
        omega

def quoL : List UInt8 → List UInt8
  | [] => []
  | q :: u => if q = 39 ∨ q = 34 then (match u.dropWhile (· != q) with | [] => q :: u | _ :: v => v) else q :: u

def val2P (y l : List UInt8) : List UInt8 := (val2 y).getD l
def valP (l : List UInt8) : List UInt8 := (valL l).getD l

theorem quo_suf (l : List UInt8) : ∃ p, l = p ++ quoL l := by
  cases l with
  | nil => exact ⟨[], rfl⟩
  | cons q u =>
    simp only [quoL]
    split
    · split
      · exact ⟨[], rfl⟩
      · rename_i c v hv
        have := List.takeWhile_append_dropWhile (p := (· != q)) (l := u)
        rw [hv] at this
        exact ⟨q :: (u.takeWhile (· != q) ++ [c]), by rw [List.cons_append, List.append_assoc]; exact congrArg _ this.symm⟩
    · exact ⟨[], rfl⟩

/-- A value, as it is found: first a quoted one, then one without quotes. -/
theorem val2_found {y : List UInt8} (l : List UInt8) (h : quoL y ≠ y) : val2P y l = quoL y := by
  unfold val2P
  cases y with
  | nil => exact absurd rfl h
  | cons q u =>
    simp only [quoL, val2] at h ⊢
    by_cases hq : q = 39 ∨ q = 34
    · rw [if_pos hq] at h ⊢
      rw [if_pos hq]
      cases hd : u.dropWhile (· != q) with
      | nil => rw [hd] at h; exact absurd rfl h
      | cons c v => rfl
    · rw [if_neg hq] at h; exact absurd rfl h
theorem quo_not {q : UInt8} {u : List UInt8} (h : quoL (q :: u) = q :: u) (hq : q = 39 ∨ q = 34) : u.dropWhile (· != q) = [] := by
  simp only [quoL] at h
  rw [if_pos hq] at h
  cases hd : u.dropWhile (· != q) with
  | nil => rfl
  | cons c v =>
    rw [hd] at h
    have hl := dropWhile_le (· != q) u
    have := congrArg List.length h
    rw [hd] at hl
    simp only [List.length_cons] at this hl
    omega
theorem val2_bare {y : List UInt8} (l : List UInt8) (h : quoL y = y) (h2 : y.dropWhile unqC ≠ y) : val2P y l = y.dropWhile unqC := by
  unfold val2P
  cases y with
  | nil => exact absurd rfl h2
  | cons q u =>
    by_cases hu : unqC q = true
    · have hq : ¬ (q = 39 ∨ q = 34) := by rintro (rfl | rfl) <;> exact absurd hu (by decide)
      simp only [val2]
      rw [if_neg hq, if_pos hu, List.dropWhile_cons, if_pos hu]
      rfl
    · rw [List.dropWhile_cons, if_neg hu] at h2; exact absurd rfl h2
theorem val2_none {y : List UInt8} (l : List UInt8) (h : quoL y = y) (h2 : y.dropWhile unqC = y) : val2P y l = l := by
  unfold val2P
  cases y with
  | nil => rfl
  | cons q u =>
    have hu : ¬ unqC q = true := by
      intro hu
      rw [List.dropWhile_cons, if_pos hu] at h2
      have := congrArg List.length h2
      have hl := dropWhile_le unqC u
      simp only [List.length_cons] at this
      omega
    simp only [val2]
    by_cases hq : q = 39 ∨ q = 34
    · rw [if_pos hq, quo_not h hq]; rfl
    · rw [if_neg hq, if_neg hu]; rfl

theorem valP_no {l : List UInt8} (h : hdB (gapL 0 l) 61 = false) : valP l = l := by
  unfold valP valL
  cases hg : gapL 0 l with
  | nil => rfl
  | cons b t =>
    rw [hg] at h
    have : b ≠ 61 := by rintro rfl; cases h
    simp [this]
theorem valP_yes {l t : List UInt8} (h : gapL 0 l = 61 :: t) : valP l = val2P (gapL 0 t) l := by
  unfold valP valL val2P
  rw [h]
  rfl
theorem valP_le (l : List UInt8) : (valP l).length ≤ l.length := by
  unfold valP
  cases h : valL l with
  | none => exact Nat.le_refl _
  | some r => exact valL_le h
theorem valP_suf (l : List UInt8) : ∃ p, l = p ++ valP l := by
  unfold valP
  cases h : valL l with
  | none => exact ⟨[], rfl⟩
  | some r => exact valL_suf h

/-- Behind an attribute, if one stands there. -/
def attP (l : List UInt8) : List UInt8 := match gapL 0 l with
  | [] => l
  | b :: t => if (b :: t).length < l.length ∧ attrF b = true then valP (t.dropWhile attrC) else l

theorem attP_suf (l : List UInt8) : ∃ p, l = p ++ attP l := by
  obtain ⟨g, e⟩ := gap_suf 0 l
  unfold attP
  cases hg : gapL 0 l with
  | nil => exact ⟨[], rfl⟩
  | cons b t =>
    simp only
    split
    · obtain ⟨p, e2⟩ := valP_suf (t.dropWhile attrC)
      have e3 := List.takeWhile_append_dropWhile (p := attrC) (l := t)
      rw [hg] at e
      refine ⟨g ++ b :: (t.takeWhile attrC ++ p), ?_⟩
      rw [List.append_assoc, List.cons_append, List.append_assoc, ← e2, e3]
      exact e
    · exact ⟨[], rfl⟩

theorem attP_lt {l : List UInt8} (h : attP l ≠ l) : (attP l).length < l.length := by
  unfold attP at h ⊢
  cases hg : gapL 0 l with
  | nil => simp [hg] at h
  | cons b t =>
    rw [hg] at h
    simp only at h ⊢
    split
    · rename_i hc
      have h1 := valP_le (t.dropWhile attrC)
      have h2 := dropWhile_le attrC t
      have h3 := hc.1
      simp only [List.length_cons] at h3
      omega
    · rename_i hc
      exact absurd (if_neg hc) h

theorem fin_att {l : List UInt8} (h : attP l ≠ l) : finL (attP l) = finL l := by
  unfold attP at h ⊢
  cases hg : gapL 0 l with
  | nil => simp [hg] at h
  | cons b t =>
    rw [hg] at h
    simp only at h ⊢
    by_cases hc : (b :: t).length < l.length ∧ attrF b = true
    · rw [if_pos hc, fin_cons hg, if_pos hc]
      unfold valP
      cases hv : valL (t.dropWhile attrC) with
      | some r => rfl
      | none =>
        show finL (t.dropWhile attrC) = none
        unfold valL at hv
        cases hg2 : gapL 0 (t.dropWhile attrC) with
        | nil => rw [hg2] at hv; cases hv
        | cons b2 t2 =>
          rw [hg2] at hv
          by_cases h61 : b2 = 61
          · subst h61
            rw [fin_cons hg2, if_neg (by rintro ⟨_, h⟩; exact absurd h (by decide))]
            rfl
          · simp [h61] at hv
    · rw [if_neg hc] at h
      exact absurd rfl h

theorem att_no {l : List UInt8} (h : attP l = l) : finL l = match gapL 0 l with | [] => none | b :: t => endL (b :: t) := by
  cases hg : gapL 0 l with
  | nil => exact fin_none hg
  | cons b t =>
    rw [fin_cons hg]
    simp only
    rw [if_neg]
    intro hc
    unfold attP at h
    rw [hg] at h
    simp only at h
    rw [if_pos hc] at h
    have h1 := valP_le (t.dropWhile attrC)
    have h2 := dropWhile_le attrC t
    have h3 := hc.1
    have h4 := congrArg List.length h
    simp only [List.length_cons] at h3
    omega

/-- The end: perhaps a slash, then the sign. -/
theorem end_slash (l : List UInt8) : endL l = if hdB l 47 = true then closeL (l.drop 1) else closeL l := by
  cases l with
  | nil => rfl
  | cons b t =>
    simp only [endL, hdB, closeL, List.drop_succ_cons, List.drop_zero]
    by_cases h1 : b = 62
    · subst h1; rfl
    · rw [if_neg h1]
      by_cases h2 : b = 47
      · subst h2
        cases t with
        | nil => rfl
        | cons c u => rfl
      · rw [if_neg h2, if_neg (by simpa using h2), if_neg h1]

theorem let_name {c : UInt8} (h : letterB c = true) : nameC c = true := by unfold nameC; rw [h]; rfl
theorem attrF_C {c : UInt8} (h : attrF c = true) : attrC c = true := by
  unfold attrF at h
  unfold attrC
  cases h1 : letterB c <;> cases h2 : c == 95 <;> cases h3 : c == 58 <;> simp_all

theorem close_suf {l r : List UInt8} (h : closeL l = some r) : l = 62 :: r := by
  cases l with
  | nil => cases h
  | cons b t =>
    simp only [closeL] at h
    split at h
    · rename_i hb; cases h; rw [hb]
    · cases h

end Go.Proofs.YtjdijlaoeoikhaaGreatDoor
