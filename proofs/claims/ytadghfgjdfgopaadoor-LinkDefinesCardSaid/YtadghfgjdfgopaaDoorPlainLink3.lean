/- Labels, places and titles are the same whatever stands behind; a definition is the same where the text ends behind it; over plain lists. -/
import Derived.Test.YtadghfgjdfgopaaDoorPlainLink2
import Derived.Test.YtadghfgjdfgopaaDoorPlainFront
set_option linter.unusedVariables false
namespace Go.Proofs.YtadghfgjdfgopaaDoor

theorem take_front {p r : List UInt8} : (p ++ r).take ((p ++ r).length - r.length) = p := by
  rw [List.length_append, Nat.add_sub_cancel, List.take_left' rfl]
theorem take_inner {p r : List UInt8} {x : UInt8} : ((p ++ [x]) ++ r).take (((p ++ [x]) ++ r).length - (r.length + 1)) = p := by
  have : ((p ++ [x]) ++ r).length - (r.length + 1) = p.length := by simp <;> omega
  rw [this, List.append_assoc, List.take_left' rfl]

/-- A label: what it is made of, and that what stands behind does not matter. -/
theorem label_is {s : List UInt8} {u : List UInt8} {i : Nat} (h : labelL s = some (u, i)) :
    i = u.length + 2 ∧ fold u ≠ [] ∧ u.length ≤ 999 ∧ ∃ r, s = (91 :: u ++ [93]) ++ r ∧ ∀ y, labelL ((91 :: u ++ [93]) ++ y) = some (u, i) := by
  cases s with
  | nil => cases h
  | cons a t =>
    simp only [labelL] at h
    split at h
    · rename_i ha
      subst ha
      cases hs : scanU 93 (· == 91) t with
      | none => rw [hs] at h; cases h
      | some r =>
        rw [hs] at h
        obtain ⟨p, e1, e2⟩ := scan_front _ _ t r hs
        have hl : t.length - (r.length + 1) = p.length := by rw [e1]; simp <;> omega
        have ht : t.take (t.length - (r.length + 1)) = p := by rw [e1]; exact take_inner
        simp only at h
        rw [ht, hl] at h
        split at h
        · rename_i hc
          have hh := Option.some.inj h
          have h1 : p = u := congrArg Prod.fst hh
          have h2 : t.length - r.length + 1 = i := congrArg Prod.snd hh
          subst h1 h2
          have hi : t.length - r.length + 1 = p.length + 2 := by rw [e1]; simp <;> omega
          refine ⟨hi, hc.2.2, hc.2.1, r, by rw [e1]; rfl, fun y => ?_⟩
          show labelL (91 :: ((p ++ [93]) ++ y)) = _
          simp only [labelL, if_true]
          rw [e2 y]
          have hl2 : ((p ++ [93]) ++ y).length - (y.length + 1) = p.length := by simp <;> omega
          have ht2 : ((p ++ [93]) ++ y).take (((p ++ [93]) ++ y).length - (y.length + 1)) = p := take_inner
          simp only
          rw [ht2, hl2, if_pos hc, hi]
          congr 2
          simp <;> omega
        · cases h
    · cases h

/-- A title likewise. -/
theorem title_is {s : List UInt8} {x : List UInt8} {m : Nat} (h : titleL s = some (x, m)) :
    2 ≤ m ∧ ∃ q r, s = q ++ r ∧ q.length = m ∧ ∀ y, titleL (q ++ y) = some (x, m) := by
  cases s with
  | nil => cases h
  | cons a t =>
    simp only [titleL] at h
    split at h
    · rename_i ha
      cases hs : titleS (if a = 40 then 41 else a) false t with
      | none => rw [hs] at h; cases h
      | some r =>
        rw [hs] at h
        obtain ⟨p, e1, e2⟩ := title_front _ _ t r hs
        have hi : t.length - r.length + 1 = p.length + 2 := by rw [e1]; simp <;> omega
        have ht : t.take (t.length - (r.length + 1)) = p := by rw [e1]; exact take_inner
        simp only at h
        rw [ht, hi] at h
        cases h
        refine ⟨by omega, a :: (p ++ [if a = 40 then 41 else a]), r, by rw [e1]; rfl, by simp, fun y => ?_⟩
        show titleL (a :: ((p ++ [if a = 40 then 41 else a]) ++ y)) = _
        simp only [titleL]
        rw [if_pos ha, e2 y]
        simp only
        rw [take_inner]
        congr 2
        simp <;> omega
    · cases h

/-- A place likewise, ahead of what ends it. -/
theorem dest_is {s : List UInt8} {d : List UInt8} {k : Nat} (h : destL s = some (d, k)) :
    0 < k ∧ ∃ q r, s = q ++ r ∧ q.length = k ∧ ∀ y, endsB y → destL (q ++ y) = some (d, k) := by
  cases s with
  | nil => cases h
  | cons a t =>
    simp only [destL] at h
    split at h
    · rename_i ha
      subst ha
      cases hs : scanU 62 (fun b => b == 60 || b == 10) t with
      | none => rw [hs] at h; cases h
      | some r =>
        rw [hs] at h
        obtain ⟨p, e1, e2⟩ := scan_front _ _ t r hs
        have hi : t.length - r.length + 1 = p.length + 2 := by rw [e1]; simp <;> omega
        have ht : t.take (t.length - (r.length + 1)) = p := by rw [e1]; exact take_inner
        simp only at h
        rw [ht, hi] at h
        cases h
        refine ⟨by omega, 60 :: (p ++ [62]), r, by rw [e1]; rfl, by simp, fun y _ => ?_⟩
        show destL (60 :: ((p ++ [62]) ++ y)) = _
        simp only [destL, if_true]
        rw [e2 y]
        simp only
        rw [take_inner]
        congr 2
        simp <;> omega
    · rename_i ha
      cases hs : bareS 0 (a :: t) with
      | none => rw [hs] at h; cases h
      | some ro =>
        obtain ⟨r, o⟩ := ro
        rw [hs] at h
        simp only at h
        split at h
        · cases h
        · rename_i hc
          obtain ⟨p, e1, e2⟩ := bare_front 0 (a :: t) r o hs
          have hl : (a :: t).length - r.length = p.length := by rw [e1]; simp
          have ht : (a :: t).take ((a :: t).length - r.length) = p := by rw [e1]; exact take_front
          rw [ht, hl] at h
          cases h
          have hp : p ≠ [] := by
            intro e
            rw [e] at e1
            exact hc (.inl (by rw [e1]; rfl))
          have h0 : 0 < p.length := List.length_pos_iff.2 hp
          refine ⟨h0, p, r, e1, rfl, fun y hy => ?_⟩
          cases p with
          | nil => exact absurd rfl hp
          | cons b q =>
            have hab : a = b := (List.cons.inj e1).1
            show destL (b :: (q ++ y)) = _
            simp only [destL]
            rw [if_neg (by rw [← hab]; exact ha)]
            have := e2 y hy
            rw [show (b :: q) ++ y = b :: (q ++ y) from rfl] at this
            rw [this]
            simp only
            rw [if_neg (by rintro (h | h); (· simp at h; omega); (· exact hc (.inr h)))]
            have hl2 : (b :: (q ++ y)).length - y.length = (b :: q).length := by simp <;> omega
            have ht2 : (b :: (q ++ y)).take ((b :: q).length) = b :: q := by
              show ((b :: q) ++ y).take (b :: q).length = b :: q
              exact List.take_left' rfl
            rw [hl2, ht2]

end Go.Proofs.YtadghfgjdfgopaaDoor
