/- Plain lists: a definition put together of its parts. -/
import Derived.Test.YtadghfgjdfgopaaDoorPlainLink4
import Derived.Test.YtadghfgjdfgopaaDoorPlainLink7
set_option linter.unusedVariables false
namespace Go.Proofs.YtadghfgjdfgopaaDoor

def pairL (o : Option (List UInt8 × Nat)) : List UInt8 × Nat := o.getD ([], 0)

def lineR (l : List UInt8) : Nat × Bool := match lineL l with
  | some r => (l.length - r.length, true)
  | none => (0, false)

/-- A title and what stands behind the line, or that alone. -/
def tailO (y : List UInt8) : Option (List UInt8 × List UInt8) :=
  match titleL (gapL 0 y) with
  | some (x, m) => if (gapL 0 y).length < y.length then
      match lineL ((gapL 0 y).drop m) with
      | some r => some (x, r)
      | none => (lineL y).map fun r => ([], r)
    else (lineL y).map fun r => ([], r)
  | none => (lineL y).map fun r => ([], r)

def tailL (y : List UInt8) : List UInt8 × Nat × Bool := match tailO y with
  | some (x, r) => (x, y.length - r.length, true)
  | none => ([], 0, false)

def definedL (l : List UInt8) : List UInt8 × Nat := match labelL (threeL 3 l) with
  | none => ([], 0)
  | some (u, n) => match (threeL 3 l).drop n with
    | [] => ([], 0)
    | b :: t => if b = 58 then (u, l.length - t.length) else ([], 0)

def noDef : (List UInt8 × List UInt8 × List UInt8) × Nat := (([], [], []), 0)

def defR (l : List UInt8) : (List UInt8 × List UInt8 × List UInt8) × Nat := match defineL l with
  | none => noDef
  | some (q, r) => (q, l.length - r.length)

theorem tail_line (y : List UInt8) : (match (lineL y).map fun r => (([] : List UInt8), r) with
    | some (x, r) => (x, y.length - r.length, true)
    | none => ([], 0, false)) = (([] : List UInt8), (lineR y).1, (lineR y).2) := by
  unfold lineR
  cases lineL y <;> rfl

theorem title_pos {s x : List UInt8} {m : Nat} (h : titleL s = some (x, m)) : 2 ≤ m ∧ m ≤ s.length := by
  obtain ⟨h2, q, r, e, hq, _⟩ := title_is h
  refine ⟨h2, ?_⟩
  rw [e, List.length_append]
  omega

theorem tail_code (y : List UInt8) : tailL y = if (gapL 0 y).length < y.length ∧ 0 < (pairL (titleL (gapL 0 y))).2 ∧ (lineR ((gapL 0 y).drop (pairL (titleL (gapL 0 y))).2)).2 = true
    then ((pairL (titleL (gapL 0 y))).1, y.length - (gapL 0 y).length + (pairL (titleL (gapL 0 y))).2 + (lineR ((gapL 0 y).drop (pairL (titleL (gapL 0 y))).2)).1, true)
    else ([], (lineR y).1, (lineR y).2) := by
  have hg := gapL_le 0 y
  unfold tailL tailO
  cases ht : titleL (gapL 0 y) with
  | none =>
    rw [if_neg (by rintro ⟨_, h, _⟩; exact Nat.lt_irrefl _ h)]
    exact tail_line y
  | some xm =>
    obtain ⟨x, m⟩ := xm
    obtain ⟨h2, hm⟩ := title_pos ht
    have e1 : (pairL (some (x, m))).1 = x := rfl
    have e2 : (pairL (some (x, m))).2 = m := rfl
    rw [e1, e2]
    simp only
    by_cases hl : (gapL 0 y).length < y.length
    · rw [if_pos hl]
      cases hr : lineL ((gapL 0 y).drop m) with
      | none =>
        have e3 : lineR ((gapL 0 y).drop m) = (0, false) := by unfold lineR; rw [hr]
        rw [e3, if_neg (by rintro ⟨_, _, h⟩; cases h)]
        exact tail_line y
      | some r =>
        have e3 : lineR ((gapL 0 y).drop m) = (((gapL 0 y).drop m).length - r.length, true) := by unfold lineR; rw [hr]
        obtain ⟨e, e4, _⟩ := line_is _ _ hr
        have e5 := congrArg List.length e4
        rw [List.length_append, List.length_drop] at e5
        rw [e3, if_pos ⟨hl, by omega, rfl⟩]
        simp only
        rw [List.length_drop]
        congr 2
        omega
    · rw [if_neg hl, if_neg (fun x => hl x.1)]
      exact tail_line y

theorem tail_le (y : List UInt8) : (tailL y).2.1 ≤ y.length := by
  unfold tailL
  cases tailO y with
  | none => exact Nat.zero_le _
  | some xr => exact Nat.sub_le ..

theorem three_suf : ∀ (n : Nat) (l : List UInt8), ∃ g, l = g ++ threeL n l
  | 0, l => ⟨[], rfl⟩
  | n + 1, [] => ⟨[], rfl⟩
  | n + 1, b :: t => by
    simp only [threeL]
    split
    · obtain ⟨g, e⟩ := three_suf n t
      exact ⟨b :: g, by rw [List.cons_append, ← e]⟩
    · exact ⟨[], rfl⟩

theorem defined_zero {l u : List UInt8} (h : definedL l = (u, 0)) : defineL l = none := by
  unfold definedL at h
  unfold defineL
  cases hl : labelL (threeL 3 l) with
  | none => rfl
  | some un =>
    obtain ⟨u', n⟩ := un
    rw [hl] at h
    simp only at h ⊢
    cases hd : (threeL 3 l).drop n with
    | nil => rfl
    | cons b t =>
      rw [hd] at h
      simp only at h ⊢
      by_cases hb : b = 58
      · rw [if_pos hb] at h
        exfalso
        obtain ⟨g, e⟩ := three_suf 3 l
        have e1 := congrArg List.length e
        have e2 := congrArg List.length hd
        rw [List.length_append] at e1
        rw [List.length_drop, List.length_cons] at e2
        have := (Prod.mk.inj h).2
        omega
      · rw [if_neg hb]

theorem defined_some {l u : List UInt8} {n : Nat} (h : definedL l = (u, n)) (h0 : n ≠ 0) : n ≤ l.length ∧ u.length ≤ 999 ∧ defineL l = match destL (gapL 0 (l.drop n)) with
    | none => none
    | some (d, k) => (tailO ((gapL 0 (l.drop n)).drop k)).map fun q => ((fold u, d, q.1), q.2) := by
  unfold definedL at h
  unfold defineL
  cases hl : labelL (threeL 3 l) with
  | none =>
    rw [hl] at h
    exact absurd (Prod.mk.inj h).2.symm h0
  | some un =>
    obtain ⟨u', m⟩ := un
    rw [hl] at h
    simp only at h ⊢
    cases hd : (threeL 3 l).drop m with
    | nil =>
      rw [hd] at h
      exact absurd (Prod.mk.inj h).2.symm h0
    | cons b t =>
      rw [hd] at h
      simp only at h ⊢
      by_cases hb : b = 58
      · rw [if_pos hb] at h ⊢
        have hu := (Prod.mk.inj h).1
        have hn := (Prod.mk.inj h).2
        subst hu
        obtain ⟨g, e⟩ := three_suf 3 l
        have e3 : l = (g ++ (threeL 3 l).take m ++ [b]) ++ t := by
          rw [List.append_assoc, List.append_assoc, List.singleton_append, ← hd, List.take_append_drop]
          exact e
        have hlen := congrArg List.length e3
        rw [List.length_append] at hlen
        have ed : l.drop n = t := by
          conv => lhs; rw [e3]
          exact List.drop_left' (by omega)
        rw [ed]
        refine ⟨by omega, (label_is hl).2.2.1, ?_⟩
        cases hde : destL (gapL 0 t) with
        | none => rfl
        | some dk =>
          obtain ⟨d, k⟩ := dk
          simp only [tailO]
          cases ht : titleL (gapL 0 ((gapL 0 t).drop k)) with
          | none =>
            simp only
            cases lineL ((gapL 0 t).drop k) <;> rfl
          | some xm =>
            obtain ⟨x, m'⟩ := xm
            simp only
            by_cases hlt : (gapL 0 ((gapL 0 t).drop k)).length < ((gapL 0 t).drop k).length
            · rw [if_pos hlt, if_pos hlt]
              cases lineL ((gapL 0 ((gapL 0 t).drop k)).drop m') with
              | none =>
                simp only
                cases lineL ((gapL 0 t).drop k) <;> rfl
              | some r => rfl
            · rw [if_neg hlt, if_neg hlt]
              cases lineL ((gapL 0 t).drop k) <;> rfl
      · rw [if_neg hb] at h
        exact absurd (Prod.mk.inj h).2.symm h0

theorem dest_pos {s d : List UInt8} {k : Nat} (h : destL s = some (d, k)) : 0 < k ∧ k ≤ s.length := by
  obtain ⟨h2, q, r, e, hq, _⟩ := dest_is h
  refine ⟨h2, ?_⟩
  rw [e, List.length_append]
  omega

theorem tailO_le {y x r : List UInt8} (h : tailO y = some (x, r)) : r.length ≤ y.length := by
  have hln : ∀ z r', lineL z = some r' → r'.length ≤ z.length := by
    intro z r' hz
    obtain ⟨e, e4, _⟩ := line_is _ _ hz
    rw [e4, List.length_append]
    omega
  have hmap : ∀ {z x' r' : List UInt8}, (lineL z).map (fun r => (([] : List UInt8), r)) = some (x', r') → r'.length ≤ z.length := by
    intro z x' r' hz
    cases hl : lineL z with
    | none => rw [hl] at hz; cases hz
    | some q =>
      rw [hl] at hz
      cases hz
      exact hln _ _ hl
  unfold tailO at h
  split at h
  · rename_i x' m ht
    split at h
    · split at h
      · rename_i r' hr
        cases h
        have := hln _ _ hr
        have hg := gapL_le 0 y
        rw [List.length_drop] at this
        omega
      · exact hmap h
    · exact hmap h
  · exact hmap h

theorem def_code {l u : List UInt8} {n : Nat} (h : definedL l = (u, n)) (h0 : n ≠ 0) : defR l =
    if (pairL (destL (gapL 0 (l.drop n)))).2 = 0 ∨ (tailL ((gapL 0 (l.drop n)).drop (pairL (destL (gapL 0 (l.drop n)))).2)).2.2 = false then noDef
    else ((fold u, (pairL (destL (gapL 0 (l.drop n)))).1, (tailL ((gapL 0 (l.drop n)).drop (pairL (destL (gapL 0 (l.drop n)))).2)).1),
      n + ((l.drop n).length - (gapL 0 (l.drop n)).length) + (pairL (destL (gapL 0 (l.drop n)))).2 + (tailL ((gapL 0 (l.drop n)).drop (pairL (destL (gapL 0 (l.drop n)))).2)).2.1) := by
  obtain ⟨hn, hu, hd⟩ := defined_some h h0
  unfold defR
  rw [hd]
  have hg := gapL_le 0 (l.drop n)
  rw [List.length_drop] at hg
  cases hde : destL (gapL 0 (l.drop n)) with
  | none => rfl
  | some dk =>
    obtain ⟨d, k⟩ := dk
    obtain ⟨hk, hk2⟩ := dest_pos hde
    have e1 : (pairL (some (d, k))).1 = d := rfl
    have e2 : (pairL (some (d, k))).2 = k := rfl
    rw [e1, e2]
    simp only
    cases ht : tailO ((gapL 0 (l.drop n)).drop k) with
    | none =>
      have e3 : tailL ((gapL 0 (l.drop n)).drop k) = ([], 0, false) := by unfold tailL; rw [ht]
      rw [e3, if_pos (.inr rfl)]
      rfl
    | some xr =>
      obtain ⟨x, r⟩ := xr
      have e3 : tailL ((gapL 0 (l.drop n)).drop k) = (x, ((gapL 0 (l.drop n)).drop k).length - r.length, true) := by unfold tailL; rw [ht]
      have hr := tailO_le ht
      rw [e3, if_neg (by rintro (y | y); omega; cases y)]
      show ((fold u, d, x), l.length - r.length) = _
      rw [List.length_drop] at hr
      show _ = ((fold u, d, x), n + ((l.drop n).length - (gapL 0 (l.drop n)).length) + k + (((gapL 0 (l.drop n)).drop k).length - r.length))
      rw [List.length_drop, List.length_drop]
      have he : l.length - r.length = n + (l.length - n - (gapL 0 (l.drop n)).length) + k + ((gapL 0 (l.drop n)).length - k - r.length) := by omega
      rw [he]

end Go.Proofs.YtadghfgjdfgopaaDoor
