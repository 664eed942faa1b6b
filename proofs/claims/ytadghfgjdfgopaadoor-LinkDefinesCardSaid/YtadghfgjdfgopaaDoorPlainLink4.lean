/- A definition is the same where the text ends behind it; over plain lists. -/
import Derived.Test.YtadghfgjdfgopaaDoorPlainLink3
set_option linter.unusedVariables false
namespace Go.Proofs.YtadghfgjdfgopaaDoor

theorem bare_blank {b : UInt8} (h : b = 32 ∨ b = 9 ∨ b = 10) : bareC b = false := by
  rcases h with rfl | rfl | rfl <;> decide

theorem line_is : ∀ (l r : List UInt8), lineL l = some r → ∃ e, l = e ++ r ∧ lineL e = some [] ∧ gapL 0 e = [] ∧ endsB e
  | [], r, h => by
    cases h
    exact ⟨[], rfl, rfl, rfl, .inl rfl⟩
  | b :: t, r, h => by
    simp only [lineL] at h
    split at h
    · rename_i hb
      obtain ⟨e, e1, e2, e3, _⟩ := line_is t r h
      refine ⟨b :: e, by rw [e1]; rfl, ?_, ?_, .inr ⟨b, e, rfl, bare_blank (by rcases hb with h | h; exact .inl h; exact .inr (.inl h))⟩⟩
      · simp only [lineL]; rw [if_pos hb]; exact e2
      · simp only [gapL]; rw [if_pos hb]; exact e3
    · rename_i hb
      split at h
      · rename_i h10
        cases h
        refine ⟨[b], rfl, ?_, ?_, .inr ⟨b, [], rfl, bare_blank (.inr (.inr h10))⟩⟩
        · simp only [lineL]; rw [if_neg hb, if_pos h10]
        · simp only [gapL]; rw [if_neg hb, if_pos ⟨h10, trivial⟩]
      · cases h

theorem gap_is : ∀ (n : Nat) (l : List UInt8) (b : UInt8) (w : List UInt8), gapL n l = b :: w → ∃ g, l = g ++ b :: w ∧ (∀ v, gapL n (g ++ b :: v) = b :: v) ∧ (g = [] ∨ ∀ v, endsB (g ++ v))
  | n, [], b, w, h => by cases h
  | n, x :: t, b, w, h => by
    simp only [gapL] at h
    split at h
    · rename_i hx
      obtain ⟨g, e1, e2, _⟩ := gap_is n t b w h
      refine ⟨x :: g, by rw [e1]; rfl, fun v => ?_, .inr fun v => .inr ⟨x, g ++ v, rfl, bare_blank (by rcases hx with h | h; exact .inl h; exact .inr (.inl h))⟩⟩
      show gapL n (x :: (g ++ b :: v)) = _
      simp only [gapL]
      rw [if_pos hx]
      exact e2 v
    · rename_i hx
      split at h
      · rename_i h10
        obtain ⟨g, e1, e2, _⟩ := gap_is 1 t b w h
        refine ⟨x :: g, by rw [e1]; rfl, fun v => ?_, .inr fun v => .inr ⟨x, g ++ v, rfl, bare_blank (.inr (.inr h10.1))⟩⟩
        show gapL n (x :: (g ++ b :: v)) = _
        simp only [gapL]
        rw [if_neg hx, if_pos h10]
        exact e2 v
      · rename_i h10
        obtain ⟨rfl, rfl⟩ := List.cons.inj h
        refine ⟨[], rfl, fun v => ?_, .inl rfl⟩
        show gapL n (x :: v) = _
        simp only [gapL]
        rw [if_neg hx, if_neg h10]

theorem three_is : ∀ (n : Nat) (l : List UInt8) (b : UInt8) (w : List UInt8), b ≠ 32 → threeL n l = b :: w → ∃ g, l = g ++ b :: w ∧ ∀ v, threeL n (g ++ b :: v) = b :: v
  | 0, l, b, w, hb, h => ⟨[], h, fun v => rfl⟩
  | n + 1, [], b, w, hb, h => by cases h
  | n + 1, x :: t, b, w, hb, h => by
    simp only [threeL] at h
    split at h
    · rename_i hx
      obtain ⟨g, e1, e2⟩ := three_is n t b w hb h
      refine ⟨x :: g, by rw [e1]; rfl, fun v => ?_⟩
      show threeL (n + 1) (x :: (g ++ b :: v)) = _
      simp only [threeL]
      rw [if_pos hx]
      exact e2 v
    · rename_i hx
      obtain ⟨rfl, rfl⟩ := List.cons.inj h
      refine ⟨[], rfl, fun v => ?_⟩
      show threeL (n + 1) (x :: v) = _
      simp only [threeL]
      rw [if_neg hx]

/-- What a definition tells, out of its parts. -/
theorem define_of {g0 u g q y : List UInt8} {d : List UInt8} {b : UInt8} {w : List UInt8} (h0 : ∀ v, threeL 3 (g0 ++ 91 :: v) = 91 :: v) (hl : ∀ v, labelL ((91 :: u ++ [93]) ++ v) = some (u, u.length + 2)) (hq : q = b :: w) (hg : ∀ v, gapL 0 (g ++ b :: v) = b :: v) (hd : destL (q ++ y) = some (d, q.length)) :
    defineL (g0 ++ ((91 :: u ++ [93]) ++ (58 :: (g ++ (q ++ y))))) =
      match titleL (gapL 0 y) with
      | some (x, m) => if (gapL 0 y).length < y.length then
          match lineL ((gapL 0 y).drop m) with
          | some r => some ((fold u, d, x), r)
          | none => (lineL y).map fun r => ((fold u, d, []), r)
        else (lineL y).map fun r => ((fold u, d, []), r)
      | none => (lineL y).map fun r => ((fold u, d, []), r) := by
  have e0 : threeL 3 (g0 ++ ((91 :: u ++ [93]) ++ (58 :: (g ++ (q ++ y))))) = (91 :: u ++ [93]) ++ (58 :: (g ++ (q ++ y))) := h0 _
  have e1 : ((91 :: u ++ [93]) ++ (58 :: (g ++ (q ++ y)))).drop (u.length + 2) = 58 :: (g ++ (q ++ y)) := List.drop_left' (by simp)
  have e2 : gapL 0 (g ++ (q ++ y)) = q ++ y := by rw [hq]; exact hg (w ++ y)
  have e3 : (q ++ y).drop q.length = y := List.drop_left' rfl
  unfold defineL
  rw [e0, hl]
  simp only [e1]
  rw [if_pos trivial, e2, hd]
  simp only [e3]
  cases titleL (gapL 0 y) with
  | none => rfl
  | some xm =>
    obtain ⟨x, m⟩ := xm
    simp only
    cases lineL ((gapL 0 y).drop m) <;> rfl

/-- A definition: the same where the text ends behind it. -/
theorem define_cut {s : List UInt8} {x : List UInt8 × List UInt8 × List UInt8} {r : List UInt8} (h : defineL s = some (x, r)) :
    ∃ p u, s = p ++ r ∧ p ≠ [] ∧ x.1 = fold u ∧ fold u ≠ [] ∧ defineL p = some (x, []) := by
  have h' := h
  unfold defineL at h'
  cases hl : labelL (threeL 3 s) with
  | none => rw [hl] at h'; cases h'
  | some un =>
    obtain ⟨u, n⟩ := un
    rw [hl] at h'
    simp only at h'
    obtain ⟨hn, hf, _, r1, e1, l1⟩ := label_is hl
    subst hn
    obtain ⟨g0, e0, h0⟩ := three_is 3 s 91 ((u ++ [93]) ++ r1) (by decide) (by rw [e1]; rfl)
    rw [e1, List.drop_left' (by simp)] at h'
    cases r1 with
    | nil => cases h'
    | cons c t =>
      simp only at h'
      split at h'
      · rename_i h58
        subst h58
        cases hd : destL (gapL 0 t) with
        | none => rw [hd] at h'; cases h'
        | some dk =>
          obtain ⟨d, k⟩ := dk
          obtain ⟨hk, q, R, e2, hql, d1⟩ := dest_is hd
          cases q with
          | nil => simp at hql; omega
          | cons b w =>
            obtain ⟨g, e3, g1, _⟩ := gap_is 0 t b (w ++ R) e2
            have hs : ∀ y, endsB y → defineL (g0 ++ ((91 :: u ++ [93]) ++ (58 :: (g ++ ((b :: w) ++ y))))) = _ := fun y hy => define_of h0 l1 rfl g1 (by rw [hql]; exact d1 y hy)
            rw [hd] at h'
            simp only at h'
            have hR : (gapL 0 t).drop k = R := by rw [e2, ← hql]; exact List.drop_left' rfl
            rw [hR] at h'
            -- what a part of R makes
            have whole : ∀ e, R = e ++ r → s = (g0 ++ ((91 :: u ++ [93]) ++ (58 :: (g ++ ((b :: w) ++ e))))) ++ r := by
              intro e he
              rw [e0, e3, he]
              simp
            have plain : (lineL R).map (fun r => ((fold u, d, ([] : List UInt8)), r)) = some (x, r) → ∃ p u, s = p ++ r ∧ p ≠ [] ∧ x.1 = fold u ∧ fold u ≠ [] ∧ defineL p = some (x, []) := by
              intro hm
              cases hln : lineL R with
              | none => rw [hln] at hm; cases hm
              | some r' =>
                rw [hln] at hm
                have hm2 := Option.some.inj hm
                have hx : (fold u, d, ([] : List UInt8)) = x := congrArg Prod.fst hm2
                have hr : r' = r := congrArg Prod.snd hm2
                subst hx hr
                obtain ⟨e, f1, f2, f3, f4⟩ := line_is R r' hln
                refine ⟨_, u, whole e f1, by simp, rfl, hf, ?_⟩
                rw [hs e f4, f3]
                show (lineL e).map _ = _
                rw [f2]
                rfl
            cases ht : titleL (gapL 0 R) with
            | none => rw [ht] at h'; exact plain h'
            | some xm =>
              obtain ⟨tx, m⟩ := xm
              rw [ht] at h'
              simp only at h'
              split at h'
              · rename_i hlt
                cases hln : lineL ((gapL 0 R).drop m) with
                | none => rw [hln] at h'; exact plain h'
                | some r' =>
                  rw [hln] at h'
                  have hm2 := Option.some.inj h'
                  have hx : (fold u, d, tx) = x := congrArg Prod.fst hm2
                  have hr : r' = r := congrArg Prod.snd hm2
                  subst hx hr
                  obtain ⟨hm, z, Z, f1, f2, f3⟩ := title_is ht
                  obtain ⟨e, k1, k2, k3, k4⟩ := line_is _ r' hln
                  have hZ : (gapL 0 R).drop m = Z := by rw [f1, ← f2]; exact List.drop_left' rfl
                  rw [hZ] at k1
                  cases z with
                  | nil => simp at f2; omega
                  | cons a z' =>
                    obtain ⟨g2, j1, j2, j3⟩ := gap_is 0 R a (z' ++ Z) f1
                    have hg2 : g2 ≠ [] := by
                      intro eg
                      rw [eg] at j1
                      have := congrArg List.length j1
                      rw [f1] at hlt
                      simp at hlt this
                      omega
                    have hy : endsB (g2 ++ ((a :: z') ++ e)) := by
                      rcases j3 with h | h
                      · exact absurd h hg2
                      · exact h _
                    refine ⟨_, u, whole (g2 ++ ((a :: z') ++ e)) (by rw [j1, k1]; simp), by simp, rfl, hf, ?_⟩
                    rw [hs _ hy]
                    have hgap : gapL 0 (g2 ++ ((a :: z') ++ e)) = (a :: z') ++ e := j2 (z' ++ e)
                    rw [hgap, f3 e]
                    simp only
                    rw [if_pos (by
                      have : 0 < g2.length := List.length_pos_iff.2 hg2
                      simp; omega)]
                    have hdr : ((a :: z') ++ e).drop m = e := by rw [← f2]; exact List.drop_left' rfl
                    rw [hdr, k2]
              · exact plain h'
      · cases h'

end Go.Proofs.YtadghfgjdfgopaaDoor
