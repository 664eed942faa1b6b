/- What stands behind a label, a place, a title does not matter; over plain lists. -/
import Derived.Test.YtadghfgjdfgopaaDoorPlainLink
set_option linter.unusedVariables false
namespace Go.Proofs.YtadghfgjdfgopaaDoor

theorem scan_one {stop : UInt8} {bad : UInt8 → Bool} : ∀ y : List UInt8, scanU stop bad (stop :: y) = some y
  | [] => by simp [scanU]
  | c :: t => by simp [scanU]
theorem scan_two {stop : UInt8} {bad : UInt8 → Bool} {b c : UInt8} {y : List UInt8} (h1 : b ≠ stop) (h2 : bad b = false) (h3 : b = 92 ∧ markN c.toNat = true) : scanU stop bad (b :: c :: y) = scanU stop bad y := by
  simp only [scanU]
  rw [if_neg h1, if_neg (by rw [h2]; decide), if_pos h3]
theorem scan_next {stop : UInt8} {bad : UInt8 → Bool} {b c : UInt8} {y : List UInt8} (h1 : b ≠ stop) (h2 : bad b = false) (h3 : ¬ (b = 92 ∧ markN c.toNat = true)) : scanU stop bad (b :: c :: y) = scanU stop bad (c :: y) := by
  simp only [scanU]
  rw [if_neg h1, if_neg (by rw [h2]; decide), if_neg h3]

/-- What was gone over ends with the end's byte, and is the same whatever stands behind. -/
theorem scan_front (stop : UInt8) (bad : UInt8 → Bool) : ∀ (l r : List UInt8), scanU stop bad l = some r → ∃ p, l = (p ++ [stop]) ++ r ∧ ∀ y, scanU stop bad ((p ++ [stop]) ++ y) = some y
  | [], r, h => by cases h
  | [b], r, h => by
    simp only [scanU] at h
    split at h
    · rename_i hb
      cases h
      exact ⟨[], by rw [hb]; rfl, fun y => scan_one y⟩
    · cases h
  | b :: c :: t, r, h => by
    simp only [scanU] at h
    split at h
    · rename_i hb
      cases h
      exact ⟨[], by rw [hb]; rfl, fun y => scan_one y⟩
    · rename_i hb
      split at h
      · cases h
      · rename_i hbad
        have hbad' : bad b = false := by simpa using hbad
        split at h
        · rename_i he
          obtain ⟨p, e1, e2⟩ := scan_front stop bad t r h
          refine ⟨b :: c :: p, by rw [e1]; rfl, fun y => ?_⟩
          show scanU stop bad (b :: c :: ((p ++ [stop]) ++ y)) = some y
          rw [scan_two hb hbad' he]
          exact e2 y
        · rename_i he
          obtain ⟨p, e1, e2⟩ := scan_front stop bad (c :: t) r h
          refine ⟨b :: p, by rw [e1]; rfl, fun y => ?_⟩
          cases p with
          | nil =>
            have hc : c = stop := (List.cons.inj e1).1
            show scanU stop bad (b :: stop :: y) = some y
            rw [scan_next hb hbad' (by rw [← hc]; exact he)]
            exact scan_one y
          | cons d q =>
            have hc : c = d := (List.cons.inj e1).1
            show scanU stop bad (b :: d :: ((q ++ [stop]) ++ y)) = some y
            rw [scan_next hb hbad' (by rw [← hc]; exact he)]
            exact e2 y

theorem title_one {stop : UInt8} (e : Bool) : ∀ y : List UInt8, titleS stop e (stop :: y) = some y
  | [] => by simp [titleS]
  | c :: t => by simp [titleS]
theorem title_two {stop : UInt8} {e : Bool} {b c : UInt8} {y : List UInt8} (h1 : b ≠ stop) (h2 : ¬ ((b = 40 ∧ stop = 41) ∨ (b = 10 ∧ e = true))) (h3 : b = 92 ∧ markN c.toNat = true) : titleS stop e (b :: c :: y) = titleS stop false y := by
  simp only [titleS]
  rw [if_neg h1, if_neg h2, if_pos h3]
theorem title_next {stop : UInt8} {e : Bool} {b c : UInt8} {y : List UInt8} (h1 : b ≠ stop) (h2 : ¬ ((b = 40 ∧ stop = 41) ∨ (b = 10 ∧ e = true))) (h3 : ¬ (b = 92 ∧ markN c.toNat = true)) : titleS stop e (b :: c :: y) = titleS stop (if b = 10 then true else if b = 32 ∨ b = 9 then e else false) (c :: y) := by
  simp only [titleS]
  rw [if_neg h1, if_neg h2, if_neg h3]

theorem title_front (stop : UInt8) : ∀ (e : Bool) (l r : List UInt8), titleS stop e l = some r → ∃ p, l = (p ++ [stop]) ++ r ∧ ∀ y, titleS stop e ((p ++ [stop]) ++ y) = some y
  | e, [], r, h => by cases h
  | e, [b], r, h => by
    simp only [titleS] at h
    split at h
    · rename_i hb
      cases h
      exact ⟨[], by rw [hb]; rfl, fun y => title_one e y⟩
    · cases h
  | e, b :: c :: t, r, h => by
    simp only [titleS] at h
    split at h
    · rename_i hb
      cases h
      exact ⟨[], by rw [hb]; rfl, fun y => title_one e y⟩
    · rename_i hb
      split at h
      · cases h
      · rename_i hbad
        split at h
        · rename_i he
          obtain ⟨p, e1, e2⟩ := title_front stop false t r h
          refine ⟨b :: c :: p, by rw [e1]; rfl, fun y => ?_⟩
          show titleS stop e (b :: c :: ((p ++ [stop]) ++ y)) = some y
          rw [title_two hb hbad he]
          exact e2 y
        · rename_i he
          obtain ⟨p, e1, e2⟩ := title_front stop _ (c :: t) r h
          refine ⟨b :: p, by rw [e1]; rfl, fun y => ?_⟩
          cases p with
          | nil =>
            have hc : c = stop := (List.cons.inj e1).1
            show titleS stop e (b :: stop :: y) = some y
            rw [title_next hb hbad (by rw [← hc]; exact he)]
            exact title_one _ y
          | cons d q =>
            have hc : c = d := (List.cons.inj e1).1
            show titleS stop e (b :: d :: ((q ++ [stop]) ++ y)) = some y
            rw [title_next hb hbad (by rw [← hc]; exact he)]
            exact e2 y

/-- A byte at which a bare place ends, whatever is open. -/
def endsB (y : List UInt8) : Prop := y = [] ∨ ∃ b t, y = b :: t ∧ bareC b = false

theorem mark_bare {c : UInt8} (h : markN c.toNat = true) : bareC c = true := by
  unfold markN at h
  unfold bareC
  have := of_decide_eq_true h
  rw [Bool.and_eq_true]
  refine ⟨decide_eq_true (by omega), ?_⟩
  rw [bne_iff_ne]
  rintro rfl
  have h2 : (127 : UInt8).toNat = 127 := rfl
  omega

theorem bare_stop (o : Nat) : ∀ y : List UInt8, endsB y → bareS o y = some (y, o)
  | [], _ => rfl
  | [b], h => by
    rcases h with h | ⟨x, t, h, hb⟩
    · cases h
    · cases h
      simp only [bareS]
      rw [if_pos hb]
  | b :: c :: t, h => by
    rcases h with h | ⟨x, u, h, hb⟩
    · cases h
    · cases h
      simp only [bareS]
      rw [if_pos hb]

/-- One byte of a bare place, ahead of a byte with which it is no escape. -/
theorem bare_byte (o : Nat) {b : UInt8} (hb : bareC b = true) : ∀ y : List UInt8, (∀ c t, y = c :: t → ¬ (b = 92 ∧ markN c.toNat = true)) → bareS o (b :: y) = if b = 40 then (if 32 < o + 1 then none else bareS (o + 1) y) else if b = 41 then (if o = 0 then some (b :: y, 0) else bareS (o - 1) y) else bareS o y
  | [], _ => by
    simp only [bareS]
    rw [if_neg (by rw [hb]; decide)]
  | c :: t, h => by
    simp only [bareS]
    rw [if_neg (by rw [hb]; decide), if_neg (h c t rfl)]

theorem ends_esc {y : List UInt8} (h : endsB y) {b : UInt8} : ∀ c t, y = c :: t → ¬ (b = 92 ∧ markN c.toNat = true) := by
  intro c t e hc
  rcases h with h | ⟨x, u, h, hb⟩
  · rw [h] at e; cases e
  · rw [h] at e
    cases e
    rw [mark_bare hc.2] at hb
    cases hb

/-- A bare place is the same ahead of whatever ends it. -/
theorem bare_front : ∀ (o : Nat) (l r : List UInt8) (k : Nat), bareS o l = some (r, k) → ∃ p, l = p ++ r ∧ ∀ y, endsB y → bareS o (p ++ y) = some (y, k)
  | o, [], r, k, h => by
    cases h
    exact ⟨[], rfl, fun y hy => bare_stop o y hy⟩
  | o, [b], r, k, h => by
    cases hb : bareC b
    · rw [bare_stop o [b] (.inr ⟨b, [], rfl, hb⟩)] at h
      cases h
      exact ⟨[], rfl, fun y hy => bare_stop o y hy⟩
    · rw [bare_byte o hb [] (fun c t e => by cases e)] at h
      by_cases h40 : b = 40
      · rw [if_pos h40] at h
        by_cases h32 : 32 < o + 1
        · rw [if_pos h32] at h; cases h
        · rw [if_neg h32] at h
          cases h
          refine ⟨[b], rfl, fun y hy => ?_⟩
          show bareS o (b :: y) = _
          rw [bare_byte o hb y (ends_esc hy), if_pos h40, if_neg h32]
          exact bare_stop _ y hy
      · rw [if_neg h40] at h
        by_cases h41 : b = 41
        · rw [if_pos h41] at h
          by_cases h0 : o = 0
          · rw [if_pos h0] at h
            cases h
            refine ⟨[], rfl, fun y hy => ?_⟩
            rw [h0]
            exact bare_stop 0 y hy
          · rw [if_neg h0] at h
            cases h
            refine ⟨[b], rfl, fun y hy => ?_⟩
            show bareS o (b :: y) = _
            rw [bare_byte o hb y (ends_esc hy), if_neg h40, if_pos h41, if_neg h0]
            exact bare_stop _ y hy
        · rw [if_neg h41] at h
          cases h
          refine ⟨[b], rfl, fun y hy => ?_⟩
          show bareS o (b :: y) = _
          rw [bare_byte o hb y (ends_esc hy), if_neg h40, if_neg h41]
          exact bare_stop _ y hy
  | o, b :: c :: t, r, k, h => by
    cases hb : bareC b
    · rw [bare_stop o (b :: c :: t) (.inr ⟨b, _, rfl, hb⟩)] at h
      cases h
      exact ⟨[], rfl, fun y hy => bare_stop o y hy⟩
    · by_cases he : b = 92 ∧ markN c.toNat = true
      · have hstep : ∀ z, bareS o (b :: c :: z) = bareS o z := fun z => by
          simp only [bareS]
          rw [if_neg (by rw [hb]; decide), if_pos he]
        rw [hstep] at h
        obtain ⟨p, e1, e2⟩ := bare_front o t r k h
        refine ⟨b :: c :: p, by rw [e1]; rfl, fun y hy => ?_⟩
        show bareS o (b :: c :: (p ++ y)) = _
        rw [hstep]
        exact e2 y hy
      · -- the byte b, and then what was gone over behind it
        have hnext : ∀ (p y : List UInt8), c :: t = p ++ r → endsB y → ∀ d u, p ++ y = d :: u → ¬ (b = 92 ∧ markN d.toNat = true) := by
          intro p y hp hy d u e hd
          cases p with
          | nil => exact ends_esc hy d u e hd
          | cons x q =>
            have h1 : c = x := (List.cons.inj hp).1
            have h2 : x = d := (List.cons.inj e).1
            exact he (by rw [h1, h2]; exact hd)
        rw [bare_byte o hb (c :: t) (fun d u e hd => by cases e; exact he hd)] at h
        by_cases h40 : b = 40
        · rw [if_pos h40] at h
          by_cases h32 : 32 < o + 1
          · rw [if_pos h32] at h; cases h
          · rw [if_neg h32] at h
            obtain ⟨p, e1, e2⟩ := bare_front (o + 1) (c :: t) r k h
            refine ⟨b :: p, by rw [e1]; rfl, fun y hy => ?_⟩
            show bareS o (b :: (p ++ y)) = _
            rw [bare_byte o hb _ (hnext p y e1 hy), if_pos h40, if_neg h32]
            exact e2 y hy
        · rw [if_neg h40] at h
          by_cases h41 : b = 41
          · rw [if_pos h41] at h
            by_cases h0 : o = 0
            · rw [if_pos h0] at h
              cases h
              refine ⟨[], rfl, fun y hy => ?_⟩
              rw [h0]
              exact bare_stop 0 y hy
            · rw [if_neg h0] at h
              obtain ⟨p, e1, e2⟩ := bare_front (o - 1) (c :: t) r k h
              refine ⟨b :: p, by rw [e1]; rfl, fun y hy => ?_⟩
              show bareS o (b :: (p ++ y)) = _
              rw [bare_byte o hb _ (hnext p y e1 hy), if_neg h40, if_pos h41, if_neg h0]
              exact e2 y hy
          · rw [if_neg h41] at h
            obtain ⟨p, e1, e2⟩ := bare_front o (c :: t) r k h
            refine ⟨b :: p, by rw [e1]; rfl, fun y hy => ?_⟩
            show bareS o (b :: (p ++ y)) = _
            rw [bare_byte o hb _ (hnext p y e1 hy), if_neg h40, if_neg h41]
            exact e2 y hy

end Go.Proofs.YtadghfgjdfgopaaDoor
