/- Several texts in one. -/
import Derived.Test.YtjdijlaoeoikhaaGreatDoorG03
import Derived.Test.YtjdijlaoeoikhaaGreatDoorG01
import Derived.Test.YtjdijlaoeoikhaaGreatDoorG02
set_option linter.unusedVariables false
/- What stands behind a label, a place, a title does not matter; over plain lists. -/
namespace Go.Proofs.YtjdijlaoeoikhaaGreatDoor.lnk

theorem scan_one {stop : UInt8} {bad : UInt8 → Bool} : ∀ y : List UInt8, scanU stop bad (stop :: y) = some y
  | [] => by simp [scanU]
  | c :: t => by simp [scanU]
theorem scan_two {stop : UInt8} {bad : UInt8 → Bool} {b c : UInt8} {y : List UInt8} (h1 : b ≠ stop) (h2 : bad b = false) (h3 : b = 92 ∧ markN c.toNat = true) : scanU stop bad (b :: c :: y) = scanU stop bad y := by
  simp only [scanU]
  rw [if_neg h1, if_neg (by rw [h2]; decide), if_pos h3]
theorem scan_next {stop : UInt8} {bad : UInt8 → Bool} {b c : UInt8} {y : List UInt8} (h1 : b ≠ stop) (h2 : bad b = false) (h3 : ¬ (b = 92 ∧ markN c.toNat = true)) : scanU stop bad (b :: c :: y) = scanU stop bad (c :: y) := by
  simp only [scanU]
  rw [if_neg h1, if_neg (by rw [h2]; decide), if_neg h3]

/-- What was gone over ends with the end's byte, and is the same whatever stands behind. -/
theorem scan_front (stop : UInt8) (bad : UInt8 → Bool) : ∀ (l r : List UInt8), scanU stop bad l = some r → ∃ p, l = (p ++ [stop]) ++ r ∧ ∀ y, scanU stop bad ((p ++ [stop]) ++ y) = some y
  | [], r, h => by cases h
  | [b], r, h => by
    simp only [scanU] at h
    split at h
    · rename_i hb
      cases h
      exact ⟨[], by rw [hb]; rfl, fun y => scan_one y⟩
    · cases h
  | b :: c :: t, r, h => by
    simp only [scanU] at h
    split at h
    · rename_i hb
      cases h
      exact ⟨[], by rw [hb]; rfl, fun y => scan_one y⟩
    · rename_i hb
      split at h
      · cases h
      · rename_i hbad
        have hbad' : bad b = false := by simpa using hbad
        split at h
        · rename_i he
          obtain ⟨p, e1, e2⟩ := scan_front stop bad t r h
          refine ⟨b :: c :: p, by rw [e1]; rfl, fun y => ?_⟩
          show scanU stop bad (b :: c :: ((p ++ [stop]) ++ y)) = some y
          rw [scan_two hb hbad' he]
          exact e2 y
        · rename_i he
          obtain ⟨p, e1, e2⟩ := scan_front stop bad (c :: t) r h
          refine ⟨b :: p, by rw [e1]; rfl, fun y => ?_⟩
          cases p with
          | nil =>
            have hc : c = stop := (List.cons.inj e1).1
            show scanU stop bad (b :: stop :: y) = some y
            rw [scan_next hb hbad' (by rw [← hc]; exact he)]
            exact scan_one y
          | cons d q =>
            have hc : c = d := (List.cons.inj e1).1
            show scanU stop bad (b :: d :: ((q ++ [stop]) ++ y)) = some y
            rw [scan_next hb hbad' (by rw [← hc]; exact he)]
            exact e2 y

theorem title_one {stop : UInt8} (e : Bool) : ∀ y : List UInt8, titleS stop e (stop :: y) = some y
  | [] => by simp [titleS]
  | c :: t => by simp [titleS]
theorem title_two {stop : UInt8} {e : Bool} {b c : UInt8} {y : List UInt8} (h1 : b ≠ stop) (h2 : ¬ ((b = 40 ∧ stop = 41) ∨ (b = 10 ∧ e = true))) (h3 : b = 92 ∧ markN c.toNat = true) : titleS stop e (b :: c :: y) = titleS stop false y := by
  simp only [titleS]
  rw [if_neg h1, if_neg h2, if_pos h3]
theorem title_next {stop : UInt8} {e : Bool} {b c : UInt8} {y : List UInt8} (h1 : b ≠ stop) (h2 : ¬ ((b = 40 ∧ stop = 41) ∨ (b = 10 ∧ e = true))) (h3 : ¬ (b = 92 ∧ markN c.toNat = true)) : titleS stop e (b :: c :: y) = titleS stop (if b = 10 then true else if b = 32 ∨ b = 9 then e else false) (c :: y) := by
  simp only [titleS]
  rw [if_neg h1, if_neg h2, if_neg h3]

theorem title_front (stop : UInt8) : ∀ (e : Bool) (l r : List UInt8), titleS stop e l = some r → ∃ p, l = (p ++ [stop]) ++ r ∧ ∀ y, titleS stop e ((p ++ [stop]) ++ y) = some y
  | e, [], r, h => by cases h
  | e, [b], r, h => by
    simp only [titleS] at h
    split at h
    · rename_i hb
      cases h
      exact ⟨[], by rw [hb]; rfl, fun y => title_one e y⟩
    · cases h
  | e, b :: c :: t, r, h => by
    simp only [titleS] at h
    split at h
    · rename_i hb
      cases h
      exact ⟨[], by rw [hb]; rfl, fun y => title_one e y⟩
    · rename_i hb
      split at h
      · cases h
      · rename_i hbad
        split at h
        · rename_i he
          obtain ⟨p, e1, e2⟩ := title_front stop false t r h
          refine ⟨b :: c :: p, by rw [e1]; rfl, fun y => ?_⟩
          show titleS stop e (b :: c :: ((p ++ [stop]) ++ y)) = some y
          rw [title_two hb hbad he]
          exact e2 y
        · rename_i he
          obtain ⟨p, e1, e2⟩ := title_front stop _ (c :: t) r h
          refine ⟨b :: p, by rw [e1]; rfl, fun y => ?_⟩
          cases p with
          | nil =>
            have hc : c = stop := (List.cons.inj e1).1
            show titleS stop e (b :: stop :: y) = some y
            rw [title_next hb hbad (by rw [← hc]; exact he)]
            exact title_one _ y
          | cons d q =>
            have hc : c = d := (List.cons.inj e1).1
            show titleS stop e (b :: d :: ((q ++ [stop]) ++ y)) = some y
            rw [title_next hb hbad (by rw [← hc]; exact he)]
            exact e2 y

/-- A byte at which a bare place ends, whatever is open. -/
def endsB (y : List UInt8) : Prop := y = [] ∨ ∃ b t, y = b :: t ∧ bareC b = false

theorem mark_bare {c : UInt8} (h : markN c.toNat = true) : bareC c = true := by
  unfold markN at h
  unfold bareC
  have := of_decide_eq_true h
  rw [Bool.and_eq_true]
  refine ⟨decide_eq_true (by omega), ?_⟩
  rw [bne_iff_ne]
  rintro rfl
  have h2 : (127 : UInt8).toNat = 127 := rfl
  omega

theorem bare_stop (o : Nat) : ∀ y : List UInt8, endsB y → bareS o y = some (y, o)
  | [], _ => rfl
  | [b], h => by
    rcases h with h | ⟨x, t, h, hb⟩
    · cases h
    · cases h
      simp only [bareS]
      rw [if_pos hb]
  | b :: c :: t, h => by
    rcases h with h | ⟨x, u, h, hb⟩
    · cases h
    · cases h
      simp only [bareS]
      rw [if_pos hb]

/-- One byte of a bare place, ahead of a byte with which it is no escape. -/
theorem bare_byte (o : Nat) {b : UInt8} (hb : bareC b = true) : ∀ y : List UInt8, (∀ c t, y = c :: t → ¬ (b = 92 ∧ markN c.toNat = true)) → bareS o (b :: y) = if b = 40 then (if 32 < o + 1 then none else bareS (o + 1) y) else if b = 41 then (if o = 0 then some (b :: y, 0) else bareS (o - 1) y) else bareS o y
  | [], _ => by
    simp only [bareS]
    rw [if_neg (by rw [hb]; decide)]
  | c :: t, h => by
    simp only [bareS]
    rw [if_neg (by rw [hb]; decide), if_neg (h c t rfl)]

theorem ends_esc {y : List UInt8} (h : endsB y) {b : UInt8} : ∀ c t, y = c :: t → ¬ (b = 92 ∧ markN c.toNat = true) := by
  intro c t e hc
  rcases h with h | ⟨x, u, h, hb⟩
  · rw [h] at e; cases e
  · rw [h] at e
    cases e
    rw [mark_bare hc.2] at hb
    cases hb

/-- A bare place is the same ahead of whatever ends it. -/
theorem bare_front : ∀ (o : Nat) (l r : List UInt8) (k : Nat), bareS o l = some (r, k) → ∃ p, l = p ++ r ∧ ∀ y, endsB y → bareS o (p ++ y) = some (y, k)
  | o, [], r, k, h => by
    cases h
    exact ⟨[], rfl, fun y hy => bare_stop o y hy⟩
  | o, [b], r, k, h => by
    cases hb : bareC b
    · rw [bare_stop o [b] (.inr ⟨b, [], rfl, hb⟩)] at h
      cases h
      exact ⟨[], rfl, fun y hy => bare_stop o y hy⟩
    · rw [bare_byte o hb [] (fun c t e => by cases e)] at h
      by_cases h40 : b = 40
      · rw [if_pos h40] at h
        by_cases h32 : 32 < o + 1
        · rw [if_pos h32] at h; cases h
        · rw [if_neg h32] at h
          cases h
          refine ⟨[b], rfl, fun y hy => ?_⟩
          show bareS o (b :: y) = _
          rw [bare_byte o hb y (ends_esc hy), if_pos h40, if_neg h32]
          exact bare_stop _ y hy
      · rw [if_neg h40] at h
        by_cases h41 : b = 41
        · rw [if_pos h41] at h
          by_cases h0 : o = 0
          · rw [if_pos h0] at h
            cases h
            refine ⟨[], rfl, fun y hy => ?_⟩
            rw [h0]
            exact bare_stop 0 y hy
          · rw [if_neg h0] at h
            cases h
            refine ⟨[b], rfl, fun y hy => ?_⟩
            show bareS o (b :: y) = _
            rw [bare_byte o hb y (ends_esc hy), if_neg h40, if_pos h41, if_neg h0]
            exact bare_stop _ y hy
        · rw [if_neg h41] at h
          cases h
          refine ⟨[b], rfl, fun y hy => ?_⟩
          show bareS o (b :: y) = _
          rw [bare_byte o hb y (ends_esc hy), if_neg h40, if_neg h41]
          exact bare_stop _ y hy
  | o, b :: c :: t, r, k, h => by
    cases hb : bareC b
    · rw [bare_stop o (b :: c :: t) (.inr ⟨b, _, rfl, hb⟩)] at h
      cases h
      exact ⟨[], rfl, fun y hy => bare_stop o y hy⟩
    · by_cases he : b = 92 ∧ markN c.toNat = true
      · have hstep : ∀ z, bareS o (b :: c :: z) = bareS o z := fun z => by
          simp only [bareS]
          rw [if_neg (by rw [hb]; decide), if_pos he]
        rw [hstep] at h
        obtain ⟨p, e1, e2⟩ := bare_front o t r k h
        refine ⟨b :: c :: p, by rw [e1]; rfl, fun y hy => ?_⟩
        show bareS o (b :: c :: (p ++ y)) = _
        rw [hstep]
        exact e2 y hy
      · -- the byte b, and then what was gone over behind it
        have hnext : ∀ (p y : List UInt8), c :: t = p ++ r → endsB y → ∀ d u, p ++ y = d :: u → ¬ (b = 92 ∧ markN d.toNat = true) := by
          intro p y hp hy d u e hd
          cases p with
          | nil => exact ends_esc hy d u e hd
          | cons x q =>
            have h1 : c = x := (List.cons.inj hp).1
            have h2 : x = d := (List.cons.inj e).1
            exact he (by rw [h1, h2]; exact hd)
        rw [bare_byte o hb (c :: t) (fun d u e hd => by cases e; exact he hd)] at h
        by_cases h40 : b = 40
        · rw [if_pos h40] at h
          by_cases h32 : 32 < o + 1
          · rw [if_pos h32] at h; cases h
          · rw [if_neg h32] at h
            obtain ⟨p, e1, e2⟩ := bare_front (o + 1) (c :: t) r k h
            refine ⟨b :: p, by rw [e1]; rfl, fun y hy => ?_⟩
            show bareS o (b :: (p ++ y)) = _
            rw [bare_byte o hb _ (hnext p y e1 hy), if_pos h40, if_neg h32]
            exact e2 y hy
        · rw [if_neg h40] at h
          by_cases h41 : b = 41
          · rw [if_pos h41] at h
            by_cases h0 : o = 0
            · rw [if_pos h0] at h
              cases h
              refine ⟨[], rfl, fun y hy => ?_⟩
              rw [h0]
              exact bare_stop 0 y hy
            · rw [if_neg h0] at h
              obtain ⟨p, e1, e2⟩ := bare_front (o - 1) (c :: t) r k h
              refine ⟨b :: p, by rw [e1]; rfl, fun y hy => ?_⟩
              show bareS o (b :: (p ++ y)) = _
              rw [bare_byte o hb _ (hnext p y e1 hy), if_neg h40, if_pos h41, if_neg h0]
              exact e2 y hy
          · rw [if_neg h41] at h
            obtain ⟨p, e1, e2⟩ := bare_front o (c :: t) r k h
            refine ⟨b :: p, by rw [e1]; rfl, fun y hy => ?_⟩
            show bareS o (b :: (p ++ y)) = _
            rw [bare_byte o hb _ (hnext p y e1 hy), if_neg h40, if_neg h41]
            exact e2 y hy

end Go.Proofs.YtjdijlaoeoikhaaGreatDoor.lnk

/- Labels, places and titles are the same whatever stands behind; a definition is the same where the text ends behind it; over plain lists. -/
namespace Go.Proofs.YtjdijlaoeoikhaaGreatDoor.lnk

theorem take_front {p r : List UInt8} : (p ++ r).take ((p ++ r).length - r.length) = p := by
  rw [List.length_append, Nat.add_sub_cancel, List.take_left' rfl]
theorem take_inner {p r : List UInt8} {x : UInt8} : ((p ++ [x]) ++ r).take (((p ++ [x]) ++ r).length - (r.length + 1)) = p := by
  have : ((p ++ [x]) ++ r).length - (r.length + 1) = p.length := by simp <;> omega
  rw [this, List.append_assoc, List.take_left' rfl]

/-- A label: what it is made of, and that what stands behind does not matter. -/
theorem label_is {s : List UInt8} {u : List UInt8} {i : Nat} (h : labelL s = some (u, i)) :
    i = u.length + 2 ∧ fold u ≠ [] ∧ u.length ≤ 999 ∧ ∃ r, s = (91 :: u ++ [93]) ++ r ∧ ∀ y, labelL ((91 :: u ++ [93]) ++ y) = some (u, i) := by
  cases s with
  | nil => cases h
  | cons a t =>
    simp only [labelL] at h
    split at h
    · rename_i ha
      subst ha
      cases hs : scanU 93 (· == 91) t with
      | none => rw [hs] at h; cases h
      | some r =>
        rw [hs] at h
        obtain ⟨p, e1, e2⟩ := scan_front _ _ t r hs
        have hl : t.length - (r.length + 1) = p.length := by rw [e1]; simp <;> omega
        have ht : t.take (t.length - (r.length + 1)) = p := by rw [e1]; exact take_inner
        simp only at h
        rw [ht, hl] at h
        split at h
        · rename_i hc
          have hh := Option.some.inj h
          have h1 : p = u := congrArg Prod.fst hh
          have h2 : t.length - r.length + 1 = i := congrArg Prod.snd hh
          subst h1 h2
          have hi : t.length - r.length + 1 = p.length + 2 := by rw [e1]; simp <;> omega
          refine ⟨hi, hc.2.2, hc.2.1, r, by rw [e1]; rfl, fun y => ?_⟩
          show labelL (91 :: ((p ++ [93]) ++ y)) = _
          simp only [labelL, if_true]
          rw [e2 y]
          have hl2 : ((p ++ [93]) ++ y).length - (y.length + 1) = p.length := by simp <;> omega
          have ht2 : ((p ++ [93]) ++ y).take (((p ++ [93]) ++ y).length - (y.length + 1)) = p := take_inner
          simp only
          rw [ht2, hl2, if_pos hc, hi]
          congr 2
          simp <;> omega
        · cases h
    · cases h

/-- A title likewise. -/
theorem title_is {s : List UInt8} {x : List UInt8} {m : Nat} (h : titleL s = some (x, m)) :
    2 ≤ m ∧ ∃ q r, s = q ++ r ∧ q.length = m ∧ ∀ y, titleL (q ++ y) = some (x, m) := by
  cases s with
  | nil => cases h
  | cons a t =>
    simp only [titleL] at h
    split at h
    · rename_i ha
      cases hs : titleS (if a = 40 then 41 else a) false t with
      | none => rw [hs] at h; cases h
      | some r =>
        rw [hs] at h
        obtain ⟨p, e1, e2⟩ := title_front _ _ t r hs
        have hi : t.length - r.length + 1 = p.length + 2 := by rw [e1]; simp <;> omega
        have ht : t.take (t.length - (r.length + 1)) = p := by rw [e1]; exact take_inner
        simp only at h
        rw [ht, hi] at h
        cases h
        refine ⟨by omega, a :: (p ++ [if a = 40 then 41 else a]), r, by rw [e1]; rfl, by simp, fun y => ?_⟩
        show titleL (a :: ((p ++ [if a = 40 then 41 else a]) ++ y)) = _
        simp only [titleL]
        rw [if_pos ha, e2 y]
        simp only
        rw [take_inner]
        congr 2
        simp <;> omega
    · cases h

/-- A place likewise, ahead of what ends it. -/
theorem dest_is {s : List UInt8} {d : List UInt8} {k : Nat} (h : destL s = some (d, k)) :
    0 < k ∧ ∃ q r, s = q ++ r ∧ q.length = k ∧ ∀ y, endsB y → destL (q ++ y) = some (d, k) := by
  cases s with
  | nil => cases h
  | cons a t =>
    simp only [destL] at h
    split at h
    · rename_i ha
      subst ha
      cases hs : scanU 62 (fun b => b == 60 || b == 10) t with
      | none => rw [hs] at h; cases h
      | some r =>
        rw [hs] at h
        obtain ⟨p, e1, e2⟩ := scan_front _ _ t r hs
        have hi : t.length - r.length + 1 = p.length + 2 := by rw [e1]; simp <;> omega
        have ht : t.take (t.length - (r.length + 1)) = p := by rw [e1]; exact take_inner
        simp only at h
        rw [ht, hi] at h
        cases h
        refine ⟨by omega, 60 :: (p ++ [62]), r, by rw [e1]; rfl, by simp, fun y _ => ?_⟩
        show destL (60 :: ((p ++ [62]) ++ y)) = _
        simp only [destL, if_true]
        rw [e2 y]
        simp only
        rw [take_inner]
        congr 2
        simp <;> omega
    · rename_i ha
      cases hs : bareS 0 (a :: t) with
      | none => rw [hs] at h; cases h
      | some ro =>
        obtain ⟨r, o⟩ := ro
        rw [hs] at h
        simp only at h
        split at h
        · cases h
        · rename_i hc
          obtain ⟨p, e1, e2⟩ := bare_front 0 (a :: t) r o hs
          have hl : (a :: t).length - r.length = p.length := by rw [e1]; simp
          have ht : (a :: t).take ((a :: t).length - r.length) = p := by rw [e1]; exact take_front
          rw [ht, hl] at h
          cases h
          have hp : p ≠ [] := by
            intro e
            rw [e] at e1
            exact hc (.inl (by rw [e1]; rfl))
          have h0 : 0 < p.length := List.length_pos_iff.2 hp
          refine ⟨h0, p, r, e1, rfl, fun y hy => ?_⟩
          cases p with
          | nil => exact absurd rfl hp
          | cons b q =>
            have hab : a = b := (List.cons.inj e1).1
            show destL (b :: (q ++ y)) = _
            simp only [destL]
            rw [if_neg (by rw [← hab]; exact ha)]
            have := e2 y hy
            rw [show (b :: q) ++ y = b :: (q ++ y) from rfl] at this
            rw [this]
            simp only
            rw [if_neg (by rintro (h | h); (· simp at h; omega); (· exact hc (.inr h)))]
            have hl2 : (b :: (q ++ y)).length - y.length = (b :: q).length := by simp <;> omega
            have ht2 : (b :: (q ++ y)).take ((b :: q).length) = b :: q := by
              show ((b :: q) ++ y).take (b :: q).length = b :: q
              exact List.take_left' rfl
            rw [hl2, ht2]

end Go.Proofs.YtjdijlaoeoikhaaGreatDoor.lnk

/- A definition is the same where the text ends behind it; over plain lists. -/
namespace Go.Proofs.YtjdijlaoeoikhaaGreatDoor.lnk

theorem bare_blank {b : UInt8} (h : b = 32 ∨ b = 9 ∨ b = 10) : bareC b = false := by
  rcases h with rfl | rfl | rfl <;> decide

theorem line_is : ∀ (l r : List UInt8), lineL l = some r → ∃ e, l = e ++ r ∧ lineL e = some [] ∧ gapL 0 e = [] ∧ endsB e
  | [], r, h => by
    cases h
    exact ⟨[], rfl, rfl, rfl, .inl rfl⟩
  | b :: t, r, h => by
    simp only [lineL] at h
    split at h
    · rename_i hb
      obtain ⟨e, e1, e2, e3, _⟩ := line_is t r h
      refine ⟨b :: e, by rw [e1]; rfl, ?_, ?_, .inr ⟨b, e, rfl, bare_blank (by rcases hb with h | h; exact .inl h; exact .inr (.inl h))⟩⟩
      · simp only [lineL]; rw [if_pos hb]; exact e2
      · simp only [gapL]; rw [if_pos hb]; exact e3
    · rename_i hb
      split at h
      · rename_i h10
        cases h
        refine ⟨[b], rfl, ?_, ?_, .inr ⟨b, [], rfl, bare_blank (.inr (.inr h10))⟩⟩
        · simp only [lineL]; rw [if_neg hb, if_pos h10]
        · simp only [gapL]; rw [if_neg hb, if_pos ⟨h10, trivial⟩]
      · cases h

theorem gap_is : ∀ (n : Nat) (l : List UInt8) (b : UInt8) (w : List UInt8), gapL n l = b :: w → ∃ g, l = g ++ b :: w ∧ (∀ v, gapL n (g ++ b :: v) = b :: v) ∧ (g = [] ∨ ∀ v, endsB (g ++ v))
  | n, [], b, w, h => by cases h
  | n, x :: t, b, w, h => by
    simp only [gapL] at h
    split at h
    · rename_i hx
      obtain ⟨g, e1, e2, _⟩ := gap_is n t b w h
      refine ⟨x :: g, by rw [e1]; rfl, fun v => ?_, .inr fun v => .inr ⟨x, g ++ v, rfl, bare_blank (by rcases hx with h | h; exact .inl h; exact .inr (.inl h))⟩⟩
      show gapL n (x :: (g ++ b :: v)) = _
      simp only [gapL]
      rw [if_pos hx]
      exact e2 v
    · rename_i hx
      split at h
      · rename_i h10
        obtain ⟨g, e1, e2, _⟩ := gap_is 1 t b w h
        refine ⟨x :: g, by rw [e1]; rfl, fun v => ?_, .inr fun v => .inr ⟨x, g ++ v, rfl, bare_blank (.inr (.inr h10.1))⟩⟩
        show gapL n (x :: (g ++ b :: v)) = _
        simp only [gapL]
        rw [if_neg hx, if_pos h10]
        exact e2 v
      · rename_i h10
        obtain ⟨rfl, rfl⟩ := List.cons.inj h
        refine ⟨[], rfl, fun v => ?_, .inl rfl⟩
        show gapL n (x :: v) = _
        simp only [gapL]
        rw [if_neg hx, if_neg h10]

theorem three_is : ∀ (n : Nat) (l : List UInt8) (b : UInt8) (w : List UInt8), b ≠ 32 → threeL n l = b :: w → ∃ g, l = g ++ b :: w ∧ ∀ v, threeL n (g ++ b :: v) = b :: v
  | 0, l, b, w, hb, h => ⟨[], h, fun v => rfl⟩
  | n + 1, [], b, w, hb, h => by cases h
  | n + 1, x :: t, b, w, hb, h => by
    simp only [threeL] at h
    split at h
    · rename_i hx
      obtain ⟨g, e1, e2⟩ := three_is n t b w hb h
      refine ⟨x :: g, by rw [e1]; rfl, fun v => ?_⟩
      show threeL (n + 1) (x :: (g ++ b :: v)) = _
      simp only [threeL]
      rw [if_pos hx]
      exact e2 v
    · rename_i hx
      obtain ⟨rfl, rfl⟩ := List.cons.inj h
      refine ⟨[], rfl, fun v => ?_⟩
      show threeL (n + 1) (x :: v) = _
      simp only [threeL]
      rw [if_neg hx]

/-- What a definition tells, out of its parts. -/
theorem define_of {g0 u g q y : List UInt8} {d : List UInt8} {b : UInt8} {w : List UInt8} (h0 : ∀ v, threeL 3 (g0 ++ 91 :: v) = 91 :: v) (hl : ∀ v, labelL ((91 :: u ++ [93]) ++ v) = some (u, u.length + 2)) (hq : q = b :: w) (hg : ∀ v, gapL 0 (g ++ b :: v) = b :: v) (hd : destL (q ++ y) = some (d, q.length)) :
    defineL (g0 ++ ((91 :: u ++ [93]) ++ (58 :: (g ++ (q ++ y))))) =
      match titleL (gapL 0 y) with
      | some (x, m) => if (gapL 0 y).length < y.length then
          match lineL ((gapL 0 y).drop m) with
          | some r => some ((fold u, d, x), r)
          | none => (lineL y).map fun r => ((fold u, d, []), r)
        else (lineL y).map fun r => ((fold u, d, []), r)
      | none => (lineL y).map fun r => ((fold u, d, []), r) := by
  have e0 : threeL 3 (g0 ++ ((91 :: u ++ [93]) ++ (58 :: (g ++ (q ++ y))))) = (91 :: u ++ [93]) ++ (58 :: (g ++ (q ++ y))) := h0 _
  have e1 : ((91 :: u ++ [93]) ++ (58 :: (g ++ (q ++ y)))).drop (u.length + 2) = 58 :: (g ++ (q ++ y)) := List.drop_left' (by simp)
  have e2 : gapL 0 (g ++ (q ++ y)) = q ++ y := by rw [hq]; exact hg (w ++ y)
  have e3 : (q ++ y).drop q.length = y := List.drop_left' rfl
  unfold defineL
  rw [e0, hl]
  simp only [e1]
  rw [if_pos trivial, e2, hd]
  simp only [e3]
  cases titleL (gapL 0 y) with
  | none => rfl
  | some xm =>
    obtain ⟨x, m⟩ := xm
    simp only
    cases lineL ((gapL 0 y).drop m) <;> rfl

/-- A definition: the same where the text ends behind it. -/
theorem define_cut {s : List UInt8} {x : List UInt8 × List UInt8 × List UInt8} {r : List UInt8} (h : defineL s = some (x, r)) :
    ∃ p u, s = p ++ r ∧ p ≠ [] ∧ x.1 = fold u ∧ fold u ≠ [] ∧ defineL p = some (x, []) := by
  have h' := h
  unfold defineL at h'
  cases hl : labelL (threeL 3 s) with
  | none => rw [hl] at h'; cases h'
  | some un =>
    obtain ⟨u, n⟩ := un
    rw [hl] at h'
    simp only at h'
    obtain ⟨hn, hf, _, r1, e1, l1⟩ := label_is hl
    subst hn
    obtain ⟨g0, e0, h0⟩ := three_is 3 s 91 ((u ++ [93]) ++ r1) (by decide) (by rw [e1]; rfl)
    rw [e1, List.drop_left' (by simp)] at h'
    cases r1 with
    | nil => cases h'
    | cons c t =>
      simp only at h'
      split at h'
      · rename_i h58
        subst h58
        cases hd : destL (gapL 0 t) with
        | none => rw [hd] at h'; cases h'
        | some dk =>
          obtain ⟨d, k⟩ := dk
          obtain ⟨hk, q, R, e2, hql, d1⟩ := dest_is hd
          cases q with
          | nil => simp at hql; omega
          | cons b w =>
            obtain ⟨g, e3, g1, _⟩ := gap_is 0 t b (w ++ R) e2
            have hs : ∀ y, endsB y → defineL (g0 ++ ((91 :: u ++ [93]) ++ (58 :: (g ++ ((b :: w) ++ y))))) = _ := fun y hy => define_of h0 l1 rfl g1 (by rw [hql]; exact d1 y hy)
            rw [hd] at h'
            simp only at h'
            have hR : (gapL 0 t).drop k = R := by rw [e2, ← hql]; exact List.drop_left' rfl
            rw [hR] at h'
            -- what a part of R makes
            have whole : ∀ e, R = e ++ r → s = (g0 ++ ((91 :: u ++ [93]) ++ (58 :: (g ++ ((b :: w) ++ e))))) ++ r := by
              intro e he
              rw [e0, e3, he]
              simp
            have plain : (lineL R).map (fun r => ((fold u, d, ([] : List UInt8)), r)) = some (x, r) → ∃ p u, s = p ++ r ∧ p ≠ [] ∧ x.1 = fold u ∧ fold u ≠ [] ∧ defineL p = some (x, []) := by
              intro hm
              cases hln : lineL R with
              | none => rw [hln] at hm; cases hm
              | some r' =>
                rw [hln] at hm
                have hm2 := Option.some.inj hm
                have hx : (fold u, d, ([] : List UInt8)) = x := congrArg Prod.fst hm2
                have hr : r' = r := congrArg Prod.snd hm2
                subst hx hr
                obtain ⟨e, f1, f2, f3, f4⟩ := line_is R r' hln
                refine ⟨_, u, whole e f1, by simp, rfl, hf, ?_⟩
                rw [hs e f4, f3]
                show (lineL e).map _ = _
                rw [f2]
                rfl
            cases ht : titleL (gapL 0 R) with
            | none => rw [ht] at h'; exact plain h'
            | some xm =>
              obtain ⟨tx, m⟩ := xm
              rw [ht] at h'
              simp only at h'
              split at h'
              · rename_i hlt
                cases hln : lineL ((gapL 0 R).drop m) with
                | none => rw [hln] at h'; exact plain h'
                | some r' =>
                  rw [hln] at h'
                  have hm2 := Option.some.inj h'
                  have hx : (fold u, d, tx) = x := congrArg Prod.fst hm2
                  have hr : r' = r := congrArg Prod.snd hm2
                  subst hx hr
                  obtain ⟨hm, z, Z, f1, f2, f3⟩ := title_is ht
                  obtain ⟨e, k1, k2, k3, k4⟩ := line_is _ r' hln
                  have hZ : (gapL 0 R).drop m = Z := by rw [f1, ← f2]; exact List.drop_left' rfl
                  rw [hZ] at k1
                  cases z with
                  | nil => simp at f2; omega
                  | cons a z' =>
                    obtain ⟨g2, j1, j2, j3⟩ := gap_is 0 R a (z' ++ Z) f1
                    have hg2 : g2 ≠ [] := by
                      intro eg
                      rw [eg] at j1
                      have := congrArg List.length j1
                      rw [f1] at hlt
                      simp at hlt this
                      omega
                    have hy : endsB (g2 ++ ((a :: z') ++ e)) := by
                      rcases j3 with h | h
                      · exact absurd h hg2
                      · exact h _
                    refine ⟨_, u, whole (g2 ++ ((a :: z') ++ e)) (by rw [j1, k1]; simp), by simp, rfl, hf, ?_⟩
                    rw [hs _ hy]
                    have hgap : gapL 0 (g2 ++ ((a :: z') ++ e)) = (a :: z') ++ e := j2 (z' ++ e)
                    rw [hgap, f3 e]
                    simp only
                    rw [if_pos (by
                      have : 0 < g2.length := List.length_pos_iff.2 hg2
                      simp; omega)]
                    have hdr : ((a :: z') ++ e).drop m = e := by rw [← f2]; exact List.drop_left' rfl
                    rw [hdr, k2]
              · exact plain h'
      · cases h'

end Go.Proofs.YtjdijlaoeoikhaaGreatDoor.lnk

/- Texts with a backslash ahead of each mark: as labels, places and titles; over plain lists. -/
namespace Go.Proofs.YtjdijlaoeoikhaaGreatDoor.lnk

def mk (c : UInt8) : Bool := markN c.toNat

theorem mk_92 : mk 92 = true := by decide

/-- The bytes that end or bar a text are marks, but the line feed. -/
def Bars (stop : UInt8) (bad : UInt8 → Bool) : Prop := mk stop = true ∧ stop ≠ 92 ∧ bad 92 = false ∧ ∀ c, mk c = false → c ≠ 10 → bad c = false

theorem ne_of_mk {b c : UInt8} (hb : mk b = false) (hc : mk c = true) : b ≠ c := by
  rintro rfl
  rw [hb] at hc
  cases hc

theorem scan_esc {stop : UInt8} {bad : UInt8 → Bool} (hB : Bars stop bad) : ∀ (w z : List UInt8), (∀ c ∈ w, c ≠ 10) → (z = [] ∨ ∃ y, z = stop :: y) → scanU stop bad (w.flatMap markB' ++ z) = scanU stop bad z
  | [], z, _, _ => rfl
  | c :: t, z, hw, hz => by
    have ht := scan_esc hB t z (fun x hx => hw x (List.mem_cons_of_mem _ hx)) hz
    rw [List.flatMap_cons, List.append_assoc]
    cases hm : mk c
    · have h1 : markB' c = [c] := by unfold markB'; rw [if_neg (by intro h; rw [show mk c = true from h] at hm; cases hm)]
      rw [h1]
      have hcs := ne_of_mk hm hB.1
      have hcb := hB.2.2.2 c hm (hw c (by simp))
      have hc92 := ne_of_mk hm mk_92
      cases hr : t.flatMap markB' ++ z with
      | nil =>
        rw [hr] at ht
        show scanU stop bad [c] = _
        rw [← ht]
        simp only [scanU]
        rw [if_neg hcs]
      | cons d u =>
        show scanU stop bad (c :: d :: u) = _
        rw [scan_next hcs hcb (fun h => hc92 h.1), ← hr]
        exact ht
    · have h1 : markB' c = [92, c] := by unfold markB'; rw [if_pos (show markN c.toNat = true from hm)]
      rw [h1]
      show scanU stop bad (92 :: c :: (t.flatMap markB' ++ z)) = _
      rw [scan_two (Ne.symm hB.2.1) hB.2.2.1 ⟨rfl, hm⟩]
      exact ht

theorem title_esc {stop : UInt8} (hs : mk stop = true) (h92 : stop ≠ 92) : ∀ (w z : List UInt8), (∀ c ∈ w, c ≠ 10) → (z = [] ∨ ∃ y, z = stop :: y) → titleS stop false (w.flatMap markB' ++ z) = titleS stop false z
  | [], z, _, _ => rfl
  | c :: t, z, hw, hz => by
    have ht := title_esc hs h92 t z (fun x hx => hw x (List.mem_cons_of_mem _ hx)) hz
    rw [List.flatMap_cons, List.append_assoc]
    cases hm : mk c
    · have h1 : markB' c = [c] := by unfold markB'; rw [if_neg (by intro h; rw [show mk c = true from h] at hm; cases hm)]
      rw [h1]
      have hcs := ne_of_mk hm hs
      have hc10 := hw c (by simp)
      have hc92 := ne_of_mk hm mk_92
      have hc40 : c ≠ 40 := ne_of_mk hm (by decide)
      cases hr : t.flatMap markB' ++ z with
      | nil =>
        rw [hr] at ht
        show titleS stop false [c] = _
        rw [← ht]
        simp only [titleS]
        rw [if_neg hcs]
      | cons d u =>
        show titleS stop false (c :: d :: u) = _
        rw [title_next hcs (by rintro (⟨h, _⟩ | ⟨h, _⟩); exact hc40 h; exact hc10 h) (fun h => hc92 h.1), if_neg hc10, ite_self, ← hr]
        exact ht
    · have h1 : markB' c = [92, c] := by unfold markB'; rw [if_pos (show markN c.toNat = true from hm)]
      rw [h1]
      show titleS stop false (92 :: c :: (t.flatMap markB' ++ z)) = _
      rw [title_two (Ne.symm h92) (by rintro (⟨h, _⟩ | ⟨h, _⟩) <;> exact absurd h (by decide)) ⟨rfl, hm⟩]
      exact ht

/-- Between the signs. -/
theorem title_esc_is {a : UInt8} (ha : a = 34 ∨ a = 39 ∨ a = 40) (w y : List UInt8) (hw : ∀ c ∈ w, c ≠ 10) : titleL (a :: (w.flatMap markB' ++ [if a = 40 then 41 else a]) ++ y) = some (w, (w.flatMap markB').length + 2) := by
  have hs : mk (if a = 40 then 41 else a) = true := by rcases ha with rfl | rfl | rfl <;> decide
  have h92 : (if a = 40 then 41 else a) ≠ 92 := by rcases ha with rfl | rfl | rfl <;> decide
  have h := title_esc hs h92 w ((if a = 40 then 41 else a) :: y) hw (.inr ⟨y, rfl⟩)
  rw [title_one] at h
  show titleL (a :: ((w.flatMap markB' ++ [if a = 40 then 41 else a]) ++ y)) = _
  simp only [titleL]
  rw [if_pos ha, List.append_assoc]
  show (match titleS (if a = 40 then 41 else a) false (w.flatMap markB' ++ (if a = 40 then 41 else a) :: y) with | none => none | some r => _) = _
  rw [h]
  simp only
  have ht : (w.flatMap markB' ++ ([if a = 40 then 41 else a] ++ y)).take ((w.flatMap markB' ++ ([if a = 40 then 41 else a] ++ y)).length - (y.length + 1)) = w.flatMap markB' := by
    rw [← List.append_assoc]
    exact take_inner
  rw [ht, unesc_marks]
  congr 2
  simp <;> omega

theorem bars_angle : Bars 62 (fun b => b == 60 || b == 10) := by
  refine ⟨by decide, by decide, by decide, fun c hc h10 => ?_⟩
  have h60 : c ≠ 60 := ne_of_mk hc (by decide)
  simp [h60, h10]
theorem bars_label : Bars 93 (· == 91) := by
  refine ⟨by decide, by decide, by decide, fun c hc h10 => ?_⟩
  have h91 : c ≠ 91 := ne_of_mk hc (by decide)
  simp [h91]

theorem dest_esc_is (w y : List UInt8) (hw : ∀ c ∈ w, c ≠ 10) : destL (60 :: (w.flatMap markB' ++ [62]) ++ y) = some (w, (w.flatMap markB').length + 2) := by
  have h := scan_esc bars_angle w (62 :: y) hw (.inr ⟨y, rfl⟩)
  rw [scan_one] at h
  show destL (60 :: ((w.flatMap markB' ++ [62]) ++ y)) = _
  simp only [destL, if_true]
  rw [List.append_assoc]
  show (match scanU 62 _ (w.flatMap markB' ++ 62 :: y) with | none => none | some r => _) = _
  rw [h]
  simp only
  have ht : (w.flatMap markB' ++ ([62] ++ y)).take ((w.flatMap markB' ++ ([62] ++ y)).length - (y.length + 1)) = w.flatMap markB' := by
    rw [← List.append_assoc]
    exact take_inner
  rw [ht, unesc_marks]
  congr 2
  simp <;> omega

/-- A text that begins with a letter is not blank. -/
theorem foldS_ne : ∀ (rs out : List Nat) (gap : Bool), out ≠ [] → foldS out gap rs ≠ []
  | [], out, gap, h => h
  | r :: rs, out, gap, h => by
    cases hr : spaceN r
    · rw [foldS_ch _ _ _ _ hr]
      exact foldS_ne rs _ _ (by intro e; exact h (List.append_eq_nil_iff.1 (List.append_eq_nil_iff.1 e).1).1)
    · rw [foldS_sp _ _ _ _ hr]
      exact foldS_ne rs _ _ h
theorem fold_letter {c : UInt8} (h1 : 97 ≤ c.toNat) (h2 : c.toNat ≤ 122) (t : List UInt8) : fold (c :: t) ≠ [] := by
  unfold fold
  rw [runes_one c t (by omega)]
  have hs : spaceN c.toNat = false := by
    unfold spaceN
    exact decide_eq_false (by omega)
  rw [foldS_ch _ _ _ _ hs]
  have hne : foldS ([] ++ gapR false [] ++ smallR c.toNat) false (runes t) ≠ [] := by
    apply foldS_ne
    intro e
    have := congrArg List.length e
    have h3 := (smallR_len c.toNat).1
    unfold smallR at this
    split at this <;> simp [gapR] at this
  intro e
  cases hf : foldS ([] ++ gapR false [] ++ smallR c.toNat) false (runes t) with
  | nil => exact hne hf
  | cons a b =>
    rw [hf, encAll_cons] at e
    exact enc_ne a _ e

theorem label_esc_is (w y : List UInt8) (hw : ∀ c ∈ w, c ≠ 10) (hlen : (w.flatMap markB').length + 1 ≤ 999) : labelL (91 :: (108 :: w.flatMap markB' ++ [93]) ++ y) = some (108 :: w.flatMap markB', (w.flatMap markB').length + 3) := by
  have h : scanU 93 (· == 91) ((108 :: w).flatMap markB' ++ 93 :: y) = some y := by
    rw [scan_esc bars_label (108 :: w) (93 :: y) (by intro c hc; rcases List.mem_cons.1 hc with rfl | h; decide; exact hw c h) (.inr ⟨y, rfl⟩)]
    exact scan_one y
  have e108 : (108 :: w).flatMap markB' = 108 :: w.flatMap markB' := rfl
  rw [e108] at h
  show labelL (91 :: ((108 :: w.flatMap markB' ++ [93]) ++ y)) = _
  simp only [labelL, if_true]
  have hcat : (108 :: w.flatMap markB' ++ [93]) ++ y = 108 :: w.flatMap markB' ++ 93 :: y := by simp
  rw [hcat, h]
  simp only
  have hl : (108 :: w.flatMap markB' ++ 93 :: y).length - (y.length + 1) = (w.flatMap markB').length + 1 := by simp <;> omega
  have ht : (108 :: w.flatMap markB' ++ 93 :: y).take ((108 :: w.flatMap markB' ++ 93 :: y).length - (y.length + 1)) = 108 :: w.flatMap markB' := by
    rw [hl]
    exact List.take_left' (by simp)
  rw [ht, hl, if_pos ⟨by omega, hlen, fold_letter (by decide) (by decide) _⟩]
  congr 2
  simp <;> omega
theorem label_esc_long (w y : List UInt8) (hw : ∀ c ∈ w, c ≠ 10) (hlen : 999 < (w.flatMap markB').length + 1) : labelL (91 :: (108 :: w.flatMap markB' ++ [93]) ++ y) = none := by
  have h : scanU 93 (· == 91) ((108 :: w).flatMap markB' ++ 93 :: y) = some y := by
    rw [scan_esc bars_label (108 :: w) (93 :: y) (by intro c hc; rcases List.mem_cons.1 hc with rfl | h; decide; exact hw c h) (.inr ⟨y, rfl⟩)]
    exact scan_one y
  have e108 : (108 :: w).flatMap markB' = 108 :: w.flatMap markB' := rfl
  rw [e108] at h
  show labelL (91 :: ((108 :: w.flatMap markB' ++ [93]) ++ y)) = _
  simp only [labelL, if_true]
  have hcat : (108 :: w.flatMap markB' ++ [93]) ++ y = 108 :: w.flatMap markB' ++ 93 :: y := by simp
  rw [hcat, h]
  simp only
  have hl : (108 :: w.flatMap markB' ++ 93 :: y).length - (y.length + 1) = (w.flatMap markB').length + 1 := by simp <;> omega
  rw [hl, if_neg (by rintro ⟨_, h, _⟩; omega)]
theorem label_esc_open (w : List UInt8) (hw : ∀ c ∈ w, c ≠ 10) : labelL (91 :: 108 :: w.flatMap markB') = none := by
  have h : scanU 93 (· == 91) ((108 :: w).flatMap markB' ++ []) = scanU 93 (· == 91) [] := scan_esc bars_label (108 :: w) [] (by intro c hc; rcases List.mem_cons.1 hc with rfl | h; decide; exact hw c h) (.inl rfl)
  rw [List.append_nil] at h
  have e108 : (108 :: w).flatMap markB' = 108 :: w.flatMap markB' := rfl
  rw [e108] at h
  simp only [labelL, if_true]
  rw [h]
  rfl

end Go.Proofs.YtjdijlaoeoikhaaGreatDoor.lnk

/- A definition of plain bytes, as it is written; over plain lists. -/
namespace Go.Proofs.YtjdijlaoeoikhaaGreatDoor.lnk

/-- Letters and digits, and what is beyond ASCII. -/
def plC (c : UInt8) : Prop := (97 ≤ c.toNat ∧ c.toNat ≤ 122) ∨ (48 ≤ c.toNat ∧ c.toNat ≤ 57) ∨ 128 ≤ c.toNat

theorem pl_mk {c : UInt8} (h : plC c) : mk c = false := by
  unfold mk markN
  unfold plC at h
  exact decide_eq_false (by omega)
theorem pl_ne {c : UInt8} (h : plC c) {n : Nat} (hn : n < 48 ∨ n = 92 ∨ n = 127 ∨ n = 10) : c.toNat ≠ n := by
  unfold plC at h
  omega
theorem pl_10 {c : UInt8} (h : plC c) : c ≠ 10 := fun e => pl_ne h (n := 10) (by omega) (by rw [e]; rfl)
theorem pl_bare {c : UInt8} (h : plC c) : bareC c = true := by
  unfold bareC
  rw [Bool.and_eq_true]
  unfold plC at h
  refine ⟨decide_eq_true (by omega), ?_⟩
  rw [bne_iff_ne]
  rintro rfl
  have : (127 : UInt8).toNat = 127 := rfl
  omega
theorem pl_marks : ∀ w : List UInt8, (∀ c ∈ w, plC c) → w.flatMap markB' = w
  | [], _ => rfl
  | c :: t, h => by
    rw [List.flatMap_cons, pl_marks t (fun x hx => h x (List.mem_cons_of_mem _ hx))]
    unfold markB'
    rw [if_neg (by intro e; have := pl_mk (h c (by simp)); rw [show mk c = true from e] at this; cases this)]
    rfl
theorem pl_unesc (w : List UInt8) (h : ∀ c ∈ w, plC c) : unesc w = w := by
  have := unesc_marks w
  rwa [pl_marks w h] at this

theorem bare_plain {y : List UInt8} (hy : endsB y) : ∀ w : List UInt8, (∀ c ∈ w, plC c) → bareS 0 (w ++ y) = some (y, 0)
  | [], _ => bare_stop 0 y hy
  | c :: t, h => by
    have hc := h c (by simp)
    have h92 : c ≠ 92 := fun e => pl_ne hc (n := 92) (by omega) (by rw [e]; rfl)
    have h40 : c ≠ 40 := fun e => pl_ne hc (n := 40) (by omega) (by rw [e]; rfl)
    have h41 : c ≠ 41 := fun e => pl_ne hc (n := 41) (by omega) (by rw [e]; rfl)
    show bareS 0 (c :: (t ++ y)) = _
    rw [bare_byte 0 (pl_bare hc) (t ++ y) (fun d u _ hd => h92 hd.1), if_neg h40, if_neg h41]
    exact bare_plain hy t (fun x hx => h x (List.mem_cons_of_mem _ hx))

/-- A bare place of plain bytes. -/
theorem dest_plain {c : UInt8} {w : List UInt8} (h : ∀ x ∈ c :: w, plC x) {y : List UInt8} (hy : endsB y) : destL ((c :: w) ++ y) = some (c :: w, (c :: w).length) := by
  have hc := h c (by simp)
  have h60 : c ≠ 60 := ne_of_mk (pl_mk hc) (by decide)
  have hb := bare_plain hy (c :: w) h
  show destL (c :: (w ++ y)) = _
  simp only [destL]
  rw [if_neg h60]
  rw [show (c :: w) ++ y = c :: (w ++ y) from rfl] at hb
  rw [hb]
  simp only
  rw [if_neg (by rintro (h | h); (· simp at h; omega); (· omega))]
  have hl : (c :: (w ++ y)).length - y.length = (c :: w).length := by simp <;> omega
  have ht : (c :: (w ++ y)).take (c :: w).length = c :: w := by
    show ((c :: w) ++ y).take (c :: w).length = c :: w
    exact List.take_left' rfl
  rw [hl, ht, pl_unesc _ h]
/-- One between signs. -/
theorem dest_plain2 {w : List UInt8} (h : ∀ x ∈ w, plC x) (y : List UInt8) : destL ((60 :: (w ++ [62])) ++ y) = some (w, (60 :: (w ++ [62])).length) := by
  have := dest_esc_is w y (fun c hc => pl_10 (h c hc))
  rw [pl_marks w h] at this
  show destL (60 :: (w ++ [62]) ++ y) = _
  rw [this]
  simp
/-- A title of plain bytes. -/
theorem title_plain {a : UInt8} (ha : a = 34 ∨ a = 39 ∨ a = 40) {w : List UInt8} (h : ∀ x ∈ w, plC x) (y : List UInt8) : titleL ((a :: (w ++ [if a = 40 then 41 else a])) ++ y) = some (w, (a :: (w ++ [if a = 40 then 41 else a])).length) := by
  have := title_esc_is ha w y (fun c hc => pl_10 (h c hc))
  rw [pl_marks w h] at this
  show titleL (a :: (w ++ [if a = 40 then 41 else a]) ++ y) = _
  rw [this]
  simp
/-- A label of plain bytes. -/
theorem label_plain {w : List UInt8} (h : ∀ x ∈ w, plC x) (hl : w.length ≤ 900) (v : List UInt8) : labelL ((91 :: (108 :: w) ++ [93]) ++ v) = some (108 :: w, (108 :: w).length + 2) := by
  have := label_esc_is w v (fun c hc => pl_10 (h c hc)) (by rw [pl_marks w h]; omega)
  rw [pl_marks w h] at this
  exact this

/-! ### Definitions as they are written -/

section
variable {g0 u g q d : List UInt8} {b : UInt8} {w : List UInt8}
theorem define_bare (h0 : ∀ v, threeL 3 (g0 ++ 91 :: v) = 91 :: v) (hl : ∀ v, labelL ((91 :: u ++ [93]) ++ v) = some (u, u.length + 2)) (hq : q = b :: w) (hg : ∀ v, gapL 0 (g ++ b :: v) = b :: v) {y r : List UInt8} (hd : destL (q ++ y) = some (d, q.length)) (ht : titleL (gapL 0 y) = none) (hr : lineL y = some r) :
    defineL (g0 ++ ((91 :: u ++ [93]) ++ (58 :: (g ++ (q ++ y))))) = some ((fold u, d, []), r) := by
  rw [define_of h0 hl hq hg hd, ht]
  show (lineL y).map _ = _
  rw [hr]
  rfl
theorem define_titled (h0 : ∀ v, threeL 3 (g0 ++ 91 :: v) = 91 :: v) (hl : ∀ v, labelL ((91 :: u ++ [93]) ++ v) = some (u, u.length + 2)) (hq : q = b :: w) (hg : ∀ v, gapL 0 (g ++ b :: v) = b :: v) {g2 Q t z r : List UInt8} {a : UInt8} {v : List UInt8} (hQ : Q = a :: v) (hg2 : g2 ≠ []) (hga : ∀ v, gapL 0 (g2 ++ a :: v) = a :: v) (hd : destL (q ++ (g2 ++ (Q ++ z))) = some (d, q.length)) (ht : titleL (Q ++ z) = some (t, Q.length)) (hr : lineL z = some r) :
    defineL (g0 ++ ((91 :: u ++ [93]) ++ (58 :: (g ++ (q ++ (g2 ++ (Q ++ z))))))) = some ((fold u, d, t), r) := by
  have e1 : gapL 0 (g2 ++ (Q ++ z)) = Q ++ z := by rw [hQ]; exact hga (v ++ z)
  rw [define_of h0 hl hq hg hd, e1, ht]
  simp only
  have h3 : 0 < g2.length := List.length_pos_iff.2 hg2
  rw [if_pos (by simp; omega), List.drop_left' rfl, hr]
end

/-- The blanks, gaps and ends that are drawn from. -/
theorem three_each (i : Fin 3) : ∀ v, threeL 3 (([[], [32], [32, 32, 32]] : List (List UInt8))[i] ++ 91 :: v) = 91 :: v := by
  intro v
  match i with
  | 0 => rfl
  | 1 => rfl
  | 2 => rfl
theorem gap_each (i : Fin 4) {b : UInt8} (hb : b ≠ 32 ∧ b ≠ 9 ∧ b ≠ 10) : ∀ v, gapL 0 (([[], [32], [10], [32, 9, 10, 32, 32]] : List (List UInt8))[i] ++ b :: v) = b :: v := by
  intro v
  match i with
  | 0 => simp [gapL, hb]
  | 1 => simp [gapL, hb]
  | 2 => simp [gapL, hb]
  | 3 =>
    show gapL 0 ([32, 9, 10, 32, 32] ++ b :: v) = b :: v
    simp [gapL, hb]
theorem gap2_each (i : Fin 3) {b : UInt8} (hb : b ≠ 32 ∧ b ≠ 9 ∧ b ≠ 10) : (∀ v, gapL 0 (([[32], [10], [9, 32, 10, 32]] : List (List UInt8))[i] ++ b :: v) = b :: v) ∧ ([[32], [10], [9, 32, 10, 32]] : List (List UInt8))[i] ≠ [] ∧ ∀ v, endsB (([[32], [10], [9, 32, 10, 32]] : List (List UInt8))[i] ++ v) := by
  match i with
  | 0 => exact ⟨fun v => by simp [gapL, hb], by simp, fun v => .inr ⟨32, _, rfl, by decide⟩⟩
  | 1 => exact ⟨fun v => by simp [gapL, hb], by simp, fun v => .inr ⟨10, _, rfl, by decide⟩⟩
  | 2 => exact ⟨fun v => by simp [gapL, hb], by simp, fun v => .inr ⟨9, _, rfl, by decide⟩⟩
theorem end_each (i : Fin 3) : lineL ([[], [32], [32, 9]] : List (List UInt8))[i] = some [] ∧ gapL 0 ([[], [32], [32, 9]] : List (List UInt8))[i] = [] ∧ endsB ([[], [32], [32, 9]] : List (List UInt8))[i] := by
  match i with
  | 0 => exact ⟨rfl, rfl, .inl rfl⟩
  | 1 => exact ⟨rfl, rfl, .inr ⟨32, [], rfl, by decide⟩⟩
  | 2 => exact ⟨rfl, rfl, .inr ⟨32, [9], rfl, by decide⟩⟩
theorem end_more (i : Fin 3) {b : UInt8} (hb : b ≠ 32 ∧ b ≠ 9 ∧ b ≠ 10) (v : List UInt8) : lineL (([[], [32], [32, 9]] : List (List UInt8))[i] ++ 10 :: b :: v) = some (b :: v) ∧ gapL 0 (([[], [32], [32, 9]] : List (List UInt8))[i] ++ 10 :: b :: v) = b :: v ∧ endsB (([[], [32], [32, 9]] : List (List UInt8))[i] ++ 10 :: b :: v) := by
  match i with
  | 0 => exact ⟨by simp [lineL], by simp [gapL, hb], .inr ⟨10, _, rfl, by decide⟩⟩
  | 1 => exact ⟨by simp [lineL], by simp [gapL, hb], .inr ⟨32, _, rfl, by decide⟩⟩
  | 2 => exact ⟨by simp [lineL], by simp [gapL, hb], .inr ⟨32, _, rfl, by decide⟩⟩

end Go.Proofs.YtjdijlaoeoikhaaGreatDoor.lnk

/- Plain lists: a label of a text that is cut off; what folds to nothing; a title in two steps; gaps by rows. -/
namespace Go.Proofs.YtjdijlaoeoikhaaGreatDoor.lnk

/-- How many bytes stand from the first one to the last one; 0: none. -/
def enclL (first last : UInt8) (bad : UInt8 → Bool) : List UInt8 → Nat
  | [] => 0
  | a :: t => if a = first then (match scanU last bad t with
      | none => 0
      | some r => t.length - r.length + 1) else 0

theorem scan_le {stop : UInt8} {bad : UInt8 → Bool} {l r : List UInt8} (h : scanU stop bad l = some r) : r.length + 1 ≤ l.length := by
  obtain ⟨p, e, _⟩ := scan_front stop bad l r h
  rw [e]
  simp

theorem encl_le (first last : UInt8) (bad : UInt8 → Bool) (l : List UInt8) : enclL first last bad l ≤ l.length := by
  cases l with
  | nil => exact Nat.le_refl _
  | cons a t =>
    simp only [enclL]
    split
    · split
      · omega
      · rename_i r h
        have := scan_le h
        simp only [List.length_cons]
        omega
    · omega

theorem encl_two (first last : UInt8) (bad : UInt8 → Bool) (l : List UInt8) : enclL first last bad l = 0 ∨ 2 ≤ enclL first last bad l := by
  cases l with
  | nil => exact .inl rfl
  | cons a t =>
    simp only [enclL]
    split
    · split
      · exact .inl rfl
      · rename_i r h
        have := scan_le h
        right
        omega
    · exact .inl rfl

/-! ### What folds to nothing -/

theorem foldS_out : ∀ (rs out : List Nat) (gap : Bool), out ≠ [] → foldS out gap rs ≠ []
  | [], out, gap, h => h
  | r :: rs, out, gap, h => by
    simp only [foldS]
    split
    · exact foldS_out rs out true h
    · exact foldS_out rs _ false (by simp [h])

theorem foldS_none : ∀ (rs : List Nat) (gap : Bool), (foldS [] gap rs = []) ↔ rs.all spaceN = true
  | [], gap => by simp [foldS]
  | r :: rs, gap => by
    simp only [foldS, List.all_cons]
    cases hr : spaceN r
    · rw [if_neg (by decide)]
      have h1 : smallR r ≠ [] := by
        intro e
        have := (smallR_len r).1
        rw [e] at this
        simp [encAll_nil] at this
      have := foldS_out rs ([] ++ gapR gap [] ++ smallR r) false (by simp [h1])
      simp only [Bool.false_and, Bool.false_eq_true, iff_false]
      exact this
    · rw [if_pos rfl, Bool.true_and]
      exact foldS_none rs true

theorem fold_none (l : List UInt8) : fold l = [] ↔ (runes l).all spaceN = true := by
  rw [← foldS_none (runes l) false]
  unfold fold
  constructor
  · intro h
    have h2 := (encAll_le (foldS [] false (runes l))).1
    rw [h] at h2
    exact List.eq_nil_of_length_eq_zero (by simpa using h2)
  · intro h
    rw [h]
    rfl

/-! ### A label of a text that is cut off -/

theorem label_code (l : List UInt8) : labelL l = if enclL 91 93 (· == 91) (l.take 1001) = 0 ∨ (runes ((l.drop 1).take (enclL 91 93 (· == 91) (l.take 1001) - 2))).all spaceN = true then none
    else some ((l.drop 1).take (enclL 91 93 (· == 91) (l.take 1001) - 2), enclL 91 93 (· == 91) (l.take 1001)) := by
  cases l with
  | nil => rfl
  | cons a t =>
    have et : (a :: t).take 1001 = a :: t.take 1000 := rfl
    rw [et]
    simp only [labelL, enclL, List.drop_succ_cons, List.drop_zero]
    by_cases ha : a = 91
    · rw [if_pos ha, if_pos ha]
      cases hc : scanU 93 (· == 91) (t.take 1000) with
      | some r' =>
        obtain ⟨p, e1, e2⟩ := scan_front _ _ _ _ hc
        have e3 : t = (p ++ [93]) ++ (r' ++ t.drop 1000) := by rw [← List.append_assoc, ← e1, List.take_append_drop]
        have hw := e2 (r' ++ t.drop 1000)
        rw [← e3] at hw
        rw [hw]
        have l1 : (t.take 1000).length = p.length + 1 + r'.length := by rw [e1]; simp; omega
        have l2 := congrArg List.length e3
        rw [List.length_append, List.length_append, List.length_singleton] at l2
        have l3 : (t.take 1000).length ≤ 1000 := by rw [List.length_take]; omega
        simp only
        rw [show t.length - ((r' ++ t.drop 1000).length + 1) = p.length by omega, show (t.take 1000).length - r'.length + 1 = p.length + 2 by omega, show t.length - (r' ++ t.drop 1000).length + 1 = p.length + 2 by omega, Nat.add_sub_cancel]
        by_cases hf : (runes (t.take p.length)).all spaceN = true
        · rw [if_neg (fun x => x.2.2 ((fold_none _).2 hf)), if_pos (.inr hf)]
        · have hp : p.length ≠ 0 := by
            intro h
            rw [h] at hf
            exact hf rfl
          rw [if_pos ⟨by omega, by omega, fun h => hf ((fold_none _).1 h)⟩, if_neg (by rintro (h | h); omega; exact hf h)]
      | none =>
        rw [if_pos (.inl rfl)]
        cases hw : scanU 93 (· == 91) t with
        | none => rfl
        | some r =>
          obtain ⟨p, e1, e2⟩ := scan_front _ _ _ _ hw
          have l2 : t.length = p.length + 1 + r.length := by rw [e1]; simp; omega
          simp only
          rw [if_neg]
          rintro ⟨_, h, _⟩
          have e3 : t.take 1000 = (p ++ [93]) ++ r.take (1000 - (p.length + 1)) := by
            rw [e1, List.take_append, List.take_of_length_le (by simp; omega)]
            simp
          have := e2 (r.take (1000 - (p.length + 1)))
          rw [← e3, hc] at this
          cases this
    · rw [if_neg ha, if_neg ha, if_pos (.inl rfl)]

/-! ### A title in two steps -/

def emptyF : Bool → List UInt8 → Bool
  | _, [] => false
  | e, b :: t => if b = 10 then (if e = true then true else emptyF true t) else if b = 32 ∨ b = 9 then emptyF e t else emptyF false t

theorem empty_other {e : Bool} {b : UInt8} {t : List UInt8} (h1 : b ≠ 10) (h2 : ¬ (b = 32 ∨ b = 9)) : emptyF e (b :: t) = emptyF false t := by
  rw [emptyF, if_neg h1, if_neg h2]

theorem mark_not {c : UInt8} (h : markN c.toNat = true) : c ≠ 10 ∧ ¬ (c = 32 ∨ c = 9) := by
  unfold markN at h
  have := of_decide_eq_true h
  refine ⟨?_, ?_⟩
  · rintro rfl
    have h2 : (10 : UInt8).toNat = 10 := rfl
    omega
  · rintro (rfl | rfl)
    · have h2 : (32 : UInt8).toNat = 32 := rfl
      omega
    · have h2 : (9 : UInt8).toNat = 9 := rfl
      omega

theorem take_cons {b : UInt8} {l r : List UInt8} (h : r.length ≤ l.length) : (b :: l).take ((b :: l).length - r.length) = b :: l.take (l.length - r.length) := by
  rw [List.length_cons, show l.length + 1 - r.length = (l.length - r.length) + 1 by omega, List.take_succ_cons]

theorem title_scan {stop : UInt8} {bad : UInt8 → Bool} (hs : stop = 34 ∨ stop = 39 ∨ stop = 41) (hb : ∀ b, bad b = true ↔ (b = 40 ∧ stop = 41)) : ∀ (e : Bool) (l : List UInt8),
    titleS stop e l = match scanU stop bad l with
      | none => none
      | some r => if emptyF e (l.take (l.length - r.length)) = true then none else some r
  | e, [] => rfl
  | e, [b] => by
    simp only [titleS, scanU]
    by_cases h : b = stop
    · rw [if_pos h]
      have h1 : stop ≠ 10 := by rcases hs with rfl | rfl | rfl <;> decide
      have h2 : ¬ (stop = 32 ∨ stop = 9) := by rcases hs with rfl | rfl | rfl <;> decide
      have : emptyF e [stop] = false := by rw [empty_other h1 h2]; rfl
      subst h
      simp [this]
    · rw [if_neg h]
  | e, b :: c :: t => by
    by_cases h : b = stop
    · have h1 : stop ≠ 10 := by rcases hs with rfl | rfl | rfl <;> decide
      have h2 : ¬ (stop = 32 ∨ stop = 9) := by rcases hs with rfl | rfl | rfl <;> decide
      have h3 : emptyF e [stop] = false := by rw [empty_other h1 h2]; rfl
      subst h
      rw [title_one, scan_one]
      have h4 : (b :: c :: t).take ((b :: c :: t).length - (c :: t).length) = [b] := by simp
      simp only
      rw [h4, h3]
      rfl
    · by_cases hbad : bad b = true
      · have hb2 := (hb b).1 hbad
        simp only [titleS, scanU]
        rw [if_neg h, if_neg h, if_pos (.inl hb2), if_pos hbad]
      · have hbf : bad b = false := by simpa using hbad
        have hb2 : ¬ (b = 40 ∧ stop = 41) := fun x => hbad ((hb b).2 x)
        by_cases hesc : b = 92 ∧ markN c.toNat = true
        · have hne : ¬ ((b = 40 ∧ stop = 41) ∨ (b = 10 ∧ e = true)) := by
            rintro (x | x)
            · exact hb2 x
            · rw [hesc.1] at x; exact absurd x.1 (by decide)
          rw [title_two h hne hesc, scan_two h hbf hesc, title_scan hs hb false t]
          cases hsc : scanU stop bad t with
          | none => rfl
          | some r =>
            have hl := scan_le hsc
            simp only
            rw [take_cons (by simp only [List.length_cons]; omega), take_cons (by omega), empty_other (by rw [hesc.1]; decide) (by rw [hesc.1]; decide), empty_other (mark_not hesc.2).1 (mark_not hesc.2).2]
        · rw [scan_next h hbf hesc]
          by_cases h10 : b = 10 ∧ e = true
          · simp only [titleS]
            rw [if_neg h, if_pos (.inr h10)]
            cases hsc : scanU stop bad (c :: t) with
            | none => rfl
            | some r =>
              have hl := scan_le hsc
              simp only
              rw [take_cons (by omega), emptyF, if_pos h10.1, if_pos h10.2, if_pos rfl]
          · rw [title_next h (by rintro (x | x); exact hb2 x; exact h10 x) hesc, title_scan hs hb _ (c :: t)]
            cases hsc : scanU stop bad (c :: t) with
            | none => rfl
            | some r =>
              have hl := scan_le hsc
              simp only
              rw [take_cons (b := b) (l := c :: t) (by omega), emptyF.eq_2 e b]
              by_cases hb10 : b = 10
              · rw [if_pos hb10, if_pos hb10, if_neg (fun x => h10 ⟨hb10, x⟩)]
              · rw [if_neg hb10, if_neg hb10]
                by_cases hbl : b = 32 ∨ b = 9
                · rw [if_pos hbl, if_pos hbl]
                · rw [if_neg hbl, if_neg hbl]

/-- What a title's beginning and end are, and what may not stand in it. -/
def titleN (l : List UInt8) : Nat :=
  match l with
  | [] => 0
  | a :: t => if a = 34 then enclL 34 34 (fun _ => false) (a :: t) else if a = 39 then enclL 39 39 (fun _ => false) (a :: t) else enclL 40 41 (· == 40) (a :: t)

theorem title_code (l : List UInt8) : titleL l = if titleN l = 0 ∨ emptyF false (l.take (titleN l)) = true then none else some (unesc ((l.drop 1).take (titleN l - 2)), titleN l) := by
  cases l with
  | nil => rfl
  | cons a t =>
    have key : ∀ (stop : UInt8) (bad : UInt8 → Bool), a ≠ 10 → ¬ (a = 32 ∨ a = 9) → (stop = 34 ∨ stop = 39 ∨ stop = 41) → (∀ b, bad b = true ↔ (b = 40 ∧ stop = 41)) →
        (match titleS stop false t with
          | none => none
          | some r => some (unesc (t.take (t.length - (r.length + 1))), t.length - r.length + 1)) =
        if enclL a stop bad (a :: t) = 0 ∨ emptyF false ((a :: t).take (enclL a stop bad (a :: t))) = true then none else some (unesc (((a :: t).drop 1).take (enclL a stop bad (a :: t) - 2)), enclL a stop bad (a :: t)) := by
      intro stop bad h1 h2 hs hb
      rw [title_scan hs hb false t]
      simp only [enclL, if_pos trivial, List.drop_succ_cons, List.drop_zero]
      cases hsc : scanU stop bad t with
      | none => simp
      | some r =>
        have hl := scan_le hsc
        simp only
        rw [List.take_succ_cons, empty_other h1 h2, show t.length - r.length + 1 - 2 = t.length - (r.length + 1) by omega]
        by_cases he : emptyF false (t.take (t.length - r.length)) = true
        · rw [if_pos he, if_pos (.inr he)]
        · rw [if_neg he, if_neg (by rintro (x | x); omega; exact he x)]
    by_cases h34 : a = 34
    · subst h34
      have e : titleN (34 :: t) = enclL 34 34 (fun _ => false) (34 :: t) := rfl
      rw [e]
      simp only [titleL]
      rw [if_pos (by simp), if_neg (by decide)]
      exact key 34 _ (by decide) (by decide) (.inl rfl) (fun b => by simp)
    · by_cases h39 : a = 39
      · subst h39
        have e : titleN (39 :: t) = enclL 39 39 (fun _ => false) (39 :: t) := rfl
        rw [e]
        simp only [titleL]
        rw [if_pos (by simp), if_neg (by decide)]
        exact key 39 _ (by decide) (by decide) (.inr (.inl rfl)) (fun b => by simp)
      · have e : titleN (a :: t) = enclL 40 41 (· == 40) (a :: t) := by simp only [titleN]; rw [if_neg h34, if_neg h39]
        rw [e]
        simp only [titleL]
        by_cases h40 : a = 40
        · subst h40
          rw [if_pos (by simp), if_pos (by simp)]
          exact key 41 _ (by decide) (by decide) (.inr (.inr rfl)) (fun b => by simp)
        · rw [if_neg (by rintro (x | x | x); exact h34 x; exact h39 x; exact h40 x)]
          have : enclL 40 41 (· == 40) (a :: t) = 0 := by simp only [enclL]; rw [if_neg h40]
          rw [this, if_pos (.inl rfl)]

/-- Lines that are empty, found by cutting at line feeds. -/
theorem empty_cut : ∀ (l : List UInt8), (10 ∉ l → emptyF false l = false)
  | [], _ => rfl
  | b :: t, h => by
    rw [List.mem_cons, not_or] at h
    rw [emptyF, if_neg (fun e => h.1 e.symm)]
    split <;> exact empty_cut t h.2
theorem empty_skip : ∀ (p t : List UInt8), 10 ∉ p → emptyF false (p ++ 10 :: t) = emptyF true t
  | [], t, _ => by simp [emptyF]
  | b :: p, t, h => by
    rw [List.mem_cons, not_or] at h
    rw [List.cons_append, emptyF, if_neg (fun e => h.1 e.symm)]
    split <;> exact empty_skip p t h.2

def gapC (b : UInt8) : Bool := [32, 9].contains b
theorem gapC_iff (b : UInt8) : gapC b = true ↔ (b = 32 ∨ b = 9) := by simp [gapC]

theorem empty_trim : ∀ (t : List UInt8), emptyF true t = match t.dropWhile gapC with
    | [] => false
    | b :: u => if b = 10 then true else emptyF false (b :: u)
  | [] => rfl
  | b :: t => by
    rw [List.dropWhile_cons]
    by_cases h : gapC b = true
    · have hb := (gapC_iff b).1 h
      rw [if_pos h, emptyF, if_neg (by rcases hb with rfl | rfl <;> decide), if_pos hb]
      exact empty_trim t
    · have hb : ¬ (b = 32 ∨ b = 9) := fun x => h ((gapC_iff b).2 x)
      rw [if_neg h]
      simp only
      by_cases h10 : b = 10
      · rw [if_pos h10, emptyF, if_pos h10, if_pos rfl]
      · rw [if_neg h10, empty_other h10 hb, empty_other h10 hb]

/-! ### Gaps, line ends and blanks by rows -/

theorem gap1_rows : ∀ (n : Nat) (l : List UInt8), n ≠ 0 → gapL n l = l.dropWhile gapC
  | n, [], _ => by simp [gapL]
  | n, b :: t, hn => by
    rw [List.dropWhile_cons, gapL]
    by_cases h : gapC b = true
    · rw [if_pos h, if_pos ((gapC_iff b).1 h)]
      exact gap1_rows n t hn
    · rw [if_neg h, if_neg (fun x => h ((gapC_iff b).2 x)), if_neg (fun x => hn x.2)]
theorem gap_rows : ∀ (l : List UInt8), gapL 0 l = match l.dropWhile gapC with
    | [] => []
    | b :: u => if b = 10 then u.dropWhile gapC else b :: u
  | [] => rfl
  | b :: t => by
    rw [List.dropWhile_cons, gapL]
    by_cases h : gapC b = true
    · rw [if_pos h, if_pos ((gapC_iff b).1 h)]
      exact gap_rows t
    · rw [if_neg h, if_neg (fun x => h ((gapC_iff b).2 x))]
      simp only
      by_cases h10 : b = 10
      · rw [if_pos ⟨h10, by simp⟩, if_pos h10]
        exact gap1_rows 1 t (by decide)
      · rw [if_neg (fun x => h10 x.1), if_neg h10]
theorem line_rows : ∀ (l : List UInt8), lineL l = match l.dropWhile gapC with
    | [] => some []
    | b :: u => if b = 10 then some u else none
  | [] => rfl
  | b :: t => by
    rw [List.dropWhile_cons, lineL]
    by_cases h : gapC b = true
    · rw [if_pos h, if_pos ((gapC_iff b).1 h)]
      exact line_rows t
    · rw [if_neg h, if_neg (fun x => h ((gapC_iff b).2 x))]

theorem dw_len (p : UInt8 → Bool) (l : List UInt8) : (l.dropWhile p).length ≤ l.length := (List.dropWhile_suffix p).length_le

theorem three_rows : ∀ (n : Nat) (l : List UInt8), (l.length - (l.dropWhile (· == 32)).length ≤ n → threeL n l = l.dropWhile (· == 32)) ∧ (n < l.length - (l.dropWhile (· == 32)).length → ∃ u, threeL n l = 32 :: u)
  | n, [] => by
    refine ⟨fun _ => by cases n <;> rfl, fun h => ?_⟩
    simp at h
  | 0, b :: t => by
    rw [List.dropWhile_cons]
    by_cases h : (b == 32) = true
    · rw [if_pos h]
      have hl : (t.dropWhile (· == 32)).length ≤ t.length := dw_len _ t
      refine ⟨fun x => ?_, fun _ => ⟨t, ?_⟩⟩
      · simp only [List.length_cons] at x
        omega
      · have : b = 32 := by simpa using h
        rw [this]
        rfl
    · rw [if_neg h]
      refine ⟨fun _ => rfl, fun x => ?_⟩
      omega
  | n + 1, b :: t => by
    rw [List.dropWhile_cons]
    by_cases h : (b == 32) = true
    · rw [if_pos h]
      have hl : (t.dropWhile (· == 32)).length ≤ t.length := dw_len _ t
      have hb : b = 32 := by simpa using h
      have ih := three_rows n t
      simp only [threeL]
      rw [if_pos hb]
      simp only [List.length_cons]
      exact ⟨fun x => ih.1 (by omega), fun x => ih.2 (by omega)⟩
    · have hb : ¬ b = 32 := by simpa using h
      rw [if_neg h]
      refine ⟨fun _ => ?_, fun x => ?_⟩
      · simp only [threeL]
        rw [if_neg hb]
      · omega

end Go.Proofs.YtjdijlaoeoikhaaGreatDoor.lnk

/- Plain lists: a definition put together of its parts. -/
namespace Go.Proofs.YtjdijlaoeoikhaaGreatDoor.lnk

def pairL (o : Option (List UInt8 × Nat)) : List UInt8 × Nat := o.getD ([], 0)

def lineR (l : List UInt8) : Nat × Bool := match lineL l with
  | some r => (l.length - r.length, true)
  | none => (0, false)

/-- A title and what stands behind the line, or that alone. -/
def tailO (y : List UInt8) : Option (List UInt8 × List UInt8) :=
  match titleL (gapL 0 y) with
  | some (x, m) => if (gapL 0 y).length < y.length then
      match lineL ((gapL 0 y).drop m) with
      | some r => some (x, r)
      | none => (lineL y).map fun r => ([], r)
    else (lineL y).map fun r => ([], r)
  | none => (lineL y).map fun r => ([], r)

def tailL (y : List UInt8) : List UInt8 × Nat × Bool := match tailO y with
  | some (x, r) => (x, y.length - r.length, true)
  | none => ([], 0, false)

def definedL (l : List UInt8) : List UInt8 × Nat := match labelL (threeL 3 l) with
  | none => ([], 0)
  | some (u, n) => match (threeL 3 l).drop n with
    | [] => ([], 0)
    | b :: t => if b = 58 then (u, l.length - t.length) else ([], 0)

def noDef : (List UInt8 × List UInt8 × List UInt8) × Nat := (([], [], []), 0)

def defR (l : List UInt8) : (List UInt8 × List UInt8 × List UInt8) × Nat := match defineL l with
  | none => noDef
  | some (q, r) => (q, l.length - r.length)

theorem tail_line (y : List UInt8) : (match (lineL y).map fun r => (([] : List UInt8), r) with
    | some (x, r) => (x, y.length - r.length, true)
    | none => ([], 0, false)) = (([] : List UInt8), (lineR y).1, (lineR y).2) := by
  unfold lineR
  cases lineL y <;> rfl

theorem title_pos {s x : List UInt8} {m : Nat} (h : titleL s = some (x, m)) : 2 ≤ m ∧ m ≤ s.length := by
  obtain ⟨h2, q, r, e, hq, _⟩ := title_is h
  refine ⟨h2, ?_⟩
  rw [e, List.length_append]
  omega

theorem tail_code (y : List UInt8) : tailL y = if (gapL 0 y).length < y.length ∧ 0 < (pairL (titleL (gapL 0 y))).2 ∧ (lineR ((gapL 0 y).drop (pairL (titleL (gapL 0 y))).2)).2 = true
    then ((pairL (titleL (gapL 0 y))).1, y.length - (gapL 0 y).length + (pairL (titleL (gapL 0 y))).2 + (lineR ((gapL 0 y).drop (pairL (titleL (gapL 0 y))).2)).1, true)
    else ([], (lineR y).1, (lineR y).2) := by
  have hg := gapL_le 0 y
  unfold tailL tailO
  cases ht : titleL (gapL 0 y) with
  | none =>
    rw [if_neg (by rintro ⟨_, h, _⟩; exact Nat.lt_irrefl _ h)]
    exact tail_line y
  | some xm =>
    obtain ⟨x, m⟩ := xm
    obtain ⟨h2, hm⟩ := title_pos ht
    have e1 : (pairL (some (x, m))).1 = x := rfl
    have e2 : (pairL (some (x, m))).2 = m := rfl
    rw [e1, e2]
    simp only
    by_cases hl : (gapL 0 y).length < y.length
    · rw [if_pos hl]
      cases hr : lineL ((gapL 0 y).drop m) with
      | none =>
        have e3 : lineR ((gapL 0 y).drop m) = (0, false) := by unfold lineR; rw [hr]
        rw [e3, if_neg (by rintro ⟨_, _, h⟩; cases h)]
        exact tail_line y
      | some r =>
        have e3 : lineR ((gapL 0 y).drop m) = (((gapL 0 y).drop m).length - r.length, true) := by unfold lineR; rw [hr]
        obtain ⟨e, e4, _⟩ := line_is _ _ hr
        have e5 := congrArg List.length e4
        rw [List.length_append, List.length_drop] at e5
        rw [e3, if_pos ⟨hl, by omega, rfl⟩]
        simp only
        rw [List.length_drop]
        congr 2
        omega
    · rw [if_neg hl, if_neg (fun x => hl x.1)]
      exact tail_line y

theorem tail_le (y : List UInt8) : (tailL y).2.1 ≤ y.length := by
  unfold tailL
  cases tailO y with
  | none => exact Nat.zero_le _
  | some xr => exact Nat.sub_le ..

theorem three_suf : ∀ (n : Nat) (l : List UInt8), ∃ g, l = g ++ threeL n l
  | 0, l => ⟨[], rfl⟩
  | n + 1, [] => ⟨[], rfl⟩
  | n + 1, b :: t => by
    simp only [threeL]
    split
    · obtain ⟨g, e⟩ := three_suf n t
      exact ⟨b :: g, by rw [List.cons_append, ← e]⟩
    · exact ⟨[], rfl⟩

theorem defined_zero {l u : List UInt8} (h : definedL l = (u, 0)) : defineL l = none := by
  unfold definedL at h
  unfold defineL
  cases hl : labelL (threeL 3 l) with
  | none => rfl
  | some un =>
    obtain ⟨u', n⟩ := un
    rw [hl] at h
    simp only at h ⊢
    cases hd : (threeL 3 l).drop n with
    | nil => rfl
    | cons b t =>
      rw [hd] at h
      simp only at h ⊢
      by_cases hb : b = 58
      · rw [if_pos hb] at h
        exfalso
        obtain ⟨g, e⟩ := three_suf 3 l
        have e1 := congrArg List.length e
        have e2 := congrArg List.length hd
        rw [List.length_append] at e1
        rw [List.length_drop, List.length_cons] at e2
        have := (Prod.mk.inj h).2
        omega
      · rw [if_neg hb]

theorem defined_some {l u : List UInt8} {n : Nat} (h : definedL l = (u, n)) (h0 : n ≠ 0) : n ≤ l.length ∧ u.length ≤ 999 ∧ defineL l = match destL (gapL 0 (l.drop n)) with
    | none => none
    | some (d, k) => (tailO ((gapL 0 (l.drop n)).drop k)).map fun q => ((fold u, d, q.1), q.2) := by
  unfold definedL at h
  unfold defineL
  cases hl : labelL (threeL 3 l) with
  | none =>
    rw [hl] at h
    exact absurd (Prod.mk.inj h).2.symm h0
  | some un =>
    obtain ⟨u', m⟩ := un
    rw [hl] at h
    simp only at h ⊢
    cases hd : (threeL 3 l).drop m with
    | nil =>
      rw [hd] at h
      exact absurd (Prod.mk.inj h).2.symm h0
    | cons b t =>
      rw [hd] at h
      simp only at h ⊢
      by_cases hb : b = 58
      · rw [if_pos hb] at h ⊢
        have hu := (Prod.mk.inj h).1
        have hn := (Prod.mk.inj h).2
        subst hu
        obtain ⟨g, e⟩ := three_suf 3 l
        have e3 : l = (g ++ (threeL 3 l).take m ++ [b]) ++ t := by
          rw [List.append_assoc, List.append_assoc, List.singleton_append, ← hd, List.take_append_drop]
          exact e
        have hlen := congrArg List.length e3
        rw [List.length_append] at hlen
        have ed : l.drop n = t := by
          conv => lhs; rw [e3]
          exact List.drop_left' (by omega)
        rw [ed]
        refine ⟨by omega, (label_is hl).2.2.1, ?_⟩
        cases hde : destL (gapL 0 t) with
        | none => rfl
        | some dk =>
          obtain ⟨d, k⟩ := dk
          simp only [tailO]
          cases ht : titleL (gapL 0 ((gapL 0 t).drop k)) with
          | none =>
            simp only
            cases lineL ((gapL 0 t).drop k) <;> rfl
          | some xm =>
            obtain ⟨x, m'⟩ := xm
            simp only
            by_cases hlt : (gapL 0 ((gapL 0 t).drop k)).length < ((gapL 0 t).drop k).length
            · rw [if_pos hlt, if_pos hlt]
              cases lineL ((gapL 0 ((gapL 0 t).drop k)).drop m') with
              | none =>
                simp only
                cases lineL ((gapL 0 t).drop k) <;> rfl
              | some r => rfl
            · rw [if_neg hlt, if_neg hlt]
              cases lineL ((gapL 0 t).drop k) <;> rfl
      · rw [if_neg hb] at h
        exact absurd (Prod.mk.inj h).2.symm h0

theorem dest_pos {s d : List UInt8} {k : Nat} (h : destL s = some (d, k)) : 0 < k ∧ k ≤ s.length := by
  obtain ⟨h2, q, r, e, hq, _⟩ := dest_is h
  refine ⟨h2, ?_⟩
  rw [e, List.length_append]
  omega

theorem tailO_le {y x r : List UInt8} (h : tailO y = some (x, r)) : r.length ≤ y.length := by
  have hln : ∀ z r', lineL z = some r' → r'.length ≤ z.length := by
    intro z r' hz
    obtain ⟨e, e4, _⟩ := line_is _ _ hz
    rw [e4, List.length_append]
    omega
  have hmap : ∀ {z x' r' : List UInt8}, (lineL z).map (fun r => (([] : List UInt8), r)) = some (x', r') → r'.length ≤ z.length := by
    intro z x' r' hz
    cases hl : lineL z with
    | none => rw [hl] at hz; cases hz
    | some q =>
      rw [hl] at hz
      cases hz
      exact hln _ _ hl
  unfold tailO at h
  split at h
  · rename_i x' m ht
    split at h
    · split at h
      · rename_i r' hr
        cases h
        have := hln _ _ hr
        have hg := gapL_le 0 y
        rw [List.length_drop] at this
        omega
      · exact hmap h
    · exact hmap h
  · exact hmap h

theorem def_code {l u : List UInt8} {n : Nat} (h : definedL l = (u, n)) (h0 : n ≠ 0) : defR l =
    if (pairL (destL (gapL 0 (l.drop n)))).2 = 0 ∨ (tailL ((gapL 0 (l.drop n)).drop (pairL (destL (gapL 0 (l.drop n)))).2)).2.2 = false then noDef
    else ((fold u, (pairL (destL (gapL 0 (l.drop n)))).1, (tailL ((gapL 0 (l.drop n)).drop (pairL (destL (gapL 0 (l.drop n)))).2)).1),
      n + ((l.drop n).length - (gapL 0 (l.drop n)).length) + (pairL (destL (gapL 0 (l.drop n)))).2 + (tailL ((gapL 0 (l.drop n)).drop (pairL (destL (gapL 0 (l.drop n)))).2)).2.1) := by
  obtain ⟨hn, hu, hd⟩ := defined_some h h0
  unfold defR
  rw [hd]
  have hg := gapL_le 0 (l.drop n)
  rw [List.length_drop] at hg
  cases hde : destL (gapL 0 (l.drop n)) with
  | none => rfl
  | some dk =>
    obtain ⟨d, k⟩ := dk
    obtain ⟨hk, hk2⟩ := dest_pos hde
    have e1 : (pairL (some (d, k))).1 = d := rfl
    have e2 : (pairL (some (d, k))).2 = k := rfl
    rw [e1, e2]
    simp only
    cases ht : tailO ((gapL 0 (l.drop n)).drop k) with
    | none =>
      have e3 : tailL ((gapL 0 (l.drop n)).drop k) = ([], 0, false) := by unfold tailL; rw [ht]
      rw [e3, if_pos (.inr rfl)]
      rfl
    | some xr =>
      obtain ⟨x, r⟩ := xr
      have e3 : tailL ((gapL 0 (l.drop n)).drop k) = (x, ((gapL 0 (l.drop n)).drop k).length - r.length, true) := by unfold tailL; rw [ht]
      have hr := tailO_le ht
      rw [e3, if_neg (by rintro (y | y); omega; cases y)]
      show ((fold u, d, x), l.length - r.length) = _
      rw [List.length_drop] at hr
      show _ = ((fold u, d, x), n + ((l.drop n).length - (gapL 0 (l.drop n)).length) + k + (((gapL 0 (l.drop n)).drop k).length - r.length))
      rw [List.length_drop, List.length_drop]
      have he : l.length - r.length = n + (l.length - n - (gapL 0 (l.drop n)).length) + k + ((gapL 0 (l.drop n)).length - k - r.length) := by omega
      rw [he]

end Go.Proofs.YtjdijlaoeoikhaaGreatDoor.lnk
