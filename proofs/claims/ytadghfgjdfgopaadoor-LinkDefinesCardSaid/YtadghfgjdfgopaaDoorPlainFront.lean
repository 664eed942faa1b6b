/- What stands behind a tag, HTML, code or a link does not matter, over plain lists of bytes. -/
import Derived.Test.YtadghfgjdfgopaaDoorPlainSpan
set_option linter.unusedVariables false
namespace Go.Proofs.YtadghfgjdfgopaaDoor

/-! ### Pieces: something more behind -/

theorem gap_app : ∀ (n : Nat) (l x : List UInt8), gapL n l ≠ [] → gapL n (l ++ x) = gapL n l ++ x
  | _, [], x, h => absurd rfl h
  | n, b :: t, x, h => by
    rw [List.cons_append]
    simp only [gapL] at h ⊢
    split
    · rename_i hb
      rw [if_pos hb] at h
      exact gap_app n t x h
    · rename_i hb
      rw [if_neg hb] at h
      split
      · rename_i hc
        rw [if_pos hc] at h
        exact gap_app 1 t x h
      · rfl

theorem dw_app (p : UInt8 → Bool) : ∀ (l x : List UInt8), l.dropWhile p ≠ [] → (l ++ x).dropWhile p = l.dropWhile p ++ x
  | [], x, h => absurd rfl h
  | b :: t, x, h => by
    rw [List.cons_append, List.dropWhile_cons, List.dropWhile_cons]
    rw [List.dropWhile_cons] at h
    split
    · rename_i hb
      rw [if_pos hb] at h
      exact dw_app p t x h
    · rfl

theorem val2_app {l r : List UInt8} (h : val2 l = some r) (hr : r ≠ []) (x : List UInt8) : val2 (l ++ x) = some (r ++ x) := by
  cases l with
  | nil => cases h
  | cons q u =>
    rw [List.cons_append]
    simp only [val2] at h ⊢
    split at h
    · rename_i hq
      rw [if_pos hq]
      split at h
      · cases h
      · rename_i c v hv
        cases h
        rw [dw_app _ u x (by rw [hv]; simp), hv]
        rfl
    · rename_i hq
      rw [if_neg hq]
      split at h
      · rename_i hu
        cases h
        rw [if_pos hu, dw_app _ u x hr]
      · cases h

theorem valL_app {l r : List UInt8} (h : valL l = some r) (hr : r ≠ []) (hg : gapL 0 l ≠ []) (x : List UInt8) : valL (l ++ x) = some (r ++ x) := by
  unfold valL at h ⊢
  rw [gap_app 0 l x hg]
  cases hc : gapL 0 l with
  | nil => exact absurd hc hg
  | cons b t =>
    rw [hc] at h
    simp only [List.cons_append] at h ⊢
    split at h
    · rename_i hb
      rw [if_pos hb]
      have ht : gapL 0 t ≠ [] := by
        intro e; rw [e] at h; cases h
      rw [gap_app 0 t x ht]
      exact val2_app h hr x
    · rename_i hb
      rw [if_neg hb]
      cases h; rfl

theorem endL_app {l r : List UInt8} (h : endL l = some r) (x : List UInt8) : endL (l ++ x) = some (r ++ x) := by
  cases l with
  | nil => cases h
  | cons b t =>
    rw [List.cons_append]
    simp only [endL] at h ⊢
    split at h
    · rename_i hb
      rw [if_pos hb]
      cases h; rfl
    · rename_i hb
      rw [if_neg hb]
      split at h
      · rename_i hs
        rw [if_pos hs]
        cases t with
        | nil => cases h
        | cons c u =>
          simp only [List.cons_append] at h ⊢
          split at h
          · rename_i hc
            rw [if_pos hc]
            cases h; rfl
          · cases h
      · cases h

theorem fin_app : ∀ (n : Nat) (l r x : List UInt8), l.length ≤ n → finL l = some r → finL (l ++ x) = some (r ++ x)
  | n, l, r, x, hn, h => by
    cases hg : gapL 0 l with
    | nil => rw [fin_none hg] at h; cases h
    | cons b t =>
      have hg2 := gap_app 0 l x (by rw [hg]; simp)
      rw [hg, List.cons_append] at hg2
      rw [fin_cons hg] at h
      rw [fin_cons hg2]
      have hlen : ((b :: (t ++ x)).length < (l ++ x).length ∧ attrF b = true) ↔ ((b :: t).length < l.length ∧ attrF b = true) := by
        simp only [List.length_cons, List.length_append]
        constructor <;> (intro ⟨h1, h2⟩; exact ⟨by omega, h2⟩)
      by_cases hc : (b :: t).length < l.length ∧ attrF b = true
      · rw [if_pos hc] at h
        rw [if_pos (hlen.2 hc)]
        cases hv : valL (t.dropWhile attrC) with
        | none => rw [hv] at h; cases h
        | some r' =>
          rw [hv] at h
          replace h : finL r' = some r := h
          have hr' : r' ≠ [] := by
            rintro rfl
            rw [fin_none (show gapL 0 [] = [] from rfl)] at h; cases h
          have hd : gapL 0 (t.dropWhile attrC) ≠ [] := by
            intro e
            have : valL (t.dropWhile attrC) = some (t.dropWhile attrC) := by unfold valL; rw [e]
            rw [this] at hv
            cases hv
            rw [fin_none e] at h; cases h
          have hd2 : t.dropWhile attrC ≠ [] := by
            intro e; rw [e] at hd; exact hd rfl
          have h1 := valL_le hv
          have h2 := dropWhile_le attrC t
          have h3 := hc.1
          simp only [List.length_cons] at h3
          rw [dw_app _ t x hd2, valL_app hv hr' hd x]
          match n with
          | 0 => omega
          | m + 1 => exact fin_app m r' r x (by omega) h
      · rw [if_neg hc] at h
        rw [if_neg (fun e => hc (hlen.1 e))]
        have := endL_app h x
        rwa [List.cons_append] at this

theorem name_app {l r : List UInt8} (h : nameL l = some r) (hr : r ≠ []) (x : List UInt8) : nameL (l ++ x) = some (r ++ x) := by
  cases l with
  | nil => cases h
  | cons c t =>
    rw [List.cons_append]
    simp only [nameL] at h ⊢
    split at h
    · rename_i hc
      rw [if_pos hc]
      cases h
      rw [dw_app _ t x hr]
    · cases h

theorem close_app {l r : List UInt8} (h : closeL l = some r) (x : List UInt8) : closeL (l ++ x) = some (r ++ x) := by
  cases l with
  | nil => cases h
  | cons b t =>
    rw [List.cons_append]
    simp only [closeL] at h ⊢
    split at h
    · rename_i hb
      rw [if_pos hb]
      cases h; rfl
    · cases h

theorem tag_app {s r : List UInt8} (h : tagL s = some r) (x : List UInt8) : tagL (s ++ x) = some (r ++ x) := by
  match s with
  | [] => cases h
  | [_] => cases h
  | a :: b :: t =>
    rw [List.cons_append, List.cons_append]
    simp only [tagL] at h ⊢
    split at h
    · rename_i ha
      rw [if_pos ha]
      split at h
      · rename_i hb
        rw [if_pos hb]
        cases hn : nameL t with
        | none => rw [hn] at h; cases h
        | some q =>
          rw [hn] at h
          have hg : gapL 0 q ≠ [] := by
            intro e
            simp only [e] at h
            cases h
          have hq : q ≠ [] := by rintro rfl; exact hg rfl
          rw [name_app hn hq x]
          simp only [gap_app 0 q x hg]
          exact close_app h x
      · rename_i hb
        rw [if_neg hb]
        cases hn : nameL (b :: t) with
        | none => rw [hn] at h; cases h
        | some q =>
          rw [hn] at h
          have hq : q ≠ [] := by
            rintro rfl
            simp only [fin_none (show gapL 0 [] = [] from rfl)] at h
            cases h
          have := name_app hn hq x
          rw [List.cons_append] at this
          rw [this]
          exact fin_app _ q r x (Nat.le_refl _) h
    · cases h

/-! ### Pieces: cut off -/

/-- A gap is a front of the text, and stops at what follows it. -/
theorem gap_cut : ∀ (n : Nat) (l : List UInt8), ∃ g, l = g ++ gapL n l ∧ ∀ b z, (gapL n l).head? = some b → gapL n (g ++ b :: z) = b :: z
  | _, [] => ⟨[], rfl, fun b z h => by cases h⟩
  | n, b :: t => by
    simp only [gapL]
    split
    · rename_i hb
      obtain ⟨g, e, h⟩ := gap_cut n t
      refine ⟨b :: g, by rw [List.cons_append, ← e], fun c z hc => ?_⟩
      rw [List.cons_append]
      simp only [gapL, if_pos hb]
      exact h c z hc
    · rename_i hb
      split
      · rename_i hc
        obtain ⟨g, e, h⟩ := gap_cut 1 t
        refine ⟨b :: g, by rw [List.cons_append, ← e], fun c z hz => ?_⟩
        rw [List.cons_append]
        simp only [gapL, if_neg hb, if_pos hc]
        exact h c z hz
      · rename_i hc
        refine ⟨[], rfl, fun c z hz => ?_⟩
        simp only [List.head?_cons, Option.some.injEq] at hz
        subst hz
        simp only [List.nil_append, gapL, if_neg hb, if_neg hc]

/-- So is what a kind of bytes takes. -/
theorem dw_cut (p : UInt8 → Bool) : ∀ (l : List UInt8), ∃ g, l = g ++ l.dropWhile p ∧ ∀ b z, (l.dropWhile p).head? = some b → (g ++ b :: z).dropWhile p = b :: z
  | [] => ⟨[], rfl, fun b z h => by cases h⟩
  | b :: t => by
    rw [List.dropWhile_cons]
    split
    · rename_i hb
      obtain ⟨g, e, h⟩ := dw_cut p t
      refine ⟨b :: g, by rw [List.cons_append, ← e], fun c z hc => ?_⟩
      rw [List.cons_append, List.dropWhile_cons, if_pos hb]
      exact h c z hc
    · rename_i hb
      refine ⟨[], rfl, fun c z hz => ?_⟩
      simp only [List.head?_cons, Option.some.injEq] at hz
      subst hz
      rw [List.nil_append, List.dropWhile_cons, if_neg hb]

theorem val2_cut {y p r : List UInt8} (h : val2 y = some (p ++ r)) (hp : p ≠ []) : ∃ y', y = y' ++ r ∧ val2 y' = some p ∧ y' ≠ [] ∧ y'.head? = y.head? := by
  cases y with
  | nil => cases h
  | cons q u =>
    simp only [val2] at h
    split at h
    · rename_i hq
      obtain ⟨g, e, hg⟩ := dw_cut (· != q) u
      split at h
      · cases h
      · rename_i c v hv
        simp only [Option.some.injEq] at h
        subst h
        rw [hv] at e
        refine ⟨q :: (g ++ c :: p), ?_, ?_, by simp, rfl⟩
        · rw [e]; simp
        · simp only [val2]
          rw [if_pos hq, hg c p (by rw [hv]; rfl)]
    · rename_i hq
      split at h
      · rename_i hu
        obtain ⟨g, e, hg⟩ := dw_cut unqC u
        simp only [Option.some.injEq] at h
        rw [h] at e
        obtain ⟨c, p', rfl⟩ : ∃ c p', p = c :: p' := by
          cases p with
          | nil => exact absurd rfl hp
          | cons c p' => exact ⟨c, p', rfl⟩
        refine ⟨q :: (g ++ c :: p'), ?_, ?_, by simp, rfl⟩
        · rw [e]; simp
        · simp only [val2]
          rw [if_neg hq, if_pos hu, hg c p' (by rw [h]; rfl)]
      · cases h

theorem valL_cut {d p r : List UInt8} (h : valL d = some (p ++ r)) (hp : gapL 0 p ≠ []) : ∃ d', d = d' ++ r ∧ valL d' = some p ∧ d' ≠ [] ∧ d'.head? = d.head? := by
  have hp' : p ≠ [] := by rintro rfl; exact hp rfl
  unfold valL at h
  obtain ⟨g, e, hg⟩ := gap_cut 0 d
  have same : d = p ++ r → (∀ t, gapL 0 d ≠ 61 :: t) → ∃ d', d = d' ++ r ∧ valL d' = some p ∧ d' ≠ [] ∧ d'.head? = d.head? := by
    intro hd hne
    refine ⟨p, hd, ?_, hp', ?_⟩
    · unfold valL
      have h1 := gap_app 0 p r hp
      rw [← hd] at h1
      cases hc : gapL 0 p with
      | nil => exact absurd hc hp
      | cons b t =>
        rw [hc] at h1
        simp only
        rw [if_neg]
        rintro rfl
        exact hne (t ++ r) (by rw [h1]; rfl)
    · rw [hd]
      cases p with
      | nil => exact absurd rfl hp'
      | cons c p' => rfl
  cases hc : gapL 0 d with
  | nil =>
    rw [hc] at h
    simp only [Option.some.injEq] at h
    exact same h (fun t => by rw [hc]; simp)
  | cons b t =>
    rw [hc] at h e
    simp only at h
    split at h
    · rename_i hb
      subst hb
      obtain ⟨y', ey, hv, hy, hh⟩ := val2_cut h hp'
      obtain ⟨g2, e2, hg2⟩ := gap_cut 0 t
      refine ⟨g ++ 61 :: (g2 ++ y'), ?_, ?_, by simp, ?_⟩
      · rw [e, e2, ey]; simp
      · unfold valL
        rw [hg 61 (g2 ++ y') (by rw [hc]; rfl)]
        simp only [if_true]
        obtain ⟨c, y2, rfl⟩ : ∃ c y2, y' = c :: y2 := by
          cases y' with
          | nil => exact absurd rfl hy
          | cons c y2 => exact ⟨c, y2, rfl⟩
        rw [hg2 c y2 (by rw [← hh]; rfl)]
        exact hv
      · rw [e]
        cases g <;> rfl
    · rename_i hb
      simp only [Option.some.injEq] at h
      exact same h (fun t' => by rw [hc]; intro e'; cases e'; exact hb rfl)

theorem endL_cut {l r : List UInt8} (h : endL l = some r) : ∃ p, l = p ++ r ∧ endL p = some [] ∧ p ≠ [] ∧ p.head? = l.head? := by
  cases l with
  | nil => cases h
  | cons b t =>
    simp only [endL] at h
    split at h
    · rename_i hb
      cases h
      exact ⟨[b], rfl, by simp [endL, hb], by simp, rfl⟩
    · rename_i hb
      split at h
      · rename_i hs
        cases t with
        | nil => cases h
        | cons c u =>
          simp only at h
          split at h
          · rename_i hc
            cases h
            exact ⟨[b, c], rfl, by simp [endL, hs, hc], by simp, rfl⟩
          · cases h
      · cases h

theorem fin_cut : ∀ (n : Nat) (l r : List UInt8), l.length ≤ n → finL l = some r → ∃ p, l = p ++ r ∧ finL p = some []
  | n, l, r, hn, h => by
    obtain ⟨g, e, hgc⟩ := gap_cut 0 l
    cases hg : gapL 0 l with
    | nil => rw [fin_none hg] at h; cases h
    | cons b t =>
      rw [fin_cons hg] at h
      rw [hg] at e
      have hgc' := fun z => hgc b z (by rw [hg]; rfl)
      by_cases hc : (b :: t).length < l.length ∧ attrF b = true
      · rw [if_pos hc] at h
        have hgl : 0 < g.length := by
          have := hc.1
          rw [e] at this
          simp at this
          omega
        cases hv : valL (t.dropWhile attrC) with
        | none => rw [hv] at h; cases h
        | some r' =>
          rw [hv] at h
          replace h : finL r' = some r := h
          have h1 := valL_le hv
          have h2 := dropWhile_le attrC t
          have h3 := hc.1
          simp only [List.length_cons] at h3
          obtain ⟨p', e', hf⟩ : ∃ p, r' = p ++ r ∧ finL p = some [] := by
            match n with
            | 0 => omega
            | m + 1 => exact fin_cut m r' r (by omega) h
          have hgp : gapL 0 p' ≠ [] := by
            intro e2; rw [fin_none e2] at hf; cases hf
          rw [e'] at hv
          obtain ⟨d', ed, hvd, hd', hh⟩ := valL_cut hv hgp
          obtain ⟨g2, e2, hg2⟩ := dw_cut attrC t
          obtain ⟨c, d2, rfl⟩ : ∃ c d2, d' = c :: d2 := by
            cases d' with
            | nil => exact absurd rfl hd'
            | cons c d2 => exact ⟨c, d2, rfl⟩
          refine ⟨g ++ b :: (g2 ++ c :: d2), ?_, ?_⟩
          · rw [e, e2, ed]; simp
          · rw [fin_cons (hgc' _), if_pos ⟨by simp; omega, hc.2⟩, hg2 c d2 (by rw [← hh]; rfl), hvd]
            exact hf
      · rw [if_neg hc] at h
        obtain ⟨p, ep, he, hp, hh⟩ := endL_cut h
        obtain ⟨p2, rfl⟩ : ∃ p2, p = b :: p2 := by
          cases p with
          | nil => exact absurd rfl hp
          | cons c p2 =>
            simp only [List.head?_cons, Option.some.injEq] at hh
            exact ⟨p2, by rw [hh]⟩
        refine ⟨g ++ b :: p2, ?_, ?_⟩
        · rw [e, ep]; simp
        · rw [fin_cons (hgc' _), if_neg]
          · exact he
          · rintro ⟨h1, h2⟩
            refine hc ⟨?_, h2⟩
            rw [e]
            simp at h1 ⊢
            omega

theorem tag_cut {s r : List UInt8} (h : tagL s = some r) : ∃ p, s = p ++ r ∧ tagL p = some [] := by
  match s with
  | [] => cases h
  | [_] => cases h
  | a :: b :: t =>
    simp only [tagL] at h
    split at h
    · rename_i ha
      split at h
      · rename_i hb
        cases hn : nameL t with
        | none => rw [hn] at h; cases h
        | some q =>
          rw [hn] at h
          replace h : closeL (gapL 0 q) = some r := h
          cases t with
          | nil => cases hn
          | cons c u =>
            simp only [nameL] at hn
            split at hn
            · rename_i hl
              simp only [Option.some.injEq] at hn
              obtain ⟨g, e, hg⟩ := dw_cut nameC u
              obtain ⟨g2, e2, hg2⟩ := gap_cut 0 q
              cases hq : gapL 0 q with
              | nil => rw [hq] at h; cases h
              | cons x y =>
                rw [hq] at h e2 hg2
                simp only [closeL] at h
                split at h
                · rename_i hx
                  simp only [Option.some.injEq] at h
                  subst h
                  have hg2' := hg2 x [] rfl
                  have hqq : ∃ c2 z2, g2 ++ [x] = c2 :: z2 ∧ q.head? = some c2 := by
                    rw [e2]
                    cases g2 with
                    | nil => exact ⟨x, [], rfl, rfl⟩
                    | cons c2 z2 => exact ⟨c2, z2 ++ [x], rfl, rfl⟩
                  obtain ⟨c2, z2, ez, hqh⟩ := hqq
                  refine ⟨a :: b :: c :: (g ++ (g2 ++ [x])), ?_, ?_⟩
                  · rw [hn, e2] at e
                    rw [e]; simp
                  · simp only [tagL, if_pos ha, if_pos hb, nameL, if_pos hl]
                    rw [ez, hg c2 z2 (by rw [hn]; exact hqh), ← ez, hg2']
                    simp [closeL, hx]
                · cases h
            · cases hn
      · rename_i hb
        cases hn : nameL (b :: t) with
        | none => rw [hn] at h; cases h
        | some q =>
          rw [hn] at h
          replace h : finL q = some r := h
          simp only [nameL] at hn
          split at hn
          · rename_i hl
            simp only [Option.some.injEq] at hn
            obtain ⟨g, e, hg⟩ := dw_cut nameC t
            obtain ⟨p, ep, hf⟩ := fin_cut _ q r (Nat.le_refl _) h
            obtain ⟨c2, z2, rfl⟩ : ∃ c2 z2, p = c2 :: z2 := by
              cases p with
              | nil => rw [fin_none (show gapL 0 [] = [] from rfl)] at hf; cases hf
              | cons c2 z2 => exact ⟨c2, z2, rfl⟩
            refine ⟨a :: b :: (g ++ c2 :: z2), ?_, ?_⟩
            · rw [hn, ep] at e
              rw [e]; simp
            · simp only [tagL, if_pos ha, if_neg hb, nameL, if_pos hl]
              rw [hg c2 z2 (by rw [hn, ep]; rfl)]
              exact hf
          · cases hn
    · cases h

/-- A tag, with anything behind it. -/
theorem tag_front {s r : List UInt8} (h : tagL s = some r) : ∃ p, s = p ++ r ∧ ∀ x, tagL (p ++ x) = some x := by
  obtain ⟨p, e, hp⟩ := tag_cut h
  exact ⟨p, e, fun x => by have := tag_app hp x; rwa [List.nil_append] at this⟩

end Go.Proofs.YtadghfgjdfgopaaDoor
