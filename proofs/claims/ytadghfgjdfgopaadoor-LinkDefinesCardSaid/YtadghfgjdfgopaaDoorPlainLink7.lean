/- Plain lists: a label of a text that is cut off; what folds to nothing; a title in two steps; gaps by rows. -/
import Derived.Test.YtadghfgjdfgopaaDoorPlainLink2
set_option linter.unusedVariables false
namespace Go.Proofs.YtadghfgjdfgopaaDoor

/-- How many bytes stand from the first one to the last one; 0: none. -/
def enclL (first last : UInt8) (bad : UInt8 → Bool) : List UInt8 → Nat
  | [] => 0
  | a :: t => if a = first then (match scanU last bad t with
      | none => 0
      | some r => t.length - r.length + 1) else 0

theorem scan_le {stop : UInt8} {bad : UInt8 → Bool} {l r : List UInt8} (h : scanU stop bad l = some r) : r.length + 1 ≤ l.length := by
  obtain ⟨p, e, _⟩ := scan_front stop bad l r h
  rw [e]
  simp

theorem encl_le (first last : UInt8) (bad : UInt8 → Bool) (l : List UInt8) : enclL first last bad l ≤ l.length := by
  cases l with
  | nil => exact Nat.le_refl _
  | cons a t =>
    simp only [enclL]
    split
    · split
      · omega
      · rename_i r h
        have := scan_le h
        simp only [List.length_cons]
        omega
    · omega

theorem encl_two (first last : UInt8) (bad : UInt8 → Bool) (l : List UInt8) : enclL first last bad l = 0 ∨ 2 ≤ enclL first last bad l := by
  cases l with
  | nil => exact .inl rfl
  | cons a t =>
    simp only [enclL]
    split
    · split
      · exact .inl rfl
      · rename_i r h
        have := scan_le h
        right
        omega
    · exact .inl rfl

/-! ### What folds to nothing -/

theorem foldS_out : ∀ (rs out : List Nat) (gap : Bool), out ≠ [] → foldS out gap rs ≠ []
  | [], out, gap, h => h
  | r :: rs, out, gap, h => by
    simp only [foldS]
    split
    · exact foldS_out rs out true h
    · exact foldS_out rs _ false (by simp [h])

theorem foldS_none : ∀ (rs : List Nat) (gap : Bool), (foldS [] gap rs = []) ↔ rs.all spaceN = true
  | [], gap => by simp [foldS]
  | r :: rs, gap => by
    simp only [foldS, List.all_cons]
    cases hr : spaceN r
    · rw [if_neg (by decide)]
      have h1 : smallR r ≠ [] := by
        intro e
        have := (smallR_len r).1
        rw [e] at this
        simp [encAll_nil] at this
      have := foldS_out rs ([] ++ gapR gap [] ++ smallR r) false (by simp [h1])
      simp only [Bool.false_and, Bool.false_eq_true, iff_false]
      exact this
    · rw [if_pos rfl, Bool.true_and]
      exact foldS_none rs true

theorem fold_none (l : List UInt8) : fold l = [] ↔ (runes l).all spaceN = true := by
  rw [← foldS_none (runes l) false]
  unfold fold
  constructor
  · intro h
    have h2 := (encAll_le (foldS [] false (runes l))).1
    rw [h] at h2
    exact List.eq_nil_of_length_eq_zero (by simpa using h2)
  · intro h
    rw [h]
    rfl

/-! ### A label of a text that is cut off -/

theorem label_code (l : List UInt8) : labelL l = if enclL 91 93 (· == 91) (l.take 1001) = 0 ∨ (runes ((l.drop 1).take (enclL 91 93 (· == 91) (l.take 1001) - 2))).all spaceN = true then none
    else some ((l.drop 1).take (enclL 91 93 (· == 91) (l.take 1001) - 2), enclL 91 93 (· == 91) (l.take 1001)) := by
  cases l with
  | nil => rfl
  | cons a t =>
    have et : (a :: t).take 1001 = a :: t.take 1000 := rfl
    rw [et]
    simp only [labelL, enclL, List.drop_succ_cons, List.drop_zero]
    by_cases ha : a = 91
    · rw [if_pos ha, if_pos ha]
      cases hc : scanU 93 (· == 91) (t.take 1000) with
      | some r' =>
        obtain ⟨p, e1, e2⟩ := scan_front _ _ _ _ hc
        have e3 : t = (p ++ [93]) ++ (r' ++ t.drop 1000) := by rw [← List.append_assoc, ← e1, List.take_append_drop]
        have hw := e2 (r' ++ t.drop 1000)
        rw [← e3] at hw
        rw [hw]
        have l1 : (t.take 1000).length = p.length + 1 + r'.length := by rw [e1]; simp; omega
        have l2 := congrArg List.length e3
        rw [List.length_append, List.length_append, List.length_singleton] at l2
        have l3 : (t.take 1000).length ≤ 1000 := by rw [List.length_take]; omega
        simp only
        rw [show t.length - ((r' ++ t.drop 1000).length + 1) = p.length by omega, show (t.take 1000).length - r'.length + 1 = p.length + 2 by omega, show t.length - (r' ++ t.drop 1000).length + 1 = p.length + 2 by omega, Nat.add_sub_cancel]
        by_cases hf : (runes (t.take p.length)).all spaceN = true
        · rw [if_neg (fun x => x.2.2 ((fold_none _).2 hf)), if_pos (.inr hf)]
        · have hp : p.length ≠ 0 := by
            intro h
            rw [h] at hf
            exact hf rfl
          rw [if_pos ⟨by omega, by omega, fun h => hf ((fold_none _).1 h)⟩, if_neg (by rintro (h | h); omega; exact hf h)]
      | none =>
        rw [if_pos (.inl rfl)]
        cases hw : scanU 93 (· == 91) t with
        | none => rfl
        | some r =>
          obtain ⟨p, e1, e2⟩ := scan_front _ _ _ _ hw
          have l2 : t.length = p.length + 1 + r.length := by rw [e1]; simp; omega
          simp only
          rw [if_neg]
          rintro ⟨_, h, _⟩
          have e3 : t.take 1000 = (p ++ [93]) ++ r.take (1000 - (p.length + 1)) := by
            rw [e1, List.take_append, List.take_of_length_le (by simp; omega)]
            simp
          have := e2 (r.take (1000 - (p.length + 1)))
          rw [← e3, hc] at this
          cases this
    · rw [if_neg ha, if_neg ha, if_pos (.inl rfl)]

/-! ### A title in two steps -/

def emptyF : Bool → List UInt8 → Bool
  | _, [] => false
  | e, b :: t => if b = 10 then (if e = true then true else emptyF true t) else if b = 32 ∨ b = 9 then emptyF e t else emptyF false t

theorem empty_other {e : Bool} {b : UInt8} {t : List UInt8} (h1 : b ≠ 10) (h2 : ¬ (b = 32 ∨ b = 9)) : emptyF e (b :: t) = emptyF false t := by
  rw [emptyF, if_neg h1, if_neg h2]

theorem mark_not {c : UInt8} (h : markN c.toNat = true) : c ≠ 10 ∧ ¬ (c = 32 ∨ c = 9) := by
  unfold markN at h
  have := of_decide_eq_true h
  refine ⟨?_, ?_⟩
  · rintro rfl
    have h2 : (10 : UInt8).toNat = 10 := rfl
    omega
  · rintro (rfl | rfl)
    · have h2 : (32 : UInt8).toNat = 32 := rfl
      omega
    · have h2 : (9 : UInt8).toNat = 9 := rfl
      omega

theorem take_cons {b : UInt8} {l r : List UInt8} (h : r.length ≤ l.length) : (b :: l).take ((b :: l).length - r.length) = b :: l.take (l.length - r.length) := by
  rw [List.length_cons, show l.length + 1 - r.length = (l.length - r.length) + 1 by omega, List.take_succ_cons]

theorem title_scan {stop : UInt8} {bad : UInt8 → Bool} (hs : stop = 34 ∨ stop = 39 ∨ stop = 41) (hb : ∀ b, bad b = true ↔ (b = 40 ∧ stop = 41)) : ∀ (e : Bool) (l : List UInt8),
    titleS stop e l = match scanU stop bad l with
      | none => none
      | some r => if emptyF e (l.take (l.length - r.length)) = true then none else some r
  | e, [] => rfl
  | e, [b] => by
    simp only [titleS, scanU]
    by_cases h : b = stop
    · rw [if_pos h]
      have h1 : stop ≠ 10 := by rcases hs with rfl | rfl | rfl <;> decide
      have h2 : ¬ (stop = 32 ∨ stop = 9) := by rcases hs with rfl | rfl | rfl <;> decide
      have : emptyF e [stop] = false := by rw [empty_other h1 h2]; rfl
      subst h
      simp [this]
    · rw [if_neg h]
  | e, b :: c :: t => by
    by_cases h : b = stop
    · have h1 : stop ≠ 10 := by rcases hs with rfl | rfl | rfl <;> decide
      have h2 : ¬ (stop = 32 ∨ stop = 9) := by rcases hs with rfl | rfl | rfl <;> decide
      have h3 : emptyF e [stop] = false := by rw [empty_other h1 h2]; rfl
      subst h
      rw [title_one, scan_one]
      have h4 : (b :: c :: t).take ((b :: c :: t).length - (c :: t).length) = [b] := by simp
      simp only
      rw [h4, h3]
      rfl
    · by_cases hbad : bad b = true
      · have hb2 := (hb b).1 hbad
        simp only [titleS, scanU]
        rw [if_neg h, if_neg h, if_pos (.inl hb2), if_pos hbad]
      · have hbf : bad b = false := by simpa using hbad
        have hb2 : ¬ (b = 40 ∧ stop = 41) := fun x => hbad ((hb b).2 x)
        by_cases hesc : b = 92 ∧ markN c.toNat = true
        · have hne : ¬ ((b = 40 ∧ stop = 41) ∨ (b = 10 ∧ e = true)) := by
            rintro (x | x)
            · exact hb2 x
            · rw [hesc.1] at x; exact absurd x.1 (by decide)
          rw [title_two h hne hesc, scan_two h hbf hesc, title_scan hs hb false t]
          cases hsc : scanU stop bad t with
          | none => rfl
          | some r =>
            have hl := scan_le hsc
            simp only
            rw [take_cons (by simp only [List.length_cons]; omega), take_cons (by omega), empty_other (by rw [hesc.1]; decide) (by rw [hesc.1]; decide), empty_other (mark_not hesc.2).1 (mark_not hesc.2).2]
        · rw [scan_next h hbf hesc]
          by_cases h10 : b = 10 ∧ e = true
          · simp only [titleS]
            rw [if_neg h, if_pos (.inr h10)]
            cases hsc : scanU stop bad (c :: t) with
            | none => rfl
            | some r =>
              have hl := scan_le hsc
              simp only
              rw [take_cons (by omega), emptyF, if_pos h10.1, if_pos h10.2, if_pos rfl]
          · rw [title_next h (by rintro (x | x); exact hb2 x; exact h10 x) hesc, title_scan hs hb _ (c :: t)]
            cases hsc : scanU stop bad (c :: t) with
            | none => rfl
            | some r =>
              have hl := scan_le hsc
              simp only
              rw [take_cons (b := b) (l := c :: t) (by omega), emptyF.eq_2 e b]
              by_cases hb10 : b = 10
              · rw [if_pos hb10, if_pos hb10, if_neg (fun x => h10 ⟨hb10, x⟩)]
              · rw [if_neg hb10, if_neg hb10]
                by_cases hbl : b = 32 ∨ b = 9
                · rw [if_pos hbl, if_pos hbl]
                · rw [if_neg hbl, if_neg hbl]

/-- What a title's beginning and end are, and what may not stand in it. -/
def titleN (l : List UInt8) : Nat :=
  match l with
  | [] => 0
  | a :: t => if a = 34 then enclL 34 34 (fun _ => false) (a :: t) else if a = 39 then enclL 39 39 (fun _ => false) (a :: t) else enclL 40 41 (· == 40) (a :: t)

theorem title_code (l : List UInt8) : titleL l = if titleN l = 0 ∨ emptyF false (l.take (titleN l)) = true then none else some (unesc ((l.drop 1).take (titleN l - 2)), titleN l) := by
  cases l with
  | nil => rfl
  | cons a t =>
    have key : ∀ (stop : UInt8) (bad : UInt8 → Bool), a ≠ 10 → ¬ (a = 32 ∨ a = 9) → (stop = 34 ∨ stop = 39 ∨ stop = 41) → (∀ b, bad b = true ↔ (b = 40 ∧ stop = 41)) →
        (match titleS stop false t with
          | none => none
          | some r => some (unesc (t.take (t.length - (r.length + 1))), t.length - r.length + 1)) =
        if enclL a stop bad (a :: t) = 0 ∨ emptyF false ((a :: t).take (enclL a stop bad (a :: t))) = true then none else some (unesc (((a :: t).drop 1).take (enclL a stop bad (a :: t) - 2)), enclL a stop bad (a :: t)) := by
      intro stop bad h1 h2 hs hb
      rw [title_scan hs hb false t]
      simp only [enclL, if_pos trivial, List.drop_succ_cons, List.drop_zero]
      cases hsc : scanU stop bad t with
      | none => simp
      | some r =>
        have hl := scan_le hsc
        simp only
        rw [List.take_succ_cons, empty_other h1 h2, show t.length - r.length + 1 - 2 = t.length - (r.length + 1) by omega]
        by_cases he : emptyF false (t.take (t.length - r.length)) = true
        · rw [if_pos he, if_pos (.inr he)]
        · rw [if_neg he, if_neg (by rintro (x | x); omega; exact he x)]
    by_cases h34 : a = 34
    · subst h34
      have e : titleN (34 :: t) = enclL 34 34 (fun _ => false) (34 :: t) := rfl
      rw [e]
      simp only [titleL]
      rw [if_pos (by simp), if_neg (by decide)]
      exact key 34 _ (by decide) (by decide) (.inl rfl) (fun b => by simp)
    · by_cases h39 : a = 39
      · subst h39
        have e : titleN (39 :: t) = enclL 39 39 (fun _ => false) (39 :: t) := rfl
        rw [e]
        simp only [titleL]
        rw [if_pos (by simp), if_neg (by decide)]
        exact key 39 _ (by decide) (by decide) (.inr (.inl rfl)) (fun b => by simp)
      · have e : titleN (a :: t) = enclL 40 41 (· == 40) (a :: t) := by simp only [titleN]; rw [if_neg h34, if_neg h39]
        rw [e]
        simp only [titleL]
        by_cases h40 : a = 40
        · subst h40
          rw [if_pos (by simp), if_pos (by simp)]
          exact key 41 _ (by decide) (by decide) (.inr (.inr rfl)) (fun b => by simp)
        · rw [if_neg (by rintro (x | x | x); exact h34 x; exact h39 x; exact h40 x)]
          have : enclL 40 41 (· == 40) (a :: t) = 0 := by simp only [enclL]; rw [if_neg h40]
          rw [this, if_pos (.inl rfl)]

/-- Lines that are empty, found by cutting at line feeds. -/
theorem empty_cut : ∀ (l : List UInt8), (10 ∉ l → emptyF false l = false)
  | [], _ => rfl
  | b :: t, h => by
    rw [List.mem_cons, not_or] at h
    rw [emptyF, if_neg (fun e => h.1 e.symm)]
    split <;> exact empty_cut t h.2
theorem empty_skip : ∀ (p t : List UInt8), 10 ∉ p → emptyF false (p ++ 10 :: t) = emptyF true t
  | [], t, _ => by simp [emptyF]
  | b :: p, t, h => by
    rw [List.mem_cons, not_or] at h
    rw [List.cons_append, emptyF, if_neg (fun e => h.1 e.symm)]
    split <;> exact empty_skip p t h.2

def gapC (b : UInt8) : Bool := [32, 9].contains b
theorem gapC_iff (b : UInt8) : gapC b = true ↔ (b = 32 ∨ b = 9) := by simp [gapC]

theorem empty_trim : ∀ (t : List UInt8), emptyF true t = match t.dropWhile gapC with
    | [] => false
    | b :: u => if b = 10 then true else emptyF false (b :: u)
  | [] => rfl
  | b :: t => by
    rw [List.dropWhile_cons]
    by_cases h : gapC b = true
    · have hb := (gapC_iff b).1 h
      rw [if_pos h, emptyF, if_neg (by rcases hb with rfl | rfl <;> decide), if_pos hb]
      exact empty_trim t
    · have hb : ¬ (b = 32 ∨ b = 9) := fun x => h ((gapC_iff b).2 x)
      rw [if_neg h]
      simp only
      by_cases h10 : b = 10
      · rw [if_pos h10, emptyF, if_pos h10, if_pos rfl]
      · rw [if_neg h10, empty_other h10 hb, empty_other h10 hb]

/-! ### Gaps, line ends and blanks by rows -/

theorem gap1_rows : ∀ (n : Nat) (l : List UInt8), n ≠ 0 → gapL n l = l.dropWhile gapC
  | n, [], _ => by simp [gapL]
  | n, b :: t, hn => by
    rw [List.dropWhile_cons, gapL]
    by_cases h : gapC b = true
    · rw [if_pos h, if_pos ((gapC_iff b).1 h)]
      exact gap1_rows n t hn
    · rw [if_neg h, if_neg (fun x => h ((gapC_iff b).2 x)), if_neg (fun x => hn x.2)]
theorem gap_rows : ∀ (l : List UInt8), gapL 0 l = match l.dropWhile gapC with
    | [] => []
    | b :: u => if b = 10 then u.dropWhile gapC else b :: u
  | [] => rfl
  | b :: t => by
    rw [List.dropWhile_cons, gapL]
    by_cases h : gapC b = true
    · rw [if_pos h, if_pos ((gapC_iff b).1 h)]
      exact gap_rows t
    · rw [if_neg h, if_neg (fun x => h ((gapC_iff b).2 x))]
      simp only
      by_cases h10 : b = 10
      · rw [if_pos ⟨h10, by simp⟩, if_pos h10]
        exact gap1_rows 1 t (by decide)
      · rw [if_neg (fun x => h10 x.1), if_neg h10]
theorem line_rows : ∀ (l : List UInt8), lineL l = match l.dropWhile gapC with
    | [] => some []
    | b :: u => if b = 10 then some u else none
  | [] => rfl
  | b :: t => by
    rw [List.dropWhile_cons, lineL]
    by_cases h : gapC b = true
    · rw [if_pos h, if_pos ((gapC_iff b).1 h)]
      exact line_rows t
    · rw [if_neg h, if_neg (fun x => h ((gapC_iff b).2 x))]

theorem dw_len (p : UInt8 → Bool) (l : List UInt8) : (l.dropWhile p).length ≤ l.length := (List.dropWhile_suffix p).length_le

theorem three_rows : ∀ (n : Nat) (l : List UInt8), (l.length - (l.dropWhile (· == 32)).length ≤ n → threeL n l = l.dropWhile (· == 32)) ∧ (n < l.length - (l.dropWhile (· == 32)).length → ∃ u, threeL n l = 32 :: u)
  | n, [] => by
    refine ⟨fun _ => by cases n <;> rfl, fun h => ?_⟩
    simp at h
  | 0, b :: t => by
    rw [List.dropWhile_cons]
    by_cases h : (b == 32) = true
    · rw [if_pos h]
      have hl : (t.dropWhile (· == 32)).length ≤ t.length := dw_len _ t
      refine ⟨fun x => ?_, fun _ => ⟨t, ?_⟩⟩
      · simp only [List.length_cons] at x
        omega
      · have : b = 32 := by simpa using h
        rw [this]
        rfl
    · rw [if_neg h]
      refine ⟨fun _ => rfl, fun x => ?_⟩
      omega
  | n + 1, b :: t => by
    rw [List.dropWhile_cons]
    by_cases h : (b == 32) = true
    · rw [if_pos h]
      have hl : (t.dropWhile (· == 32)).length ≤ t.length := dw_len _ t
      have hb : b = 32 := by simpa using h
      have ih := three_rows n t
      simp only [threeL]
      rw [if_pos hb]
      simp only [List.length_cons]
      exact ⟨fun x => ih.1 (by omega), fun x => ih.2 (by omega)⟩
    · have hb : ¬ b = 32 := by simpa using h
      rw [if_neg h]
      refine ⟨fun _ => ?_, fun x => ?_⟩
      · simp only [threeL]
        rw [if_neg hb]
      · omega

end Go.Proofs.YtadghfgjdfgopaaDoor
