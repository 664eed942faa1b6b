/- Texts with a backslash ahead of each mark: as labels, places and titles; over plain lists. -/
import Derived.Test.YtadghfgjdfgopaaDoorPlainLink4
import Derived.Test.YtadghfgjdfgopaaDoorPlainFold
set_option linter.unusedVariables false
namespace Go.Proofs.YtadghfgjdfgopaaDoor

def mk (c : UInt8) : Bool := markN c.toNat

theorem mk_92 : mk 92 = true := by decide

/-- The bytes that end or bar a text are marks, but the line feed. -/
def Bars (stop : UInt8) (bad : UInt8 → Bool) : Prop := mk stop = true ∧ stop ≠ 92 ∧ bad 92 = false ∧ ∀ c, mk c = false → c ≠ 10 → bad c = false

theorem ne_of_mk {b c : UInt8} (hb : mk b = false) (hc : mk c = true) : b ≠ c := by
  rintro rfl
  rw [hb] at hc
  cases hc

theorem scan_esc {stop : UInt8} {bad : UInt8 → Bool} (hB : Bars stop bad) : ∀ (w z : List UInt8), (∀ c ∈ w, c ≠ 10) → (z = [] ∨ ∃ y, z = stop :: y) → scanU stop bad (w.flatMap markB' ++ z) = scanU stop bad z
  | [], z, _, _ => rfl
  | c :: t, z, hw, hz => by
    have ht := scan_esc hB t z (fun x hx => hw x (List.mem_cons_of_mem _ hx)) hz
    rw [List.flatMap_cons, List.append_assoc]
    cases hm : mk c
    · have h1 : markB' c = [c] := by unfold markB'; rw [if_neg (by intro h; rw [show mk c = true from h] at hm; cases hm)]
      rw [h1]
      have hcs := ne_of_mk hm hB.1
      have hcb := hB.2.2.2 c hm (hw c (by simp))
      have hc92 := ne_of_mk hm mk_92
      cases hr : t.flatMap markB' ++ z with
      | nil =>
        rw [hr] at ht
        show scanU stop bad [c] = _
        rw [← ht]
        simp only [scanU]
        rw [if_neg hcs]
      | cons d u =>
        show scanU stop bad (c :: d :: u) = _
        rw [scan_next hcs hcb (fun h => hc92 h.1), ← hr]
        exact ht
    · have h1 : markB' c = [92, c] := by unfold markB'; rw [if_pos (show markN c.toNat = true from hm)]
      rw [h1]
      show scanU stop bad (92 :: c :: (t.flatMap markB' ++ z)) = _
      rw [scan_two (Ne.symm hB.2.1) hB.2.2.1 ⟨rfl, hm⟩]
      exact ht

theorem title_esc {stop : UInt8} (hs : mk stop = true) (h92 : stop ≠ 92) : ∀ (w z : List UInt8), (∀ c ∈ w, c ≠ 10) → (z = [] ∨ ∃ y, z = stop :: y) → titleS stop false (w.flatMap markB' ++ z) = titleS stop false z
  | [], z, _, _ => rfl
  | c :: t, z, hw, hz => by
    have ht := title_esc hs h92 t z (fun x hx => hw x (List.mem_cons_of_mem _ hx)) hz
    rw [List.flatMap_cons, List.append_assoc]
    cases hm : mk c
    · have h1 : markB' c = [c] := by unfold markB'; rw [if_neg (by intro h; rw [show mk c = true from h] at hm; cases hm)]
      rw [h1]
      have hcs := ne_of_mk hm hs
      have hc10 := hw c (by simp)
      have hc92 := ne_of_mk hm mk_92
      have hc40 : c ≠ 40 := ne_of_mk hm (by decide)
      cases hr : t.flatMap markB' ++ z with
      | nil =>
        rw [hr] at ht
        show titleS stop false [c] = _
        rw [← ht]
        simp only [titleS]
        rw [if_neg hcs]
      | cons d u =>
        show titleS stop false (c :: d :: u) = _
        rw [title_next hcs (by rintro (⟨h, _⟩ | ⟨h, _⟩); exact hc40 h; exact hc10 h) (fun h => hc92 h.1), if_neg hc10, ite_self, ← hr]
        exact ht
    · have h1 : markB' c = [92, c] := by unfold markB'; rw [if_pos (show markN c.toNat = true from hm)]
      rw [h1]
      show titleS stop false (92 :: c :: (t.flatMap markB' ++ z)) = _
      rw [title_two (Ne.symm h92) (by rintro (⟨h, _⟩ | ⟨h, _⟩) <;> exact absurd h (by decide)) ⟨rfl, hm⟩]
      exact ht

/-- Between the signs. -/
theorem title_esc_is {a : UInt8} (ha : a = 34 ∨ a = 39 ∨ a = 40) (w y : List UInt8) (hw : ∀ c ∈ w, c ≠ 10) : titleL (a :: (w.flatMap markB' ++ [if a = 40 then 41 else a]) ++ y) = some (w, (w.flatMap markB').length + 2) := by
  have hs : mk (if a = 40 then 41 else a) = true := by rcases ha with rfl | rfl | rfl <;> decide
  have h92 : (if a = 40 then 41 else a) ≠ 92 := by rcases ha with rfl | rfl | rfl <;> decide
  have h := title_esc hs h92 w ((if a = 40 then 41 else a) :: y) hw (.inr ⟨y, rfl⟩)
  rw [title_one] at h
  show titleL (a :: ((w.flatMap markB' ++ [if a = 40 then 41 else a]) ++ y)) = _
  simp only [titleL]
  rw [if_pos ha, List.append_assoc]
  show (match titleS (if a = 40 then 41 else a) false (w.flatMap markB' ++ (if a = 40 then 41 else a) :: y) with | none => none | some r => _) = _
  rw [h]
  simp only
  have ht : (w.flatMap markB' ++ ([if a = 40 then 41 else a] ++ y)).take ((w.flatMap markB' ++ ([if a = 40 then 41 else a] ++ y)).length - (y.length + 1)) = w.flatMap markB' := by
    rw [← List.append_assoc]
    exact take_inner
  rw [ht, unesc_marks]
  congr 2
  simp <;> omega

theorem bars_angle : Bars 62 (fun b => b == 60 || b == 10) := by
  refine ⟨by decide, by decide, by decide, fun c hc h10 => ?_⟩
  have h60 : c ≠ 60 := ne_of_mk hc (by decide)
  simp [h60, h10]
theorem bars_label : Bars 93 (· == 91) := by
  refine ⟨by decide, by decide, by decide, fun c hc h10 => ?_⟩
  have h91 : c ≠ 91 := ne_of_mk hc (by decide)
  simp [h91]

theorem dest_esc_is (w y : List UInt8) (hw : ∀ c ∈ w, c ≠ 10) : destL (60 :: (w.flatMap markB' ++ [62]) ++ y) = some (w, (w.flatMap markB').length + 2) := by
  have h := scan_esc bars_angle w (62 :: y) hw (.inr ⟨y, rfl⟩)
  rw [scan_one] at h
  show destL (60 :: ((w.flatMap markB' ++ [62]) ++ y)) = _
  simp only [destL, if_true]
  rw [List.append_assoc]
  show (match scanU 62 _ (w.flatMap markB' ++ 62 :: y) with | none => none | some r => _) = _
  rw [h]
  simp only
  have ht : (w.flatMap markB' ++ ([62] ++ y)).take ((w.flatMap markB' ++ ([62] ++ y)).length - (y.length + 1)) = w.flatMap markB' := by
    rw [← List.append_assoc]
    exact take_inner
  rw [ht, unesc_marks]
  congr 2
  simp <;> omega

/-- A text that begins with a letter is not blank. -/
theorem foldS_ne : ∀ (rs out : List Nat) (gap : Bool), out ≠ [] → foldS out gap rs ≠ []
  | [], out, gap, h => h
  | r :: rs, out, gap, h => by
    cases hr : spaceN r
    · rw [foldS_ch _ _ _ _ hr]
      exact foldS_ne rs _ _ (by intro e; exact h (List.append_eq_nil_iff.1 (List.append_eq_nil_iff.1 e).1).1)
    · rw [foldS_sp _ _ _ _ hr]
      exact foldS_ne rs _ _ h
theorem fold_letter {c : UInt8} (h1 : 97 ≤ c.toNat) (h2 : c.toNat ≤ 122) (t : List UInt8) : fold (c :: t) ≠ [] := by
  unfold fold
  rw [runes_one c t (by omega)]
  have hs : spaceN c.toNat = false := by
    unfold spaceN
    exact decide_eq_false (by omega)
  rw [foldS_ch _ _ _ _ hs]
  have hne : foldS ([] ++ gapR false [] ++ smallR c.toNat) false (runes t) ≠ [] := by
    apply foldS_ne
    intro e
    have := congrArg List.length e
    have h3 := (smallR_len c.toNat).1
    unfold smallR at this
    split at this <;> simp [gapR] at this
  intro e
  cases hf : foldS ([] ++ gapR false [] ++ smallR c.toNat) false (runes t) with
  | nil => exact hne hf
  | cons a b =>
    rw [hf, encAll_cons] at e
    exact enc_ne a _ e

theorem label_esc_is (w y : List UInt8) (hw : ∀ c ∈ w, c ≠ 10) (hlen : (w.flatMap markB').length + 1 ≤ 999) : labelL (91 :: (108 :: w.flatMap markB' ++ [93]) ++ y) = some (108 :: w.flatMap markB', (w.flatMap markB').length + 3) := by
  have h : scanU 93 (· == 91) ((108 :: w).flatMap markB' ++ 93 :: y) = some y := by
    rw [scan_esc bars_label (108 :: w) (93 :: y) (by intro c hc; rcases List.mem_cons.1 hc with rfl | h; decide; exact hw c h) (.inr ⟨y, rfl⟩)]
    exact scan_one y
  have e108 : (108 :: w).flatMap markB' = 108 :: w.flatMap markB' := rfl
  rw [e108] at h
  show labelL (91 :: ((108 :: w.flatMap markB' ++ [93]) ++ y)) = _
  simp only [labelL, if_true]
  have hcat : (108 :: w.flatMap markB' ++ [93]) ++ y = 108 :: w.flatMap markB' ++ 93 :: y := by simp
  rw [hcat, h]
  simp only
  have hl : (108 :: w.flatMap markB' ++ 93 :: y).length - (y.length + 1) = (w.flatMap markB').length + 1 := by simp <;> omega
  have ht : (108 :: w.flatMap markB' ++ 93 :: y).take ((108 :: w.flatMap markB' ++ 93 :: y).length - (y.length + 1)) = 108 :: w.flatMap markB' := by
    rw [hl]
    exact List.take_left' (by simp)
  rw [ht, hl, if_pos ⟨by omega, hlen, fold_letter (by decide) (by decide) _⟩]
  congr 2
  simp <;> omega
theorem label_esc_long (w y : List UInt8) (hw : ∀ c ∈ w, c ≠ 10) (hlen : 999 < (w.flatMap markB').length + 1) : labelL (91 :: (108 :: w.flatMap markB' ++ [93]) ++ y) = none := by
  have h : scanU 93 (· == 91) ((108 :: w).flatMap markB' ++ 93 :: y) = some y := by
    rw [scan_esc bars_label (108 :: w) (93 :: y) (by intro c hc; rcases List.mem_cons.1 hc with rfl | h; decide; exact hw c h) (.inr ⟨y, rfl⟩)]
    exact scan_one y
  have e108 : (108 :: w).flatMap markB' = 108 :: w.flatMap markB' := rfl
  rw [e108] at h
  show labelL (91 :: ((108 :: w.flatMap markB' ++ [93]) ++ y)) = _
  simp only [labelL, if_true]
  have hcat : (108 :: w.flatMap markB' ++ [93]) ++ y = 108 :: w.flatMap markB' ++ 93 :: y := by simp
  rw [hcat, h]
  simp only
  have hl : (108 :: w.flatMap markB' ++ 93 :: y).length - (y.length + 1) = (w.flatMap markB').length + 1 := by simp <;> omega
  rw [hl, if_neg (by rintro ⟨_, h, _⟩; omega)]
theorem label_esc_open (w : List UInt8) (hw : ∀ c ∈ w, c ≠ 10) : labelL (91 :: 108 :: w.flatMap markB') = none := by
  have h : scanU 93 (· == 91) ((108 :: w).flatMap markB' ++ []) = scanU 93 (· == 91) [] := scan_esc bars_label (108 :: w) [] (by intro c hc; rcases List.mem_cons.1 hc with rfl | h; decide; exact hw c h) (.inl rfl)
  rw [List.append_nil] at h
  have e108 : (108 :: w).flatMap markB' = 108 :: w.flatMap markB' := rfl
  rw [e108] at h
  simp only [labelL, if_true]
  rw [h]
  rfl

end Go.Proofs.YtadghfgjdfgopaaDoor
