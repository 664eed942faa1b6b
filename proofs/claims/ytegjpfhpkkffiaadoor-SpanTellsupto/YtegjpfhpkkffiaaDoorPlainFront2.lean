/- What stands behind code, HTML or a link does not matter, and where they begin and end, over plain lists of bytes. -/
import Derived.Test.YtegjpfhpkkffiaaDoorPlainFront
set_option linter.unusedVariables false
namespace Go.Proofs.YtegjpfhpkkffiaaDoor

/-! ### Code -/

theorem run_rep : ∀ (k : Nat) (t : List UInt8), t.head? ≠ some 96 → runL (List.replicate k 96 ++ t) = k
  | 0, t, h => by
    cases t with
    | nil => rfl
    | cons b u =>
      have hb : b ≠ 96 := fun e => h (by rw [e]; rfl)
      simp [runL, hb]
  | k + 1, t, h => by
    rw [List.replicate_succ, List.cons_append]
    simp only [runL, if_true]
    rw [run_rep k t h]

theorem run_split : ∀ s : List UInt8, s = List.replicate (runL s) 96 ++ s.drop (runL s) ∧ (s.drop (runL s)).head? ≠ some 96
  | [] => ⟨rfl, by simp [runL]⟩
  | b :: t => by
    simp only [runL]
    split
    · rename_i hb
      obtain ⟨h1, h2⟩ := run_split t
      rw [List.replicate_succ, List.cons_append, List.drop_succ_cons]
      exact ⟨by rw [← h1, hb], h2⟩
    · rename_i hb
      refine ⟨rfl, ?_⟩
      simp only [List.drop_zero, List.head?_cons, ne_eq, Option.some.injEq]
      exact hb

theorem scan_front (k : Nat) : ∀ (l : List UInt8) (r m : Nat), scanC k r l = some m → m ≤ l.length ∧ k ≤ r + m ∧ scanC k r (l.take m) = some m ∧ ∀ y, scanC k r (l.take m ++ 120 :: y) = some m
  | [], r, m, h => by
    simp only [scanC] at h
    split at h
    · rename_i hr
      cases h
      refine ⟨Nat.le_refl _, by omega, by simp [scanC, hr], fun y => ?_⟩
      simp [scanC, hr]
    · cases h
  | b :: t, r, m, h => by
    simp only [scanC] at h
    split at h
    · rename_i hb
      cases hm : scanC k (r + 1) t with
      | none => rw [hm] at h; cases h
      | some m' =>
        rw [hm] at h
        simp only [Option.map_some, Option.some.injEq] at h
        subst h
        obtain ⟨h1, h2, h3, h4⟩ := scan_front k t (r + 1) m' hm
        refine ⟨by simp <;> omega, by omega, ?_, fun y => ?_⟩
        · rw [List.take_succ_cons]
          simp only [scanC, if_pos hb, h3, Option.map_some]
        · rw [List.take_succ_cons, List.cons_append]
          simp only [scanC, if_pos hb, h4, Option.map_some]
    · rename_i hb
      split at h
      · rename_i hr
        cases h
        refine ⟨Nat.zero_le _, by omega, by simp [scanC, hr], fun y => ?_⟩
        simp [scanC, hr]
      · rename_i hr
        cases hm : scanC k 0 t with
        | none => rw [hm] at h; cases h
        | some m' =>
          rw [hm] at h
          simp only [Option.map_some, Option.some.injEq] at h
          subst h
          obtain ⟨h1, h2, h3, h4⟩ := scan_front k t 0 m' hm
          refine ⟨by simp <;> omega, by omega, ?_, fun y => ?_⟩
          · rw [List.take_succ_cons]
            simp only [scanC, if_neg hb, if_neg hr, h3, Option.map_some]
          · rw [List.take_succ_cons, List.cons_append]
            simp only [scanC, if_neg hb, if_neg hr, h4, Option.map_some]

/-- Code, put together of its parts. -/
theorem code_of {k m : Nat} {t : List UInt8} (hk : 0 < k) (ht : t.head? ≠ some 96) (h : scanC k 0 t = some m) : codeL (List.replicate k 96 ++ t) = some (innerL (t.take (m - k)), k + m) := by
  unfold codeL
  rw [run_rep k t ht, if_neg (by omega)]
  have hd : (List.replicate k (96 : UInt8) ++ t).drop k = t := by
    have := List.drop_left (l₁ := List.replicate k (96 : UInt8)) (l₂ := t)
    rwa [List.length_replicate] at this
  rw [hd, h]

theorem code_front {s a : List UInt8} {n : Nat} (h : codeL s = some (a, n)) : n ≤ s.length ∧ 0 < n ∧ codeL (s.take n) = some (a, n) ∧ ∀ y, codeL (s.take n ++ 120 :: y) = some (a, n) := by
  unfold codeL at h
  split at h
  · cases h
  · rename_i hk
    obtain ⟨e, hh⟩ := run_split s
    cases hm : scanC (runL s) 0 (s.drop (runL s)) with
    | none => rw [hm] at h; cases h
    | some m =>
      rw [hm] at h
      simp only [Option.some.injEq, Prod.mk.injEq] at h
      obtain ⟨ha, hn⟩ := h
      generalize runL s = k at *
      generalize s.drop k = t at *
      obtain ⟨h1, h2, h3, h4⟩ := scan_front k t 0 m hm
      subst e hn
      have htk : (List.replicate k 96 ++ t).take (k + m) = List.replicate k 96 ++ t.take m := by
        have := List.take_length_add_append (l₁ := List.replicate k (96 : UInt8)) (l₂ := t) m
        rwa [List.length_replicate] at this
      have hth : ∀ y, (t.take m ++ y).head? ≠ some 96 := by
        intro y
        cases t with
        | nil => simp at h1; omega
        | cons b u =>
          obtain ⟨m', rfl⟩ : ∃ m', m = m' + 1 := ⟨m - 1, by omega⟩
          exact hh
      have hin : ∀ y, (t.take m ++ y).take (m - k) = t.take (m - k) := by
        intro y
        rw [List.take_append_of_le_length (by rw [List.length_take]; omega), List.take_take, Nat.min_eq_left (by omega)]
      refine ⟨by simp <;> omega, by omega, ?_, fun y => ?_⟩
      · rw [htk, code_of (by omega) (by simpa using hth []) h3, ← ha]
        have := hin []
        rw [List.append_nil] at this
        rw [this]
      · rw [htk, List.append_assoc, code_of (by omega) (hth _) (h4 y), ← ha, hin]

/-! ### Links -/

theorem tw_mem (p : UInt8 → Bool) : ∀ (l : List UInt8), ∀ c ∈ l.takeWhile p, p c = true
  | [], c, h => by cases h
  | b :: t, c, h => by
    rw [List.takeWhile_cons] at h
    split at h
    · rename_i hb
      rcases List.mem_cons.1 h with rfl | h
      · exact hb
      · exact tw_mem p t c h
    · cases h

theorem tw_all (p : UInt8 → Bool) : ∀ (u : List UInt8) (b : UInt8) (y : List UInt8), (∀ c ∈ u, p c = true) → p b = false → (u ++ b :: y).takeWhile p = u ∧ (u ++ b :: y).dropWhile p = b :: y
  | [], b, y, _, hb => by simp [hb]
  | c :: u, b, y, h, hb => by
    have hc := h c (List.mem_cons_self)
    obtain ⟨h1, h2⟩ := tw_all p u b y (fun x hx => h x (List.mem_cons_of_mem _ hx)) hb
    rw [List.cons_append, List.takeWhile_cons, List.dropWhile_cons, if_pos hc, if_pos hc, h1, h2]
    exact ⟨rfl, rfl⟩

/-- A link, put together of its parts. -/
theorem auto_of (u y : List UInt8) (hu : ∀ c ∈ u, linkC c = true) : autoL (60 :: (u ++ 62 :: y)) = if schOk u = true then some (u, u, u.length + 2) else if mailL u = true then some ([109, 97, 105, 108, 116, 111, 58] ++ u, u, u.length + 2) else none := by
  obtain ⟨h1, h2⟩ := tw_all linkC u 62 y hu rfl
  simp only [autoL, h1, h2, if_true]

theorem auto_front {s d u : List UInt8} {n : Nat} (h : autoL s = some (d, u, n)) : n ≤ s.length ∧ n = u.length + 2 ∧ (s.drop 1).take u.length = u ∧ ∀ y, autoL (s.take n ++ y) = some (d, u, n) := by
  cases s with
  | nil => cases h
  | cons a t =>
    have hsp := List.takeWhile_append_dropWhile (p := linkC) (l := t)
    have hall : ∀ c ∈ t.takeWhile linkC, linkC c = true := tw_mem linkC t
    simp only [autoL] at h
    split at h
    · rename_i ha
      subst ha
      cases hd : t.dropWhile linkC with
      | nil => rw [hd] at h; cases h
      | cons b y0 =>
        rw [hd] at h hsp
        simp only at h
        split at h
        · rename_i hb
          subst hb
          generalize t.takeWhile linkC = v at *
          subst hsp
          have hvn : u = v ∧ n = v.length + 2 := by
            split at h
            · simp only [Option.some.injEq, Prod.mk.injEq] at h
              exact ⟨h.2.1.symm, h.2.2.symm⟩
            · split at h
              · simp only [Option.some.injEq, Prod.mk.injEq] at h
                exact ⟨h.2.1.symm, h.2.2.symm⟩
              · cases h
          obtain ⟨rfl, rfl⟩ := hvn
          refine ⟨by simp <;> omega, rfl, by simp, fun y => ?_⟩
          have e : (60 :: (u ++ 62 :: y0)).take (u.length + 2) ++ y = 60 :: (u ++ 62 :: y) := by
            rw [show u.length + 2 = (u.length + 1) + 1 from rfl, List.take_succ_cons, List.take_length_add_append]
            simp
          rw [e, auto_of u y hall]
          exact h
        · cases h
    · cases h

/-! ### HTML -/

theorem pre_take {e t : List UInt8} {m : Nat} (he : e.length ≤ m) (hm : m ≤ t.length) (y : List UInt8) : e.isPrefixOf (t.take m ++ y) = e.isPrefixOf t := by
  rw [Bool.eq_iff_iff, List.isPrefixOf_iff_prefix, List.isPrefixOf_iff_prefix, List.prefix_iff_eq_take, List.prefix_iff_eq_take, List.take_append_of_le_length (by rw [List.length_take]; omega), List.take_take, Nat.min_eq_left he]

theorem up_front (e : List UInt8) (he : 0 < e.length) : ∀ (l : List UInt8) (n : Nat), upL e l = some n → n ≤ l.length ∧ e.length ≤ n ∧ (l.take n).getLast? = e.getLast? ∧ ∀ y, upL e (l.take n ++ y) = some n
  | [], n, h => by cases h
  | b :: t, n, h => by
    simp only [upL] at h
    split at h
    · rename_i hp
      simp only [Option.some.injEq] at h
      subst h
      have hp' := List.isPrefixOf_iff_prefix.1 hp
      have htk : (b :: t).take e.length = e := (List.prefix_iff_eq_take.1 hp').symm
      refine ⟨hp'.length_le, Nat.le_refl _, by rw [htk], fun y => ?_⟩
      rw [htk]
      obtain ⟨c, e', rfl⟩ : ∃ c e', e = c :: e' := by
        cases e with
        | nil => simp at he
        | cons c e' => exact ⟨c, e', rfl⟩
      rw [List.cons_append]
      simp only [upL]
      rw [if_pos]
      rw [List.isPrefixOf_iff_prefix]
      exact ⟨y, rfl⟩
    · rename_i hp
      cases hm : upL e t with
      | none => rw [hm] at h; cases h
      | some n' =>
        rw [hm] at h
        simp only [Option.map_some, Option.some.injEq] at h
        subst h
        obtain ⟨h1, h2, h3, h4⟩ := up_front e he t n' hm
        refine ⟨by simp <;> omega, by omega, ?_, fun y => ?_⟩
        · rw [List.take_succ_cons, List.getLast?_cons, h3]
          cases hg : e.getLast? with
          | none => simp only [List.getLast?_eq_none_iff] at hg; rw [hg] at he; simp at he
          | some c => rfl
        · rw [List.take_succ_cons, List.cons_append]
          simp only [upL]
          rw [if_neg, h4]
          · rfl
          · intro hq
            apply hp
            have := pre_take (e := e) (t := b :: t) (m := n' + 1) (by omega) (by simp <;> omega) y
            rw [List.take_succ_cons, List.cons_append] at this
            rw [← this]
            exact hq

theorem tag_no (c : UInt8) (t : List UInt8) (h1 : c ≠ 47) (h2 : letterB c = false) : tagL (60 :: c :: t) = none := by
  simp [tagL, h1, nameL, h2]

theorem pre_split {e s : List UInt8} (h : e.isPrefixOf s = true) : ∃ t, s = e ++ t := by
  obtain ⟨t, ht⟩ := List.isPrefixOf_iff_prefix.1 h
  exact ⟨t, ht.symm⟩

theorem last_cons {b : UInt8} {l : List UInt8} (h : l.getLast? = some 62) : (b :: l).getLast? = some 62 := by
  rw [List.getLast?_cons, h]; rfl

theorem raw2_front {s : List UInt8} {n : Nat} (h : raw2 s = some n) : n ≤ s.length ∧ 0 < n ∧ s.head? = some 60 ∧ (s.take n).getLast? = some 62 ∧ (∀ y, raw2 (s.take n ++ y) = some n) ∧ ∀ y, tagL (s.take n ++ y) = none := by
  unfold raw2 at h
  split at h
  · rename_i hp
    cases h
    obtain ⟨t, rfl⟩ := pre_split hp
    exact ⟨by simp <;> omega, by omega, rfl, rfl, fun y => by simp [raw2, List.isPrefixOf], fun y => tag_no 33 _ (by decide) rfl⟩
  · rename_i hp1
    split at h
    · rename_i hp
      cases h
      obtain ⟨t, rfl⟩ := pre_split hp
      exact ⟨by simp <;> omega, by omega, rfl, rfl, fun y => by simp [raw2, List.isPrefixOf], fun y => tag_no 33 _ (by decide) rfl⟩
    · rename_i hp2
      split at h
      · rename_i hp
        obtain ⟨t, rfl⟩ := pre_split hp
        cases hm : upL [45, 45, 62] t with
        | none => simp [hm] at h
        | some m =>
          simp [hm] at h
          subst h
          obtain ⟨h1, h2, h3, h4⟩ := up_front _ (by decide) t m hm
          have hq1 : ∀ y, [62].isPrefixOf (t.take m ++ y) = false := fun y => by
            rw [pre_take (by simp at h2 ⊢; omega) h1]
            refine Bool.eq_false_iff.2 ?_
            rw [ne_eq, List.isPrefixOf_iff_prefix]
            simpa [List.isPrefixOf] using hp1
          have hq2 : ∀ y, [45, 62].isPrefixOf (t.take m ++ y) = false := fun y => by
            rw [pre_take (by simp at h2 ⊢; omega) h1]
            refine Bool.eq_false_iff.2 ?_
            rw [ne_eq, List.isPrefixOf_iff_prefix]
            simpa [List.isPrefixOf] using hp2
          have etk : ∀ y, ([60, 33, 45, 45] ++ t).take (m + 4) ++ y = 60 :: 33 :: 45 :: 45 :: (t.take m ++ y) := fun y => by simp [List.take_succ_cons]
          refine ⟨by simp <;> omega, by omega, rfl, ?_, fun y => ?_, fun y => ?_⟩
          · have := etk []
            simp only [List.append_nil] at this
            rw [this]
            exact last_cons (last_cons (last_cons (last_cons h3)))
          · rw [etk]
            have a1 := hq1 y
            have a2 := hq2 y
            simp only [raw2, List.isPrefixOf] at a1 a2 ⊢
            simp [a1, a2, h4 y]
          · rw [etk]; exact tag_no 33 _ (by decide) rfl
      · rename_i hp3
        split at h
        · rename_i hp
          obtain ⟨t, rfl⟩ := pre_split hp
          cases hm : upL [63, 62] t with
          | none => simp [hm] at h
          | some m =>
            simp [hm] at h
            subst h
            obtain ⟨h1, h2, h3, h4⟩ := up_front _ (by decide) t m hm
            have etk : ∀ y, ([60, 63] ++ t).take (m + 2) ++ y = 60 :: 63 :: (t.take m ++ y) := fun y => by simp [List.take_succ_cons]
            refine ⟨by simp <;> omega, by omega, rfl, ?_, fun y => ?_, fun y => ?_⟩
            · have := etk []
              simp only [List.append_nil] at this
              rw [this]
              exact last_cons (last_cons h3)
            · rw [etk]
              simp [raw2, List.isPrefixOf, h4 y]
            · rw [etk]; exact tag_no 63 _ (by decide) rfl
        · rename_i hp4
          split at h
          · rename_i hp
            obtain ⟨t, rfl⟩ := pre_split hp
            cases hm : upL [93, 93, 62] t with
            | none => simp [hm] at h
            | some m =>
              simp [hm] at h
              subst h
              obtain ⟨h1, h2, h3, h4⟩ := up_front _ (by decide) t m hm
              have etk : ∀ y, ([60, 33, 91, 67, 68, 65, 84, 65, 91] ++ t).take (m + 9) ++ y = 60 :: 33 :: 91 :: 67 :: 68 :: 65 :: 84 :: 65 :: 91 :: (t.take m ++ y) := fun y => by simp [List.take_succ_cons]
              refine ⟨by simp <;> omega, by omega, rfl, ?_, fun y => ?_, fun y => ?_⟩
              · have := etk []
                simp only [List.append_nil] at this
                rw [this]
                exact last_cons (last_cons (last_cons (last_cons (last_cons (last_cons (last_cons (last_cons (last_cons h3))))))))
              · rw [etk]
                simp [raw2, List.isPrefixOf, h4 y]
              · rw [etk]; exact tag_no 33 _ (by decide) rfl
          · match s with
            | [] => cases h
            | [_] => cases h
            | [_, _] => cases h
            | a :: b :: c :: t =>
              simp only [declL] at h
              split at h
              · rename_i hd
                obtain ⟨rfl, rfl, hl⟩ := hd
                cases hm : upL [62] t with
                | none => simp [hm] at h
                | some m =>
                  simp [hm] at h
                  subst h
                  obtain ⟨h1, h2, h3, h4⟩ := up_front _ (by decide) t m hm
                  have hc1 : c ≠ 45 := by rintro rfl; cases hl
                  have hc2 : c ≠ 91 := by rintro rfl; cases hl
                  have etk : ∀ y, (60 :: 33 :: c :: t).take (m + 3) ++ y = 60 :: 33 :: c :: (t.take m ++ y) := fun y => by simp [List.take_succ_cons]
                  refine ⟨by simp <;> omega, by omega, rfl, ?_, fun y => ?_, fun y => ?_⟩
                  · have := etk []
                    simp only [List.append_nil] at this
                    rw [this]
                    exact last_cons (last_cons (last_cons h3))
                  · rw [etk]
                    have e1 : ((45 : UInt8) == c) = false := by simpa using Ne.symm hc1
                    have e2 : ((91 : UInt8) == c) = false := by simpa using Ne.symm hc2
                    simp [raw2, List.isPrefixOf, e1, e2, declL, hl, h4 y]
                  · rw [etk]; exact tag_no 33 _ (by decide) rfl
              · cases h

end Go.Proofs.YtegjpfhpkkffiaaDoor
