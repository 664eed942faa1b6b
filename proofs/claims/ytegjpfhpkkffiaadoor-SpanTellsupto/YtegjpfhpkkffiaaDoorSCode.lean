/- Code in package span: accents, codeText, Code. -/
import Derived.Test.YtegjpfhpkkffiaaDoorSRaw
import Derived.Lib.ReplaceLaws
import Derived.Lib.TrimByte
import Derived.Below
set_option linter.unusedVariables false
namespace Go.Proofs.YtegjpfhpkkffiaaDoor
open Go.RowKit

/-! ### Over lists -/

def feed (b : UInt8) : UInt8 := if b = 10 then 32 else b

theorem idx_ne {b : UInt8} (h : b ≠ 10) (t : List UInt8) : Lib.index (b :: t) [10] = if Lib.index t [10] == -1 then -1 else Lib.index t [10] + 1 := by
  rw [show Lib.index (b :: t) [10] = if List.isPrefixOf [10] (b :: t) then 0 else if Lib.index t [10] == -1 then -1 else Lib.index t [10] + 1 from rfl, if_neg]
  simp [List.isPrefixOf]; exact fun e => h e.symm
theorem idx_eq (t : List UInt8) : Lib.index (10 :: t) [10] = 0 := by
  rw [show Lib.index (10 :: t) [10] = if List.isPrefixOf [10] (10 :: t) then 0 else if Lib.index t [10] == -1 then -1 else Lib.index t [10] + 1 from rfl, if_pos]
  simp [List.isPrefixOf]

theorem rep_ne {b : UInt8} (h : b ≠ 10) (t : List UInt8) (k : Nat) : Lib.replaceK [10] [32] k (b :: t) = b :: Lib.replaceK [10] [32] k t := by
  cases k with
  | zero => rfl
  | succ k =>
    have hge := Lib.index_ge t [10]
    simp only [Lib.replaceK]
    rw [idx_ne h]
    by_cases hi : Lib.index t [10] = -1
    · rw [hi]; rfl
    · have h1 : (Lib.index t [10] == -1) = false := by rw [beq_eq_false_iff_ne]; exact hi
      rw [h1]
      have h2 : ((Lib.index t [10] + 1) == -1) = false := by rw [beq_eq_false_iff_ne]; omega
      simp only [Bool.false_eq_true, if_false, h2]
      rw [show (Lib.index t [10] + 1).toNat = (Lib.index t [10]).toNat + 1 by omega, List.take_succ_cons, List.length_singleton, List.drop_succ_cons]
      rfl

theorem rep_map : ∀ (l : List UInt8) (k : Nat), l.count 10 ≤ k → Lib.replaceK [10] [32] k l = l.map feed
  | [], k, _ => by
    cases k with
    | zero => rfl
    | succ k => rfl
  | b :: t, k, h => by
    by_cases hb : b = 10
    · subst hb
      rw [List.count_cons_self] at h
      match k with
      | 0 => omega
      | k + 1 =>
        simp only [Lib.replaceK]
        rw [idx_eq]
        show _ ++ Lib.replaceK [10] [32] k t = _
        rw [rep_map t k (by omega)]
        rfl
    · rw [rep_ne hb, rep_map t k (by rw [List.count_cons_of_ne hb] at h; exact h)]
      simp [feed, hb]

theorem rep_all (l : List UInt8) : Lib.replaceAll l [10] [32] = l.map feed := by
  unfold Lib.replaceAll Lib.replace
  rw [if_neg (by decide)]
  unfold Lib.replaceNum
  rw [if_pos (.inl (by decide)), Lib.count_one]
  exact rep_map l _ (Nat.le_refl _)

theorem dw_nil (p : UInt8 → Bool) : ∀ l : List UInt8, (l.dropWhile p).isEmpty = l.all p
  | [] => rfl
  | b :: t => by
    rw [List.dropWhile_cons, List.all_cons]
    cases h : p b
    · rfl
    · simp [dw_nil p t]

theorem all_of_dw (p : UInt8 → Bool) (l : List UInt8) (h : l.all p = true) : l.dropWhile p = [] := by
  have := dw_nil p l
  rw [h] at this
  simpa using this

theorem trim_empty (l : List UInt8) : (Lib.trimB l 32).isEmpty = l.all (· == 32) := by
  unfold Lib.trimB Lib.trimLeftB Lib.trimRightB
  rw [dw_nil, List.all_reverse]
  cases h : l.all (· == 32)
  · by_cases hr : (l.reverse.dropWhile (· == 32)).all (· == 32) = true
    · exfalso
      have h2 : (l.reverse.takeWhile (· == 32)).all (· == 32) = true := by
        rw [List.all_eq_true]
        intro x hx
        exact tw_mem (· == 32) _ x hx
      have h3 := List.takeWhile_append_dropWhile (p := (· == (32 : UInt8))) (l := l.reverse)
      have h4 : l.reverse.all (· == 32) = true := by rw [← h3, List.all_append, h2, hr]; rfl
      rw [List.all_reverse, h] at h4
      cases h4
    · simpa using hr
  · rw [all_of_dw _ _ (by rw [List.all_reverse]; exact h)]
    rfl

theorem inner_cut (l : List UInt8) (h1 : [32].isPrefixOf (l.map feed) = true) (h2 : [32].isSuffixOf (l.map feed) = true) (h3 : (l.map feed).all (· == 32) = false) : innerL l = ((l.map feed).drop 1).dropLast ∧ 1 < (l.map feed).length := by
  have e : innerL l = if 1 < (l.map feed).length ∧ (l.map feed).all (· == 32) = false ∧ (l.map feed).head? = some 32 ∧ (l.map feed).getLast? = some 32 then ((l.map feed).drop 1).dropLast else l.map feed := rfl
  obtain ⟨t, ht⟩ := List.isPrefixOf_iff_prefix.1 h1
  obtain ⟨u, hu⟩ := List.isSuffixOf_iff_suffix.1 h2
  rw [e]
  generalize l.map feed = m at *
  have hlen : 1 < m.length := by
    rw [← ht]
    cases t with
    | nil => rw [← ht] at h3; cases h3
    | cons b t => simp
  rw [if_pos]
  · exact ⟨rfl, hlen⟩
  · refine ⟨hlen, h3, by rw [← ht]; rfl, ?_⟩
    rw [← hu]
    simp

theorem inner_keep (l : List UInt8) (h : [32].isPrefixOf (l.map feed) = false ∨ [32].isSuffixOf (l.map feed) = false ∨ (l.map feed).all (· == 32) = true) : innerL l = l.map feed := by
  have e : innerL l = if 1 < (l.map feed).length ∧ (l.map feed).all (· == 32) = false ∧ (l.map feed).head? = some 32 ∧ (l.map feed).getLast? = some 32 then ((l.map feed).drop 1).dropLast else l.map feed := rfl
  rw [e, if_neg]
  generalize l.map feed = m at *
  rintro ⟨h1, h2, h3, h4⟩
  rcases h with h | h | h
  · cases m with
    | nil => cases h3
    | cons b t =>
      have : b = 32 := by simpa using h3
      subst this
      simp [List.isPrefixOf] at h
  · have hne : m ≠ [] := by rintro rfl; cases h3
    have h5 := List.getLast?_eq_some_getLast hne
    rw [h4] at h5
    have h6 := List.dropLast_concat_getLast hne
    rw [← Option.some.inj h5] at h6
    have : [32].isSuffixOf m = true := List.isSuffixOf_iff_suffix.2 ⟨m.dropLast, h6⟩
    rw [this] at h; cases h
  · rw [h] at h2; cases h2

/-! ### Runs -/

theorem run_le : ∀ l : List UInt8, runL l ≤ l.length
  | [] => Nat.le_refl _
  | b :: t => by
    simp only [runL]
    split
    · have := run_le t; simp; omega
    · omega
theorem run_dw : ∀ l : List UInt8, l.dropWhile (· == 96) = l.drop (runL l)
  | [] => rfl
  | b :: t => by
    simp only [runL]
    rw [List.dropWhile_cons]
    by_cases h : b = 96
    · rw [if_pos h, if_pos (by simpa using h), run_dw t]; rfl
    · rw [if_neg h, if_neg (by simpa using h)]; rfl

theorem scan_run (k : Nat) : ∀ (l : List UInt8) (r : Nat), scanC k r l = if r + runL l = k then some (runL l) else match l.drop (runL l) with | [] => none | b :: t => (scanC k 0 t).map (· + (runL l + 1))
  | [], r => by simp [scanC, runL]
  | b :: t, r => by
    by_cases hb : b = 96
    · subst hb
      simp only [scanC, runL, if_true]
      rw [scan_run k t (r + 1), show r + (runL t + 1) = r + 1 + runL t by omega]
      split
      · rfl
      · rw [List.drop_succ_cons]
        cases hd : t.drop (runL t) with
        | nil => rfl
        | cons c u =>
          simp only [Option.map_map]
          congr 1
    · simp only [scanC, runL, if_neg hb, Nat.add_zero]
      split
      · rfl
      · rfl

theorem scan_step (k : Nat) (hk : 0 < k) (l : List UInt8) : scanC k 0 l = if runL l = k then some k else if l = [] then none else (scanC k 0 (l.drop (max (runL l) 1))).map (· + max (runL l) 1) := by
  rw [scan_run]
  by_cases h : runL l = k
  · rw [if_pos (by omega), if_pos h, h]
  · rw [if_neg (by omega), if_neg h]
    cases l with
    | nil => simp [runL]
    | cons b t =>
      rw [if_neg (by simp)]
      by_cases hb : b = 96
      · subst hb
        have hr : runL (96 :: t) = runL t + 1 := by simp [runL]
        rw [hr, show max (runL t + 1) 1 = runL t + 1 by omega, List.drop_succ_cons]
        cases hd : t.drop (runL t) with
        | nil =>
          show none = (scanC k 0 []).map _
          simp only [scanC]
          rw [if_neg (by omega)]; rfl
        | cons c u =>
          have hc : c ≠ 96 := by
            have := (run_split (96 :: t)).2
            rw [hr, List.drop_succ_cons, hd] at this
            simpa using this
          simp only [scanC, if_neg hc]
          rw [if_neg (by omega), Option.map_map]
          congr 1
          funext x
          simp only [Function.comp_apply]
          omega
      · have hr : runL (b :: t) = 0 := by simp [runL, hb]
        rw [hr]
        rfl

end Go.Proofs.YtegjpfhpkkffiaaDoor
