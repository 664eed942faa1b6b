/- Plain mathematics: a line that includes a document, as the document's answer reads it. -/
import Derived.Test.YtkjicdldlnefeaaDoorPlainInc
set_option linter.unusedVariables false
namespace Go.Proofs.YtkjicdldlnefeaaDoor

def scIn (s : StrA) : Prop := 12 ≤ s.length ∧ s.take 10 = incP ∧ s.drop (s.length - 2) = incE
def scU (s : StrA) : StrA := (s.drop 10).take (s.length - 2 - 10)
theorem sc_in {line : StrA} (h : scIn (scan1 line)) : Lib.hasPrefix (scan1 line) incP = true ∧ Lib.hasSuffix (scan2 line) incE = true ∧ scan3 line = scU (scan1 line) := by
  obtain ⟨h1, h2, h3⟩ := h
  have hp : Lib.hasPrefix (scan1 line) incP = true := by
    unfold Lib.hasPrefix
    rw [List.isPrefixOf_iff_prefix, ← h2]
    exact List.take_prefix _ _
  have h2' : scan2 line = (scan1 line).drop 10 := by unfold scan2 Lib.trimPrefix; rw [if_pos hp]; rfl
  have hs : Lib.hasSuffix (scan2 line) incE = true := by
    unfold Lib.hasSuffix
    rw [List.isSuffixOf_iff_suffix, h2', ← h3]
    have : (scan1 line).length - 2 = 10 + ((scan1 line).length - 2 - 10) := by omega
    rw [this, ← List.drop_drop]
    exact List.drop_suffix _ _
  refine ⟨hp, hs, ?_⟩
  unfold scan3 Lib.trimSuffix
  rw [if_pos hs, h2']
  unfold scU
  rw [List.length_drop]
  show List.take ((scan1 line).length - 10 - 2) _ = _
  rw [show (scan1 line).length - 10 - 2 = (scan1 line).length - 2 - 10 by omega]
theorem sc_out {line : StrA} (h : ¬ scIn (scan1 line)) : scanA line = ({}, false) := by
  have : scanOk line = false := by
    unfold scanOk
    cases hp : Lib.hasPrefix (scan1 line) incP with
    | false => rfl
    | true =>
      cases hs : Lib.hasSuffix (scan2 line) incE with
      | false => rfl
      | true =>
        exfalso
        apply h
        have h2' : scan2 line = (scan1 line).drop 10 := by unfold scan2 Lib.trimPrefix; rw [if_pos hp]; rfl
        unfold Lib.hasPrefix at hp
        unfold Lib.hasSuffix at hs
        rw [List.isPrefixOf_iff_prefix] at hp
        rw [List.isSuffixOf_iff_suffix, h2'] at hs
        obtain ⟨r, hr⟩ := hp
        obtain ⟨q, hq⟩ := hs
        have hl : (scan1 line).drop 10 = r := by rw [← hr]; rfl
        rw [hl] at hq
        have hI : incP.length = 10 := rfl
        have hE : incE.length = 2 := rfl
        have hrl : r.length = q.length + 2 := by rw [← hq, List.length_append, hE]
        have hsl : (scan1 line).length = 10 + r.length := by rw [← hr, List.length_append, hI]
        refine ⟨by omega, by rw [← hr]; rfl, ?_⟩
        rw [hsl, show 10 + r.length - 2 = 10 + q.length by omega, ← List.drop_drop, hl, ← hq]
        simp
  unfold scanA
  rw [if_pos this]
theorem takeW_ne {c : UInt8} {p t : StrA} (h : c ∉ p) : (p ++ c :: t).takeWhile (· != c) = p := by
  induction p with
  | nil => simp
  | cons a p ih =>
    have ha : a ≠ c := fun e => h (by rw [e]; exact List.mem_cons_self)
    rw [List.cons_append, List.takeWhile_cons, if_pos (by simpa using ha), ih (fun q => h (List.mem_cons_of_mem _ q))]
theorem takeW_all {c : UInt8} {p : StrA} (h : c ∉ p) : p.takeWhile (· != c) = p := by
  induction p with
  | nil => rfl
  | cons a p ih =>
    have ha : a ≠ c := fun e => h (by rw [e]; exact List.mem_cons_self)
    rw [List.takeWhile_cons, if_pos (by simpa using ha), ih (fun q => h (List.mem_cons_of_mem _ q))]
theorem cut_hit {c : UInt8} {p t : StrA} (h : c ∉ p) : cutC c (p ++ c :: t) = (p, t, true) := by
  unfold cutC
  rw [takeW_ne h]
  simp
theorem cut_miss {c : UInt8} {p : StrA} (h : c ∉ p) : cutC c p = (p, [], false) := by
  unfold cutC
  rw [takeW_all h]
  simp [h]
/-- No slash. -/
theorem sc_none {line : StrA} (h : scIn (scan1 line)) (hu : (47 : UInt8) ∉ scU (scan1 line)) : scanA line = ({}, false) := by
  obtain ⟨h1, h2, h3⟩ := sc_in h
  have h4 : scan4 line = (scU (scan1 line), [], false) := by unfold scan4; rw [h3]; exact cut_miss hu
  unfold scanA
  rw [if_pos (by unfold scanOk; rw [h1, h2, h4]; rfl)]
theorem name_at {s : StrA} (h : nameA s = true) : (64 : UInt8) ∉ s := by
  intro q
  unfold nameA at h
  rw [Bool.and_eq_true] at h
  exact absurd (List.all_eq_true.1 h.2 64 q) (by decide)
/-- With a slash. -/
theorem sc_slash {line T B : StrA} (h : scIn (scan1 line)) (hu : scU (scan1 line) = T ++ 47 :: B) (hT : (47 : UInt8) ∉ T) : scanA line = if nameA T = false ∨ nameA (cutC 64 B).1 = false then ({}, false) else if (cutC 64 B).2.2 = false then (⟨T, (cutC 64 B).1, 0⟩, true) else if (numberA (cutC 64 B).2.1).2 = false then ({}, false) else (⟨T, (cutC 64 B).1, (numberA (cutC 64 B).2.1).1⟩, true) := by
  obtain ⟨h1, h2, h3⟩ := sc_in h
  have h4 : scan4 line = (T, B, true) := by unfold scan4; rw [h3, hu]; exact cut_hit hT
  have h5 : scan5 line = cutC 64 B := by unfold scan5; rw [h4]
  have hok : scanOk line = (nameA T && nameA (cutC 64 B).1) := by unfold scanOk; rw [h1, h2, h4, h5]; rfl
  unfold scanA
  rw [hok, h4, h5]
  cases nameA T <;> cases nameA (cutC 64 B).1 <;> rfl
end Go.Proofs.YtkjicdldlnefeaaDoor
