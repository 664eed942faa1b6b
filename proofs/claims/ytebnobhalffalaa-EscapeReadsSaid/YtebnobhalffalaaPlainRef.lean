/- Plain mathematics: a name read up to its semicolon is the name read by its letters and digits. -/
import Derived.Test.YtebnobhalffalaaEUnesc
set_option linter.unusedVariables false
namespace Go.Proofs.Ytebnobhalffalaa

def noSemi (c : UInt8) : Bool := !(c == 59)
/-- As the document reads a name: up to a semicolon, at most nineteen bytes. -/
def nameR (l : List UInt8) : List UInt8 × Nat :=
  if l[1 + (((l.drop 1).take 19).takeWhile noSemi).length]? = some 59 ∧ nameT (((l.drop 1).take 19).takeWhile noSemi) ≠ [] then (nameT (((l.drop 1).take 19).takeWhile noSemi), 1 + (((l.drop 1).take 19).takeWhile noSemi).length + 1) else ([], 0)

theorem table_names : ∀ q ∈ table, q.1.all alnum = true ∧ q.1.length ≤ 13 := by decide

theorem nameT_name (x : List UInt8) (h : nameT x ≠ []) : (∀ c ∈ x, alnum c = true) ∧ x.length ≤ 13 := by
  unfold nameT at h
  cases hl : table.lookup x with
  | none => rw [hl] at h; exact absurd rfl h
  | some v =>
    have := table_names (x, v) (lookup_mem table x v hl)
    exact ⟨List.all_eq_true.1 this.1, this.2⟩

theorem tw_of {m x r : List UInt8} {p : UInt8 → Bool} (h : m = x ++ 59 :: r) (hx : ∀ c ∈ x, p c = true) (h59 : p 59 = false) : m.takeWhile p = x := by
  subst h
  rw [List.takeWhile_append_of_pos hx, List.takeWhile_cons, h59]
  simp

theorem split_of {m : List UInt8} {k : Nat} (h : m[k]? = some 59) : m = m.take k ++ 59 :: m.drop (k + 1) := by
  obtain ⟨hk, he⟩ := List.getElem?_eq_some_iff.1 h
  have : m.drop k = 59 :: m.drop (k + 1) := by rw [List.drop_eq_getElem_cons hk, he]
  rw [← this, List.take_append_drop]

theorem get_drop1 (l : List UInt8) (k : Nat) : l[1 + k]? = (l.drop 1)[k]? := by rw [List.getElem?_drop]

theorem nameR_eq (l : List UInt8) : nameR l = nameE l := by
  unfold nameR nameE
  generalize hm : l.drop 1 = m
  have hg : ∀ k, l[1 + k]? = m[k]? := fun k => by rw [get_drop1, hm]
  simp only [hg]
  by_cases c1 : m[((m.take 19).takeWhile noSemi).length]? = some 59 ∧ nameT ((m.take 19).takeWhile noSemi) ≠ []
  · have hx : (m.take 19).takeWhile noSemi = m.take ((m.take 19).takeWhile noSemi).length := by
      have h1 := take_take noSemi (m.take 19)
      rw [List.take_take] at h1
      have h2 : ((m.take 19).takeWhile noSemi).length ≤ 19 := by
        have := (List.takeWhile_prefix (l := m.take 19) noSemi).length_le
        rw [List.length_take] at this
        omega
      rw [Nat.min_eq_left h2] at h1
      exact h1.symm
    have hs := split_of c1.1
    rw [← hx] at hs
    have hy : m.takeWhile alnum = (m.take 19).takeWhile noSemi := by
      have := tw_of (p := alnum) hs (nameT_name _ c1.2).1 (by decide)
      exact this
    rw [if_pos c1, if_pos (by rw [hy]; exact c1), hy]
  · rw [if_neg c1, if_neg]
    intro c2
    apply c1
    have hs := split_of c2.1
    have hy : m.take (m.takeWhile alnum).length = m.takeWhile alnum := take_take alnum m
    rw [hy] at hs
    have hn := nameT_name _ c2.2
    generalize hyy : m.takeWhile alnum = y at *
    have hns : ∀ c ∈ y, noSemi c = true := by
      intro c hc
      have := hn.1 c hc
      unfold noSemi
      by_cases e : c = 59
      · subst e; exact absurd this (by decide)
      · simp [e]
    have hx : (m.take 19).takeWhile noSemi = y := by
      refine tw_of (r := (m.drop (y.length + 1)).take (18 - y.length)) ?_ hns (by decide)
      rw [hs, List.take_append, List.take_of_length_le (by omega)]
      rw [show 19 - y.length = (18 - y.length) + 1 by omega, List.take_succ_cons]
      congr 3
      rw [← hs]
    rw [hx]
    exact c2

/-- Where the document stops to read a name. -/
theorem twR_of {m : List UInt8} {k : Nat} (h : ∀ c ∈ m.take k, noSemi c = true) (hk : k ≤ 19) (he : m.length ≤ k ∨ k = 19 ∨ m[k]? = some 59) : (m.take 19).takeWhile noSemi = m.take k := by
  have h1 : m.take 19 = m.take k ++ (m.drop k).take (19 - k) := by
    rw [← List.take_append_drop k m, List.take_append, List.take_take]
    rw [List.take_append_drop]
    by_cases hl : m.length ≤ k
    · simp [List.drop_eq_nil_of_le hl, List.take_of_length_le hl, Nat.min_eq_right hk]
    · rw [Nat.min_eq_right hk, List.length_take, Nat.min_eq_left (by omega)]
  rw [h1, List.takeWhile_append_of_pos h]
  have : ((m.drop k).take (19 - k)).takeWhile noSemi = [] := by
    rcases he with he | he | he
    · rw [List.drop_eq_nil_of_le he]; simp
    · subst he; simp
    · obtain ⟨hk2, he2⟩ := List.getElem?_eq_some_iff.1 he
      rw [List.drop_eq_getElem_cons hk2, he2]
      cases 19 - k with
      | zero => simp
      | succ j => rw [List.take_succ_cons, List.takeWhile_cons]; simp [noSemi]
  rw [this, List.append_nil]

theorem nameR_of {l : List UInt8} {p : Nat} (h1 : 1 ≤ p) (hx : ((l.drop 1).take 19).takeWhile noSemi = (l.drop 1).take (p - 1)) (hp : p ≤ l.length) :
    nameE l = if l[p]? = some 59 ∧ nameT ((l.drop 1).take (p - 1)) ≠ [] then (nameT ((l.drop 1).take (p - 1)), p + 1) else ([], 0) := by
  have hl : ((l.drop 1).take (p - 1)).length = p - 1 := by rw [List.length_take, List.length_drop]; omega
  rw [← nameR_eq, nameR, hx, hl, show 1 + (p - 1) = p by omega]

end Go.Proofs.Ytebnobhalffalaa
