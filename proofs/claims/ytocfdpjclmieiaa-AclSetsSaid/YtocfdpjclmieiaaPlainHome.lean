/- Plain mathematics: what the law of AclHome looks for. -/
import Derived.Test.YtocfdpjclmieiaaPlainAcl2
set_option linter.unusedVariables false
namespace Go.Proofs.Ytocfdpjclmieiaa

def hitA (g : GrA) (t o : StrA) : Bool := (g.tenant == t) && (g.who == o)
/-- The right of the last one of the first k that meets. -/
def lastN (l : List GrA) (t o : StrA) : Nat → Int
  | 0 => 0
  | k + 1 => match l[k]? with
    | some g => if hitA g t o = true then g.right else lastN l t o k
    | none => lastN l t o k
theorem hit_ord {g : GrA} {t o : StrA} : hitA g t o = true ↔ ordL g { tenant := t, who := o } = 0 := by
  constructor
  · intro h
    unfold hitA at h
    simp only [Bool.and_eq_true, beq_iff_eq] at h
    exact ord_same h.1 h.2
  · intro h
    have := ord_eq h
    unfold hitA
    simp only [Bool.and_eq_true, beq_iff_eq]
    exact this
theorem last_next {l : List GrA} {t o : StrA} {k : Nat} {g : GrA} (h : l[k]? = some g) : lastN l t o (k + 1) = if hitA g t o = true then g.right else lastN l t o k := by
  show (match l[k]? with
    | some g => if hitA g t o = true then g.right else lastN l t o k
    | none => lastN l t o k) = _
  rw [h]
theorem last_none {l : List GrA} {t o : StrA} : ∀ k, (∀ i g, i < k → l[i]? = some g → hitA g t o = false) → lastN l t o k = 0
  | 0, _ => rfl
  | k + 1, h => by
    have ih := last_none k (fun i g hi hg => h i g (by omega) hg)
    cases hx : l[k]? with
    | none =>
      show (match l[k]? with
        | some g => if hitA g t o = true then g.right else lastN l t o k
        | none => lastN l t o k) = _
      rw [hx]
      exact ih
    | some g =>
      rw [last_next hx, h k g (by omega) hx]
      exact ih
theorem last_some {l : List GrA} {t o : StrA} {i : Nat} {x : GrA} (hx : l[i]? = some x) (hh : hitA x t o = true) (hu : ∀ j g, l[j]? = some g → hitA g t o = true → j = i) : ∀ k, i < k → lastN l t o k = x.right
  | 0, h => absurd h (Nat.not_lt_zero _)
  | k + 1, h => by
    by_cases he : k = i
    · subst he
      rw [last_next hx, if_pos hh]
    · have ih := last_some hx hh hu k (by omega)
      cases hy : l[k]? with
      | none =>
        show (match l[k]? with
          | some g => if hitA g t o = true then g.right else lastN l t o k
          | none => lastN l t o k) = _
        rw [hy]
        exact ih
      | some g =>
        rw [last_next hy, if_neg]
        · exact ih
        · intro e
          exact he (hu k g hy e)
theorem last_granted {l : List GrA} (hs : Asc l) (t o : StrA) : lastN l t o l.length = grantedL l { tenant := t, who := o } := by
  by_cases hex : ∃ x ∈ l, hitA x t o = true
  · obtain ⟨x, hx, hh⟩ := hex
    obtain ⟨i, hi⟩ := List.mem_iff_getElem?.1 hx
    have h0 := hit_ord.1 hh
    rw [(granted_is hs hi h0).2.1]
    refine last_some hi hh (fun j g hj hg => ?_) _ (List.getElem?_eq_some_iff.1 hi).1
    have := (granted_is hs hj (hit_ord.1 hg)).1
    rw [(granted_is hs hi h0).1] at this
    exact this.symm
  · rw [(granted_none fun x hx e => hex ⟨x, hx, hit_ord.2 e⟩).1]
    refine last_none _ (fun i g _ hg => ?_)
    rw [Bool.eq_false_iff]
    exact fun e => hex ⟨g, List.mem_of_getElem? hg, e⟩
def wantA (own : StrA) : Int := if own = [114, 111, 111, 116] then 3 else 2
theorem home_may {l : List GrA} (hr : rightA l = true) {t own : StrA} (ht : nameA t = true) (ho : nameA own = true) : mayA l t (t ++ 47 :: own) = wantA own := by
  unfold mayA wantA
  rw [if_neg (by rw [hr]; simp), who_of ht ho]
  simp only
  rw [if_neg (by rw [ht]; simp), if_neg (by simp)]
theorem other_may {l : List GrA} (hr : rightA l = true) {t own other : StrA} (ht : nameA t = true) (ho : nameA own = true) (hq : nameA other = true) : mayA l t (other ++ 47 :: own) = if other = t then wantA own else lastN l t (other ++ 47 :: own) l.length := by
  by_cases h : other = t
  · subst h
    rw [if_pos rfl]
    exact home_may hr ht ho
  · rw [if_neg h, last_granted (right_asc hr).2.2]
    unfold mayA
    rw [if_neg (by rw [hr]; simp), who_of hq ho]
    simp only
    rw [if_neg (by rw [ht]; simp), if_pos h]
theorem name_len {s : StrA} (h : nameA s = true) : s.length ≤ 16 := by
  unfold nameA at h
  simp only [Bool.and_eq_true, decide_eq_true_eq] at h
  exact h.1.1.2
end Go.Proofs.Ytocfdpjclmieiaa
