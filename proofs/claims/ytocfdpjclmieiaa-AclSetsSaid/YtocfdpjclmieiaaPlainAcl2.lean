/- Plain mathematics: grants behind a Set. -/
import Derived.Test.YtocfdpjclmieiaaPlainAcl
set_option linter.unusedVariables false
namespace Go.Proofs.Ytocfdpjclmieiaa

def gainA (g : GrA) : List GrA := if g.right ≠ 0 then [g] else []
def setL (l : List GrA) (g : GrA) : List GrA := l.take (posL l g) ++ gainA g ++ l.drop (posL l g + (if hasL l g = true then 1 else 0))
def errA (l : List GrA) (g : GrA) : Int := if rightA l = false ∨ fitsA g 0 = false then 1 else if g.right ≠ 0 ∧ hasL l g = false ∧ l.length = 64 then 11 else 0

theorem has_at {l : List GrA} {g : GrA} (h : hasL l g = true) : ∃ x, l[posL l g]? = some x ∧ ordL x g = 0 := by
  unfold hasL at h
  cases hx : l[posL l g]? with
  | none => rw [hx] at h; cases h
  | some x =>
    rw [hx] at h
    simp only [beq_iff_eq] at h
    exact ⟨x, rfl, h⟩
theorem gain_mem {g x : GrA} (h : x ∈ gainA g) : x = g ∧ g.right ≠ 0 := by
  unfold gainA at h
  split at h
  · rename_i hr
    exact ⟨List.mem_singleton.1 h, hr⟩
  · cases h
theorem take_less {l : List GrA} {g x : GrA} (h : x ∈ l.take (posL l g)) : ordL x g < 0 := by
  obtain ⟨i, hi⟩ := List.mem_iff_getElem?.1 h
  have hlt := (List.getElem?_eq_some_iff.1 hi).1
  rw [List.length_take] at hlt
  rw [List.getElem?_take_of_lt (by omega)] at hi
  exact pos_lt (by omega) hi
theorem drop_more {l : List GrA} (hs : Asc l) {g x : GrA} (h : x ∈ l.drop (posL l g + (if hasL l g = true then 1 else 0))) : ordL g x < 0 := by
  obtain ⟨i, hi⟩ := List.mem_iff_getElem?.1 h
  rw [List.getElem?_drop] at hi
  have h1 : ¬ ordL x g < 0 := pos_ge hs (by omega) hi
  have h2 : ordL x g ≠ 0 := fun e => by
    obtain ⟨p1, _, p3⟩ := granted_is hs hi e
    rw [p3, if_pos rfl] at p1
    omega
  have h3 := ord_three x g
  rw [ord_swap x g]
  omega
theorem set_asc {l : List GrA} (hs : Asc l) (g : GrA) : Asc (setL l g) := by
  unfold setL
  refine List.pairwise_append.2 ⟨List.pairwise_append.2 ⟨hs.sublist (List.take_sublist _ _), ?_, fun a ha b hb => ?_⟩, hs.sublist (List.drop_sublist _ _), fun a ha b hb => ?_⟩
  · unfold gainA
    split
    · exact List.pairwise_singleton _ _
    · exact List.Pairwise.nil
  · rw [(gain_mem hb).1]
    exact take_less ha
  · have h2 := drop_more hs hb
    rcases List.mem_append.1 ha with ha | ha
    · exact ord_trans (take_less ha) h2
    · rw [(gain_mem ha).1]
      exact h2
theorem set_mem {l : List GrA} (hs : Asc l) (g x : GrA) : x ∈ setL l g ↔ (x ∈ l ∧ ordL x g ≠ 0) ∨ (x = g ∧ g.right ≠ 0) := by
  unfold setL
  constructor
  · intro h
    rcases List.mem_append.1 h with h | h
    · rcases List.mem_append.1 h with h | h
      · have := take_less h
        exact .inl ⟨List.mem_of_mem_take h, by omega⟩
      · exact .inr (gain_mem h)
    · have := drop_more hs h
      rw [ord_swap x g] at this
      exact .inl ⟨List.mem_of_mem_drop h, by omega⟩
  · rintro (⟨h1, h2⟩ | ⟨rfl, h2⟩)
    · obtain ⟨i, hi⟩ := List.mem_iff_getElem?.1 h1
      have hlt := (List.getElem?_eq_some_iff.1 hi).1
      by_cases hip : i < posL l g
      · refine List.mem_append_left _ (List.mem_append_left _ ?_)
        exact List.mem_of_getElem? (by rw [List.getElem?_take_of_lt hip]; exact hi)
      · refine List.mem_append_right _ ?_
        have hge : posL l g + (if hasL l g = true then 1 else 0) ≤ i := by
          split
          · rename_i hh
            obtain ⟨y, hy, hy0⟩ := has_at hh
            have : i ≠ posL l g := fun e => by
              rw [e, hy] at hi
              cases hi
              exact h2 hy0
            omega
          · omega
        exact List.mem_of_getElem? (i := i - (posL l g + (if hasL l g = true then 1 else 0))) (by rw [List.getElem?_drop, show posL l g + (if hasL l g = true then 1 else 0) + (i - (posL l g + (if hasL l g = true then 1 else 0))) = i by omega]; exact hi)
    · refine List.mem_append_left _ (List.mem_append_right _ ?_)
      unfold gainA
      rw [if_pos h2]
      exact List.mem_singleton.2 rfl
theorem fits_one {g : GrA} (h : fitsA g 0 = true) (hr : g.right ≠ 0) : fitsA g 1 = true := by
  unfold fitsA at h ⊢
  cases hw : whoA g.who with
  | none => rw [hw] at h; cases h
  | some p =>
    rw [hw] at h
    simp only [Bool.and_eq_true, decide_eq_true_eq] at h ⊢
    exact ⟨h.1, by omega, h.2.2⟩
theorem right_of {l : List GrA} (h1 : l.length ≤ 64) (h2 : ∀ g ∈ l, fitsA g 1 = true) (h3 : Asc l) : rightA l = true := by
  unfold rightA
  simp only [Bool.and_eq_true, decide_eq_true_eq]
  refine ⟨⟨h1, List.all_eq_true.2 h2⟩, fun i hi h0 => ?_⟩
  have := List.pairwise_iff_getElem.1 h3 (i - 1) i (by omega) hi (by omega)
  rw [List.getD_eq_getElem?_getD, List.getElem?_eq_getElem (by omega : i - 1 < l.length), List.getD_eq_getElem?_getD, List.getElem?_eq_getElem hi]
  exact this
theorem set_len {l : List GrA} (g : GrA) : (setL l g).length + (if hasL l g = true then 1 else 0) = l.length + (if g.right ≠ 0 then 1 else 0) := by
  have hp := pos_le l g
  have hh : hasL l g = true → posL l g < l.length := fun h => by
    obtain ⟨x, hx, _⟩ := has_at h
    exact (List.getElem?_eq_some_iff.1 hx).1
  unfold setL gainA
  rw [List.length_append, List.length_append, List.length_take, List.length_drop]
  by_cases hb : hasL l g = true
  · have := hh hb
    rw [if_pos hb]
    split <;> simp <;> omega
  · rw [if_neg hb]
    split <;> simp <;> omega
theorem set_right {l : List GrA} {g : GrA} (h1 : rightA l = true) (h2 : fitsA g 0 = true) (h3 : errA l g = 0) : rightA (setL l g) = true := by
  obtain ⟨a, b, c⟩ := right_asc h1
  have hl := set_len (l := l) g
  refine right_of ?_ ?_ (set_asc c g)
  · unfold errA at h3
    rw [if_neg (by rw [h1, h2]; simp)] at h3
    split at h3
    · cases h3
    · rename_i hn
      by_cases hr : g.right ≠ 0
      · rw [if_pos hr] at hl
        by_cases hb : hasL l g = true
        · rw [if_pos hb] at hl; omega
        · rw [if_neg hb] at hl
          have : l.length ≠ 64 := fun e => hn ⟨hr, by simpa using hb, e⟩
          omega
      · rw [if_neg hr] at hl
        split at hl <;> omega
  · intro x hx
    rcases (set_mem c g x).1 hx with ⟨q, _⟩ | ⟨rfl, q⟩
    · exact b x q
    · exact fits_one h2 q
theorem set_granted {l : List GrA} (hs : Asc l) (g k : GrA) : grantedL (setL l g) k = if ordL g k = 0 then g.right else grantedL l k := by
  have ha := set_asc hs g
  by_cases hk : ordL g k = 0
  · rw [if_pos hk]
    by_cases hr : g.right = 0
    · rw [hr]
      refine (granted_none fun x hx e => ?_).1
      rcases (set_mem hs g x).1 hx with ⟨_, q⟩ | ⟨_, q⟩
      · have h1 := ord_eq hk
        have h2 := ord_eq e
        exact q (ord_same (h2.1.trans h1.1.symm) (h2.2.trans h1.2.symm))
      · exact q hr
    · obtain ⟨i, hi⟩ := List.mem_iff_getElem?.1 ((set_mem hs g g).2 (.inr ⟨rfl, hr⟩))
      exact (granted_is ha hi hk).2.1
  · rw [if_neg hk]
    by_cases hex : ∃ x ∈ l, ordL x k = 0
    · obtain ⟨x, hx, h0⟩ := hex
      have hne : ordL x g ≠ 0 := fun e => by
        have h1 := ord_eq e
        have h2 := ord_eq h0
        exact hk (ord_same (h1.1.symm.trans h2.1) (h1.2.symm.trans h2.2))
      obtain ⟨i, hi⟩ := List.mem_iff_getElem?.1 ((set_mem hs g x).2 (.inl ⟨hx, hne⟩))
      obtain ⟨j, hj⟩ := List.mem_iff_getElem?.1 hx
      rw [(granted_is ha hi h0).2.1, (granted_is hs hj h0).2.1]
    · rw [(granted_none fun x hx e => ?_).1, (granted_none fun x hx e => hex ⟨x, hx, e⟩).1]
      rcases (set_mem hs g x).1 hx with ⟨q, _⟩ | ⟨rfl, _⟩
      · exact hex ⟨x, q, e⟩
      · exact hk e
theorem has_set {l : List GrA} (hs : Asc l) (g k : GrA) (hk : ordL g k = 0) (hr : g.right ≠ 0) : hasL (setL l g) k = true := by
  obtain ⟨i, hi⟩ := List.mem_iff_getElem?.1 ((set_mem hs g g).2 (.inr ⟨rfl, hr⟩))
  exact (granted_is (set_asc hs g) hi hk).2.2
end Go.Proofs.Ytocfdpjclmieiaa
