/- Plain mathematics: what is given can be taken away. -/
import Derived.Test.YtocfdpjclmieiaaPlainAcl2
set_option linter.unusedVariables false
namespace Go.Proofs.Ytocfdpjclmieiaa

theorem asc_ext : ∀ (a b : List GrA), Asc a → Asc b → (∀ x, x ∈ a ↔ x ∈ b) → a = b
  | [], [], _, _, _ => rfl
  | [], y :: b, _, _, h => by have := (h y).2 (List.mem_cons_self ..); cases this
  | x :: a, [], _, _, h => by have := (h x).1 (List.mem_cons_self ..); cases this
  | x :: a, y :: b, ha, hb, h => by
    obtain ⟨a1, a2⟩ := List.pairwise_cons.1 ha
    obtain ⟨b1, b2⟩ := List.pairwise_cons.1 hb
    have hself : ∀ z : GrA, ¬ ordL z z < 0 := fun z => by rw [ord_same rfl rfl]; decide
    have hxy : x = y := by
      rcases List.mem_cons.1 ((h x).1 (List.mem_cons_self ..)) with e | e
      · exact e
      · rcases List.mem_cons.1 ((h y).2 (List.mem_cons_self ..)) with e' | e'
        · exact e'.symm
        · exact absurd (ord_trans (a1 y e') (b1 x e)) (hself x)
    subst hxy
    rw [asc_ext a b a2 b2 (fun z => ?_)]
    constructor
    · intro hz
      rcases List.mem_cons.1 ((h z).1 (List.mem_cons_of_mem _ hz)) with e | e
      · rw [e] at hz
        exact absurd (a1 x hz) (hself x)
      · exact e
    · intro hz
      rcases List.mem_cons.1 ((h z).2 (List.mem_cons_of_mem _ hz)) with e | e
      · rw [e] at hz
        exact absurd (b1 x hz) (hself x)
      · exact e

def withR (g : GrA) (r : Int) : GrA := ⟨g.tenant, g.who, r⟩
theorem ord_withR (x g : GrA) (r : Int) : ordL x (withR g r) = ordL x g := ord_ignore x (withR g r) g rfl rfl
theorem fits_parts {g : GrA} {k : Int} (h : fitsA g k = true) : ∃ home own, whoA g.who = some (home, own) ∧ nameA g.tenant = true ∧ home ≠ g.tenant ∧ k ≤ g.right ∧ g.right ≤ 3 := by
  unfold fitsA at h
  cases hw : whoA g.who with
  | none => rw [hw] at h; cases h
  | some p =>
    obtain ⟨a, b⟩ := p
    rw [hw] at h
    simp only [Bool.and_eq_true, decide_eq_true_eq, Bool.not_eq_true', beq_eq_false_iff_ne] at h
    exact ⟨a, b, rfl, h.1.1, h.1.2, h.2.1, h.2.2⟩
theorem fits_withR {g : GrA} {k : Int} (h : fitsA g k = true) {r : Int} (h0 : 0 ≤ r) (h3 : r ≤ 3) : fitsA (withR g r) 0 = true := by
  obtain ⟨a, b, hw, hn, hne, _, _⟩ := fits_parts h
  unfold fitsA withR
  simp only [hw]
  simp [hn, hne, h0, h3]
theorem may_key {l : List GrA} (hr : rightA l = true) {g : GrA} {k : Int} (hf : fitsA g k = true) : mayA l g.tenant g.who = grantedL l { tenant := g.tenant, who := g.who } := by
  obtain ⟨a, b, hw, hn, hne, _, _⟩ := fits_parts hf
  unfold mayA
  rw [if_neg (by rw [hr]; simp), hw]
  simp only
  rw [if_neg (by rw [hn]; simp), if_pos hne]
theorem give_has {l : List GrA} (h1 : rightA l = true) {g : GrA} (h2 : fitsA g 0 = true) (h3 : errA l g = 0) : mayA (setL l g) g.tenant g.who = g.right := by
  have hk : ordL g { tenant := g.tenant, who := g.who } = 0 := ord_same rfl rfl
  rw [may_key (set_right h1 h2 h3) h2, set_granted (right_asc h1).2.2, if_pos hk]
theorem give_others {l : List GrA} (h1 : rightA l = true) {g : GrA} (h2 : fitsA g 0 = true) (h3 : errA l g = 0) {t o : StrA} (h : t ≠ g.tenant ∨ o ≠ g.who) : mayA (setL l g) t o = mayA l t o := by
  have hk : ordL g { tenant := t, who := o } ≠ 0 := fun e => by
    have := ord_eq e
    rcases h with h | h
    · exact h this.1.symm
    · exact h this.2.symm
  unfold mayA
  rw [if_neg (by rw [set_right h1 h2 h3]; simp), if_neg (by rw [h1]; simp)]
  cases whoA o with
  | none => rfl
  | some p =>
    obtain ⟨a, b⟩ := p
    simp only
    rw [set_granted (right_asc h1).2.2, if_neg hk]
/-- The grants again, when what was is put back. -/
theorem give_back {l : List GrA} (h1 : rightA l = true) {g : GrA} (h2 : fitsA g 0 = true) : setL (setL l g) (withR g (grantedL l { tenant := g.tenant, who := g.who })) = l := by
  obtain ⟨_, hf, hs⟩ := right_asc h1
  have hsx := set_asc hs g
  refine asc_ext _ _ (set_asc hsx _) hs (fun x => ?_)
  rw [set_mem hsx, set_mem hs, ord_withR]
  constructor
  · rintro (⟨h | ⟨rfl, _⟩, hne⟩ | ⟨rfl, hr⟩)
    · exact h.1
    · exact absurd (ord_same rfl rfl) hne
    · by_cases hex : ∃ y ∈ l, ordL y g = 0
      · obtain ⟨y, hy, h0⟩ := hex
        obtain ⟨i, hi⟩ := List.mem_iff_getElem?.1 hy
        have h0' : ordL y { tenant := g.tenant, who := g.who } = 0 := h0
        have hg := (granted_is hs hi h0').2.1
        have hk := ord_eq h0
        have : withR g (grantedL l { tenant := g.tenant, who := g.who }) = y := by
          rw [hg]
          obtain ⟨a, b, c⟩ := y
          simp only at hk
          unfold withR
          rw [hk.1, hk.2]
        rw [this]
        exact hy
      · exact absurd (granted_none (l := l) (g := { tenant := g.tenant, who := g.who }) (fun y hy e => hex ⟨y, hy, e⟩)).1 hr
  · intro hx
    by_cases h0 : ordL x g = 0
    · right
      obtain ⟨i, hi⟩ := List.mem_iff_getElem?.1 hx
      have h0' : ordL x { tenant := g.tenant, who := g.who } = 0 := h0
      have hg := (granted_is hs hi h0').2.1
      have hk := ord_eq h0
      obtain ⟨_, _, _, _, _, h5, _⟩ := fits_parts (hf x hx)
      rw [show (withR g (grantedL l { tenant := g.tenant, who := g.who })).right = grantedL l { tenant := g.tenant, who := g.who } from rfl, hg]
      refine ⟨?_, by omega⟩
      obtain ⟨a, b, c⟩ := x
      simp only at hk
      unfold withR
      rw [← hk.1, ← hk.2]
    · exact .inl ⟨.inl ⟨hx, h0⟩, h0⟩
theorem granted_range {l : List GrA} (h1 : rightA l = true) (k : GrA) : 0 ≤ grantedL l k ∧ grantedL l k ≤ 3 ∧ (hasL l k = true → 1 ≤ grantedL l k) := by
  obtain ⟨_, hf, hs⟩ := right_asc h1
  cases hh : hasL l k
  · have : grantedL l k = 0 := by
      unfold hasL at hh
      unfold grantedL
      cases hx : l[posL l k]? with
      | none => rfl
      | some x =>
        rw [hx] at hh
        simp only [beq_eq_false_iff_ne] at hh
        simp only
        rw [if_neg hh]
    rw [this]
    exact ⟨by decide, by decide, fun e => by cases e⟩
  · obtain ⟨x, hx, h0⟩ := has_at hh
    have hg := (granted_is hs hx h0).2.1
    obtain ⟨_, _, _, _, _, h5, h6⟩ := fits_parts (hf x (List.mem_of_getElem? hx))
    rw [hg]
    exact ⟨by omega, by omega, fun _ => h5⟩
theorem has_key (l : List GrA) (g : GrA) (r : Int) : hasL l (withR g r) = hasL l g ∧ posL l (withR g r) = posL l g := by
  have hp : posL l (withR g r) = posL l g := by
    unfold posL
    congr 1
  refine ⟨?_, hp⟩
  unfold hasL
  rw [hp]
  rfl
theorem give_zero {l : List GrA} (h1 : rightA l = true) {g : GrA} (h2 : fitsA g 0 = true) (h3 : errA l g = 0) : errA (setL l g) (withR g 0) = 0 := by
  unfold errA
  rw [if_neg (by rw [set_right h1 h2 h3, fits_withR h2 (Int.le_refl 0) (by decide)]; simp), if_neg (fun h => h.1 rfl)]
theorem give_put {l : List GrA} (h1 : rightA l = true) {g : GrA} (h2 : fitsA g 0 = true) (h3 : errA l g = 0) {r : Int} (h0 : 0 ≤ r) (hr3 : r ≤ 3) (hh : hasL l g = true) : errA (setL l g) (withR g r) = 0 := by
  obtain ⟨h64, _, hs⟩ := right_asc h1
  unfold errA
  rw [if_neg (by rw [set_right h1 h2 h3, fits_withR h2 h0 hr3]; simp), if_neg]
  rintro ⟨_, hn, hl⟩
  rw [(has_key _ g r).1] at hn
  have hlen := set_len (l := l) g
  rw [if_pos hh] at hlen
  by_cases hr : g.right ≠ 0
  · rw [has_set hs g g (ord_same rfl rfl) hr] at hn
    cases hn
  · rw [if_neg hr] at hlen
    omega
theorem give_less {l : List GrA} (h1 : rightA l = true) {g : GrA} (hh : hasL l g = true) : (setL (setL l g) (withR g 0)).length + 1 = l.length := by
  obtain ⟨_, _, hs⟩ := right_asc h1
  have e1 := set_len (l := l) g
  have e2 := set_len (l := setL l g) (withR g 0)
  rw [if_pos hh] at e1
  rw [(has_key _ g 0).1, if_neg (show ¬ (withR g 0).right ≠ 0 from fun h => h rfl)] at e2
  by_cases hr : g.right ≠ 0
  · rw [if_pos hr] at e1
    rw [has_set hs g g (ord_same rfl rfl) hr, if_pos rfl] at e2
    omega
  · rw [if_neg hr] at e1
    have : hasL (setL l g) g = false := by
      refine (granted_none fun x hx e => ?_).2
      rcases (set_mem hs g x).1 hx with ⟨_, q⟩ | ⟨_, q⟩
      · exact q e
      · exact hr q
    rw [this, if_neg (by decide)] at e2
    omega
end Go.Proofs.Ytocfdpjclmieiaa
