/- Plain mathematics: grants in their order, and what is found among them. -/
set_option linter.unusedVariables false
namespace Go.Proofs.YtkjicdldlnefeaaDoor

abbrev StrA := List UInt8
structure GrA where
  tenant : StrA := []
  who : StrA := []
  right : Int := 0

def cmpL : StrA → StrA → Int
  | [], [] => 0
  | [], _ :: _ => -1
  | _ :: _, [] => 1
  | a :: x, b :: y => if a.toNat < b.toNat then -1 else if b.toNat < a.toNat then 1 else cmpL x y
theorem cmp_self : ∀ a : StrA, cmpL a a = 0
  | [] => rfl
  | a :: x => by
    unfold cmpL
    rw [if_neg (Nat.lt_irrefl _), if_neg (Nat.lt_irrefl _)]
    exact cmp_self x
theorem cmp_eq : ∀ a b : StrA, cmpL a b = 0 → a = b
  | [], [], _ => rfl
  | [], _ :: _, h => by cases h
  | _ :: _, [], h => by cases h
  | a :: x, b :: y, h => by
    unfold cmpL at h
    split at h
    · cases h
    · split at h
      · cases h
      · have : a = b := UInt8.toNat_inj.1 (by omega)
        rw [this, cmp_eq x y h]
theorem cmp_three : ∀ a b : StrA, cmpL a b = -1 ∨ cmpL a b = 0 ∨ cmpL a b = 1
  | [], [] => .inr (.inl rfl)
  | [], _ :: _ => .inl rfl
  | _ :: _, [] => .inr (.inr rfl)
  | a :: x, b :: y => by
    unfold cmpL
    split
    · exact .inl rfl
    · split
      · exact .inr (.inr rfl)
      · exact cmp_three x y
theorem cmp_swap : ∀ a b : StrA, cmpL b a = - cmpL a b
  | [], [] => rfl
  | [], _ :: _ => rfl
  | _ :: _, [] => rfl
  | a :: x, b :: y => by
    unfold cmpL
    by_cases h1 : a.toNat < b.toNat
    · rw [if_neg (by omega), if_pos h1, if_pos h1]; rfl
    · by_cases h2 : b.toNat < a.toNat
      · rw [if_pos h2, if_neg h1, if_pos h2]
      · rw [if_neg h2, if_neg h1, if_neg h1, if_neg h2]
        exact cmp_swap x y
theorem cmp_trans : ∀ a b c : StrA, cmpL a b < 0 → cmpL b c < 0 → cmpL a c < 0
  | [], [], _, h, _ => by simp [cmpL] at h
  | _ :: _, [], _, h, _ => by simp [cmpL] at h
  | _, _ :: _, [], _, h => by simp [cmpL] at h
  | [], _ :: _, _ :: _, _, _ => by simp [cmpL]
  | a :: x, b :: y, c :: z, h1, h2 => by
    unfold cmpL at h1 h2 ⊢
    split at h1
    · rename_i e1
      split at h2
      · rw [if_pos (by omega)]; decide
      · split at h2
        · simp at h2
        · rw [if_pos (by omega)]; decide
    · split at h1
      · simp at h1
      · split at h2
        · rw [if_pos (by omega)]; decide
        · split at h2
          · simp at h2
          · rw [if_neg (by omega), if_neg (by omega)]
            exact cmp_trans x y z h1 h2

def ordL (a b : GrA) : Int := if cmpL a.tenant b.tenant ≠ 0 then cmpL a.tenant b.tenant else cmpL a.who b.who
theorem ord_eq {a b : GrA} (h : ordL a b = 0) : a.tenant = b.tenant ∧ a.who = b.who := by
  unfold ordL at h
  split at h
  · rename_i e; exact absurd h e
  · rename_i e
    exact ⟨cmp_eq _ _ (Classical.not_not.1 e), cmp_eq _ _ h⟩
theorem ord_same {a b : GrA} (h1 : a.tenant = b.tenant) (h2 : a.who = b.who) : ordL a b = 0 := by
  unfold ordL
  rw [h1, h2, cmp_self, if_neg (by decide), cmp_self]
theorem ord_swap (a b : GrA) : ordL b a = - ordL a b := by
  unfold ordL
  rw [cmp_swap a.tenant b.tenant, cmp_swap a.who b.who]
  by_cases h : cmpL a.tenant b.tenant = 0
  · rw [h]; simp
  · rw [if_pos (by omega), if_pos h]
theorem ord_three (a b : GrA) : ordL a b = -1 ∨ ordL a b = 0 ∨ ordL a b = 1 := by
  unfold ordL
  split
  · exact cmp_three _ _
  · exact cmp_three _ _
theorem ord_trans {a b c : GrA} (h1 : ordL a b < 0) (h2 : ordL b c < 0) : ordL a c < 0 := by
  unfold ordL at *
  split at h1
  · split at h2
    · have := cmp_trans _ _ _ h1 h2
      rw [if_pos (by omega)]
      exact this
    · rename_i e
      rw [← cmp_eq _ _ (Classical.not_not.1 e)]
      rw [if_pos (by assumption)]
      exact h1
  · rename_i e
    rw [cmp_eq _ _ (Classical.not_not.1 e)]
    split at h2
    · rw [if_pos (by assumption)]
      exact h2
    · rename_i e2
      rw [if_neg e2]
      exact cmp_trans _ _ _ h1 h2
/-- The order does not look at rights. -/
theorem ord_ignore (a b c : GrA) (h1 : b.tenant = c.tenant) (h2 : b.who = c.who) : ordL a b = ordL a c := by unfold ordL; rw [h1, h2]

/-- Each one ahead of the next. -/
def Asc (l : List GrA) : Prop := l.Pairwise (fun a b => ordL a b < 0)
/-- How many stand ahead of one. -/
def posL (l : List GrA) (g : GrA) : Nat := (l.takeWhile (fun a => decide (ordL a g < 0))).length
theorem pos_le (l : List GrA) (g : GrA) : posL l g ≤ l.length := (List.takeWhile_sublist _).length_le
theorem pos_lt {l : List GrA} {g : GrA} {i : Nat} {a : GrA} (hi : i < posL l g) (ha : l[i]? = some a) : ordL a g < 0 := by
  unfold posL at hi
  have h1 : (l.takeWhile (fun a => decide (ordL a g < 0)))[i]? = some a := by
    have hp : l.takeWhile (fun a => decide (ordL a g < 0)) <+: l := List.takeWhile_prefix _
    obtain ⟨t, ht⟩ := hp
    rw [← ht, List.getElem?_append_left hi] at ha
    exact ha
  have h2 := List.mem_of_getElem? h1
  have h3 : ∀ (m : List GrA), a ∈ m.takeWhile (fun a => decide (ordL a g < 0)) → ordL a g < 0 := by
    intro m
    induction m with
    | nil => intro h; cases h
    | cons b r ih =>
      intro h
      rw [List.takeWhile_cons] at h
      split at h
      · rename_i hb
        rcases List.mem_cons.1 h with rfl | h
        · exact of_decide_eq_true hb
        · exact ih h
      · cases h
  exact h3 l h2
theorem pos_at : ∀ {l : List GrA} {g : GrA} {a : GrA}, l[posL l g]? = some a → ¬ ordL a g < 0
  | b :: r, g, a, h => by
    unfold posL at h
    rw [List.takeWhile_cons] at h
    split at h
    · rw [List.length_cons, List.getElem?_cons_succ] at h
      exact pos_at h
    · rename_i hb
      have h : some b = some a := h
      cases h
      intro e
      exact hb (decide_eq_true e)
theorem pos_ge {l : List GrA} (hs : Asc l) {g : GrA} {i : Nat} {a : GrA} (hi : posL l g ≤ i) (ha : l[i]? = some a) : ¬ ordL a g < 0 := by
  have hlt := (List.getElem?_eq_some_iff.1 ha).1
  obtain ⟨b, hb⟩ : ∃ b, l[posL l g]? = some b := ⟨_, List.getElem?_eq_getElem (by omega)⟩
  have h1 := pos_at hb
  by_cases he : posL l g = i
  · rw [he] at hb
    rw [ha] at hb
    cases hb
    exact h1
  · intro e
    have hp := List.pairwise_iff_getElem.1 hs (posL l g) i (by omega) hlt (by omega)
    rw [(List.getElem?_eq_some_iff.1 ha).2, (List.getElem?_eq_some_iff.1 hb).2] at hp
    exact h1 (ord_trans hp e)
/-- Whether one stands among others. -/
def hasL (l : List GrA) (g : GrA) : Bool := match l[posL l g]? with
  | some a => ordL a g == 0
  | none => false
/-- The right of one among others; 0 of none. -/
def grantedL (l : List GrA) (g : GrA) : Int := match l[posL l g]? with
  | some a => if ordL a g = 0 then a.right else 0
  | none => 0
theorem granted_is {l : List GrA} (hs : Asc l) {g a : GrA} {i : Nat} (ha : l[i]? = some a) (h : ordL a g = 0) : posL l g = i ∧ grantedL l g = a.right ∧ hasL l g = true := by
  have hlt := (List.getElem?_eq_some_iff.1 ha).1
  have h1 : posL l g ≤ i := by
    rcases Nat.lt_or_ge i (posL l g) with q | q
    · have := pos_lt q ha
      omega
    · exact q
  have h2 : posL l g = i := by
    by_cases he : posL l g = i
    · exact he
    · obtain ⟨b, hb⟩ : ∃ b, l[posL l g]? = some b := ⟨_, List.getElem?_eq_getElem (by omega)⟩
      have hp := List.pairwise_iff_getElem.1 hs (posL l g) i (by omega) hlt (by omega)
      rw [(List.getElem?_eq_some_iff.1 ha).2, (List.getElem?_eq_some_iff.1 hb).2] at hp
      have hk := ord_eq h
      rw [ord_ignore b a g hk.1 hk.2] at hp
      exact absurd hp (pos_at hb)
  refine ⟨h2, ?_, ?_⟩
  · unfold grantedL
    rw [h2, ha]
    simp only
    rw [if_pos h]
  · unfold hasL
    rw [h2, ha]
    simp only
    rw [h]
    rfl
theorem granted_none {l : List GrA} {g : GrA} (h : ∀ a ∈ l, ordL a g ≠ 0) : grantedL l g = 0 ∧ hasL l g = false := by
  unfold grantedL hasL
  cases hx : l[posL l g]? with
  | none => exact ⟨rfl, rfl⟩
  | some a =>
    have := h a (List.mem_of_getElem? hx)
    simp only
    rw [if_neg this]
    exact ⟨rfl, by simpa using this⟩

/-! ### Names and somebodies -/
def letA (c : UInt8) : Bool := decide (97 ≤ c.toNat ∧ c.toNat ≤ 122)
def digA (c : UInt8) : Bool := decide (48 ≤ c.toNat ∧ c.toNat ≤ 57)
def nmC (c : UInt8) : Bool := letA c || digA c || c == 45
def nameA (s : StrA) : Bool := decide (s ≠ [] ∧ s.length ≤ 16) && letA (s.getD 0 0) && s.all nmC
/-- Somebody's tenant and own name. -/
def whoA (s : StrA) : Option (StrA × StrA) :=
  let t := s.takeWhile (· != 47)
  let o := (s.drop t.length).drop 1
  if nameA t = true ∧ nameA o = true then some (t, o) else none
theorem name_slash {s : StrA} (h : nameA s = true) : ∀ c ∈ s, (c != 47) = true := by
  intro c hc
  unfold nameA at h
  simp only [Bool.and_eq_true] at h
  have := List.all_eq_true.1 h.2 c hc
  rw [bne_iff_ne]
  rintro rfl
  exact absurd this (by decide)
theorem tw_all {p : UInt8 → Bool} : ∀ (a b : StrA), (∀ c ∈ a, p c = true) → (a ++ b).takeWhile p = a ++ b.takeWhile p
  | [], b, _ => rfl
  | c :: r, b, h => by
    rw [List.cons_append, List.takeWhile_cons, if_pos (h c (List.mem_cons_self ..)), tw_all r b (fun d hd => h d (List.mem_cons_of_mem _ hd))]
    rfl
theorem who_of {t o : StrA} (ht : nameA t = true) (ho : nameA o = true) : whoA (t ++ 47 :: o) = some (t, o) := by
  have e : (t ++ 47 :: o).takeWhile (· != 47) = t := by
    rw [tw_all t (47 :: o) (name_slash ht)]
    simp
  unfold whoA
  simp only [e]
  rw [List.drop_left]
  simp [ht, ho]
theorem who_is {s t o : StrA} (h : whoA s = some (t, o)) : s = t ++ 47 :: o ∧ nameA t = true ∧ nameA o = true := by
  unfold whoA at h
  simp only at h
  split at h
  · rename_i hc
    cases h
    refine ⟨?_, hc.1, hc.2⟩
    have hp : s.takeWhile (· != 47) <+: s := List.takeWhile_prefix _
    obtain ⟨r, hr⟩ := hp
    have hd : s.drop (s.takeWhile (· != 47)).length = r := by
      have h1 : (s.takeWhile (· != 47) ++ r).drop (s.takeWhile (· != 47)).length = r := List.drop_left
      rw [hr] at h1
      exact h1
    have hne : r ≠ [] := by
      intro e
      rw [hd, e] at hc
      exact absurd hc.2 (by decide)
    cases r with
    | nil => exact absurd rfl hne
    | cons c u =>
      have hc47 : c = 47 := by
        have h1 := congrArg (List.takeWhile (· != (47 : UInt8))) hr
        rw [tw_all _ _ (fun d hd => by
          have : ∀ (m : StrA), d ∈ m.takeWhile (· != 47) → (d != 47) = true := by
            intro m
            induction m with
            | nil => intro h; cases h
            | cons b r ih =>
              intro h
              rw [List.takeWhile_cons] at h
              split at h
              · rename_i hb
                rcases List.mem_cons.1 h with rfl | h
                · exact hb
                · exact ih h
              · cases h
          exact this s hd), List.takeWhile_cons] at h1
        split at h1
        · have h2 := congrArg List.length h1
          simp at h2
        · rename_i hb
          simpa using hb
      rw [hd]
      subst hc47
      exact hr.symm
  · cases h

def fitsA (g : GrA) (least : Int) : Bool := match whoA g.who with
  | none => false
  | some (home, _) => nameA g.tenant && !(home == g.tenant) && decide (least ≤ g.right ∧ g.right ≤ 3)
def rightA (l : List GrA) : Bool := decide (l.length ≤ 64) && l.all (fun g => fitsA g 1) && decide (∀ i < l.length, 0 < i → ordL (l.getD (i - 1) {}) (l.getD i {}) < 0)
theorem asc_of : ∀ l : List GrA, (∀ i, i < l.length → 0 < i → ordL (l.getD (i - 1) {}) (l.getD i {}) < 0) → Asc l
  | [], _ => List.Pairwise.nil
  | a :: r, h => by
    have ih := asc_of r (fun i hi h0 => by
      have := h (i + 1) (by simp only [List.length_cons]; omega) (by omega)
      rw [Nat.add_sub_cancel] at this
      obtain ⟨j, rfl⟩ : ∃ j, i = j + 1 := ⟨i - 1, by omega⟩
      simpa using this)
    refine List.pairwise_cons.2 ⟨fun b hb => ?_, ih⟩
    cases r with
    | nil => cases hb
    | cons c u =>
      have h1 : ordL a c < 0 := h 1 (by simp) (by omega)
      rcases List.mem_cons.1 hb with rfl | hb
      · exact h1
      · exact ord_trans h1 ((List.pairwise_cons.1 ih).1 b hb)
theorem right_asc {l : List GrA} (h : rightA l = true) : l.length ≤ 64 ∧ (∀ g ∈ l, fitsA g 1 = true) ∧ Asc l := by
  unfold rightA at h
  simp only [Bool.and_eq_true, decide_eq_true_eq] at h
  exact ⟨h.1.1, fun g hg => List.all_eq_true.1 h.1.2 g hg, asc_of l (fun i hi h0 => h.2 i hi h0)⟩
def mayA (l : List GrA) (tenant who : StrA) : Int := if rightA l = false then 0 else match whoA who with
  | none => 0
  | some (home, own) => if nameA tenant = false then 0 else if home ≠ tenant then grantedL l { tenant := tenant, who := who } else if own = [114, 111, 111, 116] then 3 else 2
end Go.Proofs.YtkjicdldlnefeaaDoor
