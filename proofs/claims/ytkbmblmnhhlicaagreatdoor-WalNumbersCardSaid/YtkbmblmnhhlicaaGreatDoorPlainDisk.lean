/- A disk over lists: files by rising names, each with its bytes and how many of them last. -/
import GoSem.ClaimMapViews
import Derived.Sort.KeysCollected
import Derived.Maps.OwnSet
set_option linter.unusedVariables false
namespace Go.Proofs.YtkbmblmnhhlicaaGreatDoor

abbrev Nm := List UInt8

/-! ### rows of pairs, by rising names -/
def getA {α : Type} (n : Nm) (l : List (Nm × α)) : Option α := (l.find? (fun p => p.1 == n)).map (·.2)
def delA {α : Type} (n : Nm) (l : List (Nm × α)) : List (Nm × α) := l.filter (fun p => !(p.1 == n))
def insA {α : Type} (x : Nm × α) : List (Nm × α) → List (Nm × α)
  | [] => [x]
  | y :: r => if bytesBefore x.1 y.1 then x :: y :: r else y :: insA x r
def putA {α : Type} (n : Nm) (v : α) (l : List (Nm × α)) : List (Nm × α) := insA (n, v) (delA n l)

abbrev Rises {α : Type} (l : List (Nm × α)) : Prop := l.Pairwise (fun p q => bytesBefore p.1 q.1 = true)

theorem bb_irrefl : ∀ a : Nm, bytesBefore a a = false
  | [] => rfl
  | x :: r => by simp [bytesBefore, bb_irrefl r]
theorem bb_trans : ∀ a b c : Nm, bytesBefore a b = true → bytesBefore b c = true → bytesBefore a c = true
  | [], [], _, h, _ => by simp [bytesBefore] at h
  | [], _ :: _, [], _, h => by simp [bytesBefore] at h
  | [], _ :: _, _ :: _, _, _ => rfl
  | _ :: _, [], _, h, _ => by simp [bytesBefore] at h
  | _ :: _, _ :: _, [], _, h => by simp [bytesBefore] at h
  | x :: r, y :: s, z :: t, h, k => by
    simp only [bytesBefore, Bool.or_eq_true, decide_eq_true_eq, Bool.and_eq_true, beq_iff_eq] at h k ⊢
    rcases h with h | ⟨rfl, h⟩
    · rcases k with k | ⟨rfl, k⟩
      · exact .inl (UInt8.lt_trans h k)
      · exact .inl h
    · rcases k with k | ⟨rfl, k⟩
      · exact .inl k
      · exact .inr ⟨rfl, bb_trans r s t h k⟩
theorem bb_total : ∀ a b : Nm, a ≠ b → bytesBefore a b = false → bytesBefore b a = true
  | [], [], h, _ => absurd rfl h
  | [], _ :: _, _, h => by simp [bytesBefore] at h
  | _ :: _, [], _, _ => rfl
  | x :: r, y :: s, h, k => by
    simp only [bytesBefore, Bool.or_eq_false_iff, decide_eq_false_iff_not, Bool.and_eq_false_iff, beq_eq_false_iff_ne, Bool.or_eq_true, decide_eq_true_eq, Bool.and_eq_true, beq_iff_eq] at k ⊢
    by_cases hx : x = y
    · subst hx
      refine .inr ⟨rfl, bb_total r s (by intro e; exact h (by rw [e])) ?_⟩
      rcases k.2 with k2 | k2
      · exact absurd rfl k2
      · exact k2
    · left
      have h1 := k.1
      rw [UInt8.lt_iff_toNat_lt] at h1 ⊢
      have : x.toNat ≠ y.toNat := fun e => hx (UInt8.toNat_inj.1 e)
      omega
theorem bb_lt : ∀ a b : Nm, bytesBefore a b = decide (a < b)
  | [], [] => by simp [bytesBefore]
  | [], _ :: _ => by simp [bytesBefore]
  | _ :: _, [] => by simp [bytesBefore]
  | x :: r, y :: s => by
    simp only [bytesBefore, bb_lt r s, List.cons_lt_cons_iff, Bool.decide_or, Bool.decide_and]
    rfl

section
variable {α : Type}

theorem getA_nil (n : Nm) : getA n ([] : List (Nm × α)) = none := rfl
theorem getA_cons (n : Nm) (p : Nm × α) (l : List (Nm × α)) : getA n (p :: l) = if p.1 = n then some p.2 else getA n l := by
  unfold getA
  by_cases h : p.1 = n
  · simp [h]
  · have : (p.1 == n) = false := by simpa using h
    simp [this, h]
theorem getA_mem {n : Nm} {v : α} : ∀ {l : List (Nm × α)}, getA n l = some v → (n, v) ∈ l
  | [], h => by cases h
  | p :: l, h => by
    rw [getA_cons] at h
    split at h
    · rename_i hp
      cases h; subst hp; exact List.mem_cons_self
    · exact List.mem_cons_of_mem _ (getA_mem h)
theorem getA_none {n : Nm} : ∀ {l : List (Nm × α)}, getA n l = none → ∀ p ∈ l, p.1 ≠ n
  | [], _, p, hp => by cases hp
  | q :: l, h, p, hp => by
    rw [getA_cons] at h
    split at h
    · cases h
    · rename_i hq
      rcases List.mem_cons.1 hp with rfl | hp
      · exact hq
      · exact getA_none h p hp
theorem getA_of_mem {n : Nm} {v : α} : ∀ {l : List (Nm × α)}, Rises l → (n, v) ∈ l → getA n l = some v
  | [], _, h => by cases h
  | p :: l, hr, h => by
    rw [getA_cons]
    have hr2 := List.pairwise_cons.1 hr
    rcases List.mem_cons.1 h with rfl | h
    · simp
    · have h1 := hr2.1 _ h
      have : p.1 ≠ n := by
        intro e
        subst e
        rw [bb_irrefl] at h1
        cases h1
      rw [if_neg this]
      exact getA_of_mem hr2.2 h
theorem mem_delA {n : Nm} {l : List (Nm × α)} {p : Nm × α} : p ∈ delA n l ↔ p ∈ l ∧ p.1 ≠ n := by simp [delA]
theorem rises_delA {n : Nm} {l : List (Nm × α)} (h : Rises l) : Rises (delA n l) := h.filter _
theorem mem_insA {x p : Nm × α} : ∀ {l : List (Nm × α)}, p ∈ insA x l ↔ p = x ∨ p ∈ l
  | [] => by simp [insA]
  | y :: r => by
    unfold insA
    split
    · simp
    · simp only [List.mem_cons, mem_insA (l := r)]
      constructor
      · rintro (h | h | h)
        · exact .inr (.inl h)
        · exact .inl h
        · exact .inr (.inr h)
      · rintro (h | h | h)
        · exact .inr (.inl h)
        · exact .inl h
        · exact .inr (.inr h)
theorem mem_putA {n : Nm} {v : α} {l : List (Nm × α)} {p : Nm × α} : p ∈ putA n v l ↔ p = (n, v) ∨ (p ∈ l ∧ p.1 ≠ n) := by
  unfold putA
  rw [mem_insA, mem_delA]
theorem rises_insA {x : Nm × α} : ∀ {l : List (Nm × α)}, Rises l → (∀ p ∈ l, p.1 ≠ x.1) → Rises (insA x l)
  | [], _, _ => by simp [insA]
  | y :: r, h, hx => by
    unfold insA
    have h2 := List.pairwise_cons.1 h
    split
    · rename_i hb
      refine List.pairwise_cons.2 ⟨fun p hp => ?_, h⟩
      rcases List.mem_cons.1 hp with rfl | hp
      · exact hb
      · exact bb_trans _ _ _ hb (h2.1 p hp)
    · rename_i hb
      refine List.pairwise_cons.2 ⟨fun p hp => ?_, rises_insA h2.2 (fun p hp => hx p (List.mem_cons_of_mem _ hp))⟩
      rcases mem_insA.1 hp with rfl | hp
      · exact bb_total _ _ (fun e => hx y List.mem_cons_self e.symm) (by simpa using hb)
      · exact h2.1 p hp
theorem rises_putA {n : Nm} {v : α} {l : List (Nm × α)} (h : Rises l) : Rises (putA n v l) :=
  rises_insA (rises_delA h) (fun p hp => (mem_delA.1 hp).2)
theorem delA_none {n : Nm} {l : List (Nm × α)} (h : ∀ p ∈ l, p.1 ≠ n) : delA n l = l := by
  unfold delA
  rw [List.filter_eq_self]
  intro p hp
  simpa using h p hp
/-- A name that is there: it stands where it stood. -/
theorem putA_at {n : Nm} {u v : α} (a b : List (Nm × α)) (h : Rises (a ++ (n, u) :: b)) : putA n v (a ++ (n, u) :: b) = a ++ (n, v) :: b := by
  have hp := List.pairwise_append.1 h
  have hb := List.pairwise_cons.1 hp.2.1
  have h1 : delA n (a ++ (n, u) :: b) = a ++ b := by
    have ha : delA n a = a := delA_none (fun p hp' e => by
      have := hp.2.2 p hp' (n, u) List.mem_cons_self
      subst e
      rw [bb_irrefl] at this; cases this)
    have hb' : delA n b = b := delA_none (fun p hp' e => by
      have := hb.1 p hp'
      subst e
      rw [bb_irrefl] at this; cases this)
    unfold delA at ha hb' ⊢
    rw [List.filter_append, ha, List.filter_cons, hb']
    simp
  unfold putA
  rw [h1]
  have h2 : ∀ p ∈ a, bytesBefore p.1 n = true := fun p hp' => hp.2.2 p hp' (n, u) List.mem_cons_self
  have h3 : ∀ p ∈ b, bytesBefore n p.1 = true := fun p hp' => hb.1 p hp'
  clear h hp hb h1
  induction a with
  | nil =>
    cases b with
    | nil => rfl
    | cons y r => simp [insA, h3 y List.mem_cons_self]
  | cons y r ih =>
    have hy := h2 y List.mem_cons_self
    have : bytesBefore n y.1 = false := by
      cases hc : bytesBefore n y.1
      · rfl
      · have := bb_trans _ _ _ hy hc
        rw [bb_irrefl] at this; cases this
    show insA (n, v) (y :: (r ++ b)) = _
    unfold insA
    rw [if_neg (by rw [this]; decide), ih (fun p hp => h2 p (List.mem_cons_of_mem _ hp))]
    rfl
theorem insA_length (x : Nm × α) : ∀ l : List (Nm × α), (insA x l).length = l.length + 1
  | [] => rfl
  | y :: r => by
    unfold insA
    split
    · rfl
    · simp [insA_length x r]
theorem putA_length (n : Nm) (v : α) (l : List (Nm × α)) : (putA n v l).length ≤ l.length + 1 := by
  unfold putA
  rw [insA_length]
  have : (delA n l).length ≤ l.length := List.length_filter_le _ _
  omega
/-- The same on both sides of a map of the values. -/
theorem delA_map {β : Type} (f : Nm → α → β) (n : Nm) (l : List (Nm × α)) : delA n (l.map fun p => (p.1, f p.1 p.2)) = (delA n l).map fun p => (p.1, f p.1 p.2) := by
  unfold delA
  rw [List.filter_map]
  rfl
theorem insA_map {β : Type} (f : Nm → α → β) (n : Nm) (v : α) : ∀ l : List (Nm × α), insA (n, f n v) (l.map fun p => (p.1, f p.1 p.2)) = (insA (n, v) l).map fun p => (p.1, f p.1 p.2)
  | [] => rfl
  | y :: r => by
    show insA _ ((y.1, f y.1 y.2) :: _) = _
    unfold insA
    split
    · rfl
    · rw [insA_map f n v r]; rfl
theorem getA_map {β : Type} (f : Nm → α → β) (n : Nm) : ∀ l : List (Nm × α), getA n (l.map fun p => (p.1, f p.1 p.2)) = (getA n l).map (f n)
  | [] => rfl
  | p :: l => by
    show getA n ((p.1, f p.1 p.2) :: _) = _
    rw [getA_cons, getA_cons, getA_map f n l]
    by_cases h : p.1 = n
    · subst h; simp
    · simp [h]
theorem names_rise {l : List (Nm × α)} (h : Rises l) : (l.map (·.1)).Pairwise (fun a b => a ≤ b) := by
  rw [List.pairwise_map]
  refine h.imp ?_
  intro a b hab
  rw [bb_lt] at hab
  exact List.le_of_lt (by simpa using hab)
/-- Sorted, the names are as they stand. -/
theorem names_sorted {l : List (Nm × α)} (h : Rises l) {ss : List Nm} (hp : ss.Perm (l.map (·.1))) : ss.mergeSort (fun x y => decide (x ≤ y)) = l.map (·.1) := by
  have h1 : (ss.mergeSort (fun x y => decide (x ≤ y))).Pairwise (fun a b => decide (a ≤ b) = true) :=
    List.pairwise_mergeSort (le := fun x y => decide (x ≤ y)) (fun a b c hab hbc => by simpa using List.le_trans (by simpa using hab) (by simpa using hbc)) (fun a b => by simpa using List.le_total a b) ss
  refine List.Perm.eq_of_pairwise (le := fun a b => a ≤ b) (fun a b _ _ hab hba => List.le_antisymm hab hba) (h1.imp (by intro a b hab; simpa using hab)) (names_rise h) ((List.mergeSort_perm ss _).trans hp)
end

/-! ### a disk -/
structure Fl where
  bs : List UInt8
  la : Nat
abbrev Fls := List (Nm × Fl)
structure Dk where
  room : Nat
  files : Fls
  up : Bool
  ahead : Int
  falls : Int
  keep : Nat

def usedL (l : Fls) : Nat := (l.map fun p => p.2.bs.length).sum
theorem usedL_cons (p : Nm × Fl) (l : Fls) : usedL (p :: l) = p.2.bs.length + usedL l := by simp [usedL]
theorem usedL_del (n : Nm) : ∀ l : Fls, Rises l → usedL (delA n l) + ((getA n l).getD ⟨[], 0⟩).bs.length = usedL l
  | [], _ => rfl
  | p :: l, h => by
    have h2 := List.pairwise_cons.1 h
    rw [getA_cons, usedL_cons]
    by_cases hp : p.1 = n
    · subst hp
      have hd : delA p.1 (p :: l) = l := by
        have : delA p.1 l = l := delA_none (fun q hq e => by
          have := h2.1 q hq
          rw [e, bb_irrefl] at this; cases this)
        unfold delA at this ⊢
        rw [List.filter_cons, this]
        simp
      rw [hd]
      simp
      omega
    · have hd : delA n (p :: l) = p :: delA n l := by
        unfold delA
        rw [List.filter_cons]
        simp [hp]
      rw [hd, usedL_cons, if_neg hp]
      have := usedL_del n l h2.2
      omega
theorem usedL_ins (x : Nm × Fl) : ∀ l : Fls, usedL (insA x l) = x.2.bs.length + usedL l
  | [] => by simp [insA, usedL]
  | y :: r => by
    unfold insA
    split
    · rw [usedL_cons]
    · rw [usedL_cons, usedL_ins x r, usedL_cons]; omega
theorem usedL_put (n : Nm) (f : Fl) (l : Fls) (h : Rises l) : usedL (putA n f l) + ((getA n l).getD ⟨[], 0⟩).bs.length = usedL l + f.bs.length := by
  unfold putA
  rw [usedL_ins]
  have := usedL_del n l h
  simp only
  omega
theorem usedL_get {n : Nm} {f : Fl} {l : Fls} (h : Rises l) (hg : getA n l = some f) : f.bs.length ≤ usedL l := by
  have := usedL_del n l h
  rw [hg] at this
  simp at this
  omega

/-- How many bytes of a file stay. -/
def stay (keep i : Nat) (f : Fl) : Nat := f.la + keep / (i + 1) % (f.bs.length - f.la + 1)
def fallF (keep i : Nat) (f : Fl) : Fl := ⟨f.bs.take (stay keep i f), stay keep i f⟩
def fallL (keep : Nat) : Nat → Fls → Fls
  | _, [] => []
  | i, p :: l => (p.1, fallF keep i p.2) :: fallL keep (i + 1) l
def fallD (keep : Nat) (d : Dk) : Dk := { d with files := fallL keep 0 d.files, up := false, ahead := -1, falls := IntKind.i64.wrap (d.falls + 1) }

theorem stay_le {keep i : Nat} {f : Fl} (h : f.la ≤ f.bs.length) : f.la ≤ stay keep i f ∧ stay keep i f ≤ f.bs.length := by
  unfold stay
  have := Nat.mod_lt (keep / (i + 1)) (show 0 < f.bs.length - f.la + 1 by omega)
  omega
theorem fallF_len {keep i : Nat} {f : Fl} (h : f.la ≤ f.bs.length) : (fallF keep i f).bs.length = stay keep i f := by
  have := stay_le (keep := keep) (i := i) h
  simp [fallF]; omega
theorem fallL_names (keep : Nat) : ∀ (i : Nat) (l : Fls), (fallL keep i l).map (·.1) = l.map (·.1)
  | _, [] => rfl
  | i, p :: l => by simp [fallL, fallL_names keep (i + 1) l]
theorem fallL_length (keep i : Nat) (l : Fls) : (fallL keep i l).length = l.length := by
  have := congrArg List.length (fallL_names keep i l)
  simpa using this
theorem rises_names {α β : Type} {l : List (Nm × α)} {l' : List (Nm × β)} (h : l.map (·.1) = l'.map (·.1)) (hr : Rises l') : Rises l := by
  have h1 : (l'.map (·.1)).Pairwise (fun a b => bytesBefore a b = true) := List.pairwise_map.2 hr
  rw [← h] at h1
  exact List.pairwise_map.1 h1
theorem fallL_append (keep : Nat) : ∀ (i : Nat) (a b : Fls), fallL keep i (a ++ b) = fallL keep i a ++ fallL keep (i + a.length) b
  | i, [], b => by simp [fallL]
  | i, p :: a, b => by simp [fallL, fallL_append keep (i + 1) a b]; congr 1; omega
theorem fallL_used {keep : Nat} : ∀ {i : Nat} {l : Fls}, (∀ p ∈ l, p.2.la ≤ p.2.bs.length) → usedL (fallL keep i l) ≤ usedL l
  | _, [], _ => Nat.le_refl _
  | i, p :: l, h => by
    rw [fallL, usedL_cons, usedL_cons]
    have h1 := fallF_len (keep := keep) (i := i) (h p List.mem_cons_self)
    have h2 := (stay_le (keep := keep) (i := i) (h p List.mem_cons_self)).2
    have h3 := fallL_used (keep := keep) (i := i + 1) (l := l) (fun q hq => h q (List.mem_cons_of_mem _ hq))
    simp only
    omega

/-- What a disk keeps to. -/
structure DkOk (d : Dk) : Prop where
  rises : Rises d.files
  lasts : ∀ p ∈ d.files, p.2.la ≤ p.2.bs.length
  fits : usedL d.files ≤ d.room
  room : d.room ≤ 9223372036854775807
  ahead : -1 ≤ d.ahead ∧ d.ahead ≤ 9223372036854775807
  keep : d.keep < 18446744073709551616
  few : d.files.length ≤ 1048576
  small : usedL d.files ≤ 140737488355328

/-- A deed that power does not fail at. -/
def doneD (d : Dk) : Dk := if 0 < d.ahead then { d with ahead := d.ahead - 1 } else d
/-- .. or does. -/
def failD (d : Dk) : Dk := if d.ahead = 0 then fallD d.keep d else doneD d

end Go.Proofs.YtkbmblmnhhlicaaGreatDoor
