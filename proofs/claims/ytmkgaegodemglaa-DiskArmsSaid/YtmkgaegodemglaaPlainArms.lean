/- Deeds one behind the other, power failing at one of them: over lists. -/
import Derived.Test.YtmkgaegodemglaaWKeeps
set_option linter.unusedVariables false
namespace Go.Proofs.Ytmkgaegodemglaa

/-- A disk behind i deeds of which the one number A fails. -/
def ArmR (A : Int) (i : Nat) (d : Dk) : Prop :=
  d.room = 1099511627776 ∧
    (((A < 0 ∨ (i : Int) ≤ A) ∧ d.up = true ∧ d.ahead = (if A < 0 then -1 else A - i) ∧ ((i = 0 ∧ d.files = []) ∨ (0 < i ∧ ∃ bs : List UInt8, d.files = [(nF, ⟨bs, i / 2⟩)] ∧ bs.length = (i + 1) / 2)))
     ∨ (0 ≤ A ∧ A < (i : Int) ∧ d.up = false ∧ ∃ bs : List UInt8, d.files = [(nF, ⟨bs, bs.length⟩)] ∧ A ≤ 2 * (bs.length : Int) + 1 ∧ 2 * (bs.length : Int) ≤ A + 2))

abbrev armOk (A : Int) (i : Nat) : Prop := A < 0 ∨ (i : Int) < A

theorem failD_go {d : Dk} (h : d.ahead ≠ 0) : failD d = { d with ahead := if 0 < d.ahead then d.ahead - 1 else d.ahead } := by
  unfold failD doneD
  rw [if_neg h]
  split <;> rfl
theorem failD_fall {d : Dk} (h : d.ahead = 0) : failD d = fallD d.keep d := by
  unfold failD
  rw [if_pos h]

theorem arm_start (A : Int) (keep : Nat) (hA : -1 ≤ A) : ArmR A 0 (armD (newD 1099511627776) A keep) := by
  have e : armD (newD 1099511627776) A keep = { newD 1099511627776 with ahead := if A < -1 then -1 else A, keep := keep } := if_pos rfl
  rw [e]
  refine ⟨rfl, .inl ⟨?_, rfl, ?_, .inl ⟨rfl, rfl⟩⟩⟩
  · omega
  · show (if A < -1 then -1 else A) = _
    split <;> split <;> omega

theorem arm_used {A : Int} {i : Nat} {d : Dk} (h : ArmR A i d) (hA : A < 80) : usedL d.files ≤ i + 100 ∧ d.files.length ≤ 1 := by
  rcases h.2 with ⟨_, _, _, ⟨_, hf⟩ | ⟨_, bs, hf, hl⟩⟩ | ⟨_, _, _, bs, hf, _, h2⟩
  · rw [hf]; exact ⟨Nat.zero_le _, Nat.zero_le _⟩
  · rw [hf, usedL_one]; simp only; exact ⟨by omega, Nat.le_refl _⟩
  · rw [hf, usedL_one]; simp only; exact ⟨by omega, Nat.le_refl _⟩

theorem one_fall (keep : Nat) (bs : List UInt8) (la : Nat) (h : la ≤ bs.length) : ∃ Y : List UInt8, fallF keep 0 ⟨bs, la⟩ = ⟨Y, Y.length⟩ ∧ la ≤ Y.length ∧ Y.length ≤ bs.length := by
  have h1 := stay_le (keep := keep) (i := 0) (f := ⟨bs, la⟩) h
  have h2 := fallF_len (keep := keep) (i := 0) (f := ⟨bs, la⟩) h
  refine ⟨(fallF keep 0 ⟨bs, la⟩).bs, ?_, ?_, ?_⟩
  · rw [h2]; rfl
  · rw [h2]; exact h1.1
  · rw [h2]; exact h1.2

theorem arm_add {i : Nat} {d : Dk} (x : UInt8) (he : i % 2 = 0) (h : (i = 0 ∧ d.files = []) ∨ (0 < i ∧ ∃ bs : List UInt8, d.files = [(nF, ⟨bs, i / 2⟩)] ∧ bs.length = (i + 1) / 2)) :
    ∃ bs : List UInt8, (addD d nF [x]).files = [(nF, ⟨bs, (i + 1) / 2⟩)] ∧ bs.length = (i + 1 + 1) / 2 := by
  rcases h with ⟨h0, hf⟩ | ⟨_, bs, hf, hl⟩
  · subst h0
    refine ⟨[x], ?_, rfl⟩
    unfold addD oldF
    rw [hf]
    rfl
  · refine ⟨bs ++ [x], ?_, by rw [List.length_append, hl]; simp only [List.length_cons, List.length_nil]; omega⟩
    unfold addD oldF
    rw [hf]
    have e : (i + 1) / 2 = i / 2 := by omega
    rw [e]
    rfl

/-- An append. -/
theorem arm_app {A : Int} {i : Nat} {d : Dk} (h : ArmR A i d) (he : i % 2 = 0) (hi : i < 60) (x : UInt8) :
    (armOk A i → (appendP d nF [x]).1 = 0) ∧ (¬ armOk A i → (appendP d nF [x]).1 = 13) ∧ ArmR A (i + 1) (appendP d nF [x]).2 ∧ (armOk A i ↔ (appendP d nF [x]).2.up = true) := by
  obtain ⟨hr, h⟩ := h
  rcases h with ⟨hA, hu, ha, hf⟩ | ⟨hA0, hA1, hu, bs, hf, h1, h2⟩
  · have hus : usedL d.files + 1 ≤ d.room := by
      rw [hr]
      rcases hf with ⟨_, hf⟩ | ⟨_, bs, hf, hl⟩
      · rw [hf]; show 0 + 1 ≤ _; omega
      · rw [hf, usedL_one]; simp only; omega
    have hap : appendP d nF [x] = (if d.ahead = 0 then 13 else 0, failD (addD d nF [x])) := by
      unfold appendP
      rw [if_neg (by rw [hu]; decide), if_neg (by decide), if_neg (by simp only [List.length_cons, List.length_nil]; omega)]
    obtain ⟨bs, hf2, hl2⟩ := arm_add x he hf
    rw [hap]
    by_cases h0 : d.ahead = 0
    · have hno : ¬ armOk A i := by
        rw [ha] at h0
        unfold armOk
        split at h0 <;> omega
      have hAi : A = (i : Int) := by
        rw [ha] at h0
        split at h0 <;> omega
      rw [if_pos h0, failD_fall (by exact h0)]
      refine ⟨fun hc => absurd hc hno, fun _ => rfl, ⟨hr, .inr ⟨by omega, by omega, rfl, ?_⟩⟩, ⟨fun hc => absurd hc hno, fun hc => by cases hc⟩⟩
      obtain ⟨Y, hY1, hY2, hY3⟩ := one_fall (addD d nF [x]).keep bs ((i + 1) / 2) (by omega)
      refine ⟨Y, ?_, by omega, by omega⟩
      show fallL _ 0 (addD d nF [x]).files = _
      rw [hf2]
      show [(nF, fallF (addD d nF [x]).keep 0 ⟨bs, (i + 1) / 2⟩)] = _
      rw [hY1]
    · have hok : armOk A i := by
        rw [ha] at h0
        unfold armOk
        split at h0 <;> omega
      rw [if_neg h0, failD_go (by exact h0)]
      refine ⟨fun _ => rfl, fun hc => absurd hok hc, ⟨hr, .inl ⟨by unfold armOk at hok; omega, hu, ?_, .inr ⟨by omega, bs, hf2, hl2⟩⟩⟩, ⟨fun _ => hu, fun _ => hok⟩⟩
      show (if 0 < d.ahead then d.ahead - 1 else d.ahead) = _
      unfold armOk at hok
      rw [ha]
      split <;> split <;> omega
  · have hno : ¬ armOk A i := by unfold armOk; omega
    rw [append_off hu]
    exact ⟨fun hc => absurd hc hno, fun _ => rfl, ⟨hr, .inr ⟨hA0, by omega, hu, bs, hf, h1, h2⟩⟩, ⟨fun hc => absurd hc hno, fun hc => by rw [hu] at hc; cases hc⟩⟩

/-- A sync. -/
theorem arm_sync {A : Int} {i : Nat} {d : Dk} (h : ArmR A i d) (he : i % 2 = 1) (hi : i < 60) :
    (armOk A i → (syncP d nF).1 = 0) ∧ (¬ armOk A i → (syncP d nF).1 = 13) ∧ ArmR A (i + 1) (syncP d nF).2 ∧ (armOk A i ↔ (syncP d nF).2.up = true) := by
  obtain ⟨hr, h⟩ := h
  rcases h with ⟨hA, hu, ha, hf⟩ | ⟨hA0, hA1, hu, bs, hf, h1, h2⟩
  · obtain ⟨bs, hf, hl⟩ : ∃ bs : List UInt8, d.files = [(nF, ⟨bs, i / 2⟩)] ∧ bs.length = (i + 1) / 2 := by
      rcases hf with ⟨h0, _⟩ | ⟨_, h⟩
      · omega
      · exact h
    have hfi : findV d nF = 0 := by
      unfold findV
      rw [if_pos hu, hf]
      rfl
    have hth : theF d nF = ⟨bs, i / 2⟩ := by
      unfold theF
      rw [if_pos hfi, hf]
      rfl
    by_cases h0 : d.ahead = 0
    · have hno : ¬ armOk A i := by
        rw [ha] at h0
        unfold armOk
        split at h0 <;> omega
      have hAi : A = (i : Int) := by
        rw [ha] at h0
        split at h0 <;> omega
      have hs : syncP d nF = (13, fallD d.keep d) := by
        unfold syncP
        rw [if_neg (by rw [hfi]; decide), if_pos h0, failD_fall h0]
      rw [hs]
      refine ⟨fun hc => absurd hc hno, fun _ => rfl, ⟨hr, .inr ⟨by omega, by omega, rfl, ?_⟩⟩, ⟨fun hc => absurd hc hno, fun hc => by cases hc⟩⟩
      obtain ⟨Y, hY1, hY2, hY3⟩ := one_fall d.keep bs (i / 2) (by omega)
      refine ⟨Y, ?_, by omega, by omega⟩
      show fallL _ 0 d.files = _
      rw [hf]
      show [(nF, fallF d.keep 0 ⟨bs, i / 2⟩)] = _
      rw [hY1]
    · have hok : armOk A i := by
        rw [ha] at h0
        unfold armOk
        split at h0 <;> omega
      have hs : syncP d nF = (0, { failD d with files := putA nF ⟨bs, bs.length⟩ (failD d).files }) := by
        unfold syncP
        rw [if_neg (by rw [hfi]; decide), if_neg h0, hth]
      rw [hs, failD_go h0]
      refine ⟨fun _ => rfl, fun hc => absurd hok hc, ⟨hr, .inl ⟨by unfold armOk at hok; omega, hu, ?_, .inr ⟨by omega, bs, ?_, by omega⟩⟩⟩, ⟨fun _ => hu, fun _ => hok⟩⟩
      · show (if 0 < d.ahead then d.ahead - 1 else d.ahead) = _
        unfold armOk at hok
        rw [ha]
        split <;> split <;> omega
      · show putA nF ⟨bs, bs.length⟩ d.files = _
        have e : (i + 1) / 2 = bs.length := by omega
        rw [hf, e]
        rfl
  · have hno : ¬ armOk A i := by unfold armOk; omega
    have hs : syncP d nF = (13, d) := by
      have : findV d nF = 13 := by unfold findV; rw [if_neg (by rw [hu]; decide)]
      unfold syncP
      rw [if_pos (by rw [this]; decide), this]
    rw [hs]
    exact ⟨fun hc => absurd hc hno, fun _ => rfl, ⟨hr, .inr ⟨hA0, by omega, hu, bs, hf, h1, h2⟩⟩, ⟨fun hc => absurd hc hno, fun hc => by rw [hu] at hc; cases hc⟩⟩

/-- What is there in the end. -/
theorem arm_end {A : Int} {G : Nat} {d : Dk} (h : ArmR A G d) : (if 0 ≤ A then min (G : Int) A else (G : Int)) / 2 ≤ ((theF (startD d) nF).bs.length : Int) ∧ ((theF (startD d) nF).bs.length : Int) ≤ ((if 0 ≤ A then min (G : Int) A else (G : Int)) + 1) / 2 + 1 := by
  obtain ⟨hr, h⟩ := h
  have key : ∀ l : Fls, d.files = l → theF (startD d) nF = theF (startD { d with files := l }) nF := by
    intro l hl
    subst hl
    rfl
  rcases h with ⟨hA, hu, ha, ⟨h0, hf⟩ | ⟨h0, bs, hf, hl⟩⟩ | ⟨hA0, hA1, hu, bs, hf, h1, h2⟩
  · have : (theF (startD d) nF).bs.length = 0 := by rw [key _ hf]; rfl
    rw [this, h0]
    split <;> omega
  · have : (theF (startD d) nF).bs.length = bs.length := by rw [key _ hf]; rfl
    rw [this, hl]
    split <;> omega
  · have : (theF (startD d) nF).bs.length = bs.length := by rw [key _ hf]; rfl
    rw [this, if_pos hA0]
    omega

end Go.Proofs.Ytmkgaegodemglaa
