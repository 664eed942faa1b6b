/- Two files, and room for so many bytes: over lists. -/
import Derived.Test.YtmkgaegodemglaaWKeeps
set_option linter.unusedVariables false
namespace Go.Proofs.Ytmkgaegodemglaa

abbrev nA : Nm := [97]
abbrev nB : Nm := [98]
abbrev nC : Nm := [99]

def RoomR (R n : Nat) (d : Dk) : Prop := d.room = R ∧ d.up = true ∧ d.ahead = -1 ∧ usedL d.files = n ∧ ∀ p ∈ d.files, p.1 = nA ∨ p.1 = nB

theorem room_new (R : Nat) : RoomR R 0 (newD (R : Int)) := ⟨Int.toNat_natCast R, rfl, rfl, rfl, fun p hp => by cases hp⟩

theorem two_names : ∀ {l : Fls}, Rises l → (∀ p ∈ l, p.1 = nA ∨ p.1 = nB) → l.length ≤ 2
  | [], _, _ => Nat.zero_le _
  | [_], _, _ => by simp
  | [_, _], _, _ => by simp
  | p :: q :: r :: l, h, hn => by
    have h1 := List.pairwise_cons.1 h
    have h2 := List.pairwise_cons.1 h1.2
    have a1 := h1.1 q (by simp)
    have a2 := h2.1 r (by simp)
    exfalso
    rcases hn p (by simp) with e1 | e1 <;> rcases hn q (by simp) with e2 | e2 <;> rcases hn r (by simp) with e3 | e3 <;> rw [e1, e2] at a1 <;> rw [e2, e3] at a2 <;> revert a1 a2 <;> decide

theorem room_app {R n : Nat} {d : Dk} (h : RoomR R n d) (hr : Rises d.files) {nm : Nm} (hm : nm = nA ∨ nm = nB) (l : List UInt8) :
    (n + l.length ≤ R → (appendP d nm l).1 = 0 ∧ RoomR R (n + l.length) (appendP d nm l).2) ∧ (¬ n + l.length ≤ R → (appendP d nm l).1 = 14 ∧ RoomR R n (appendP d nm l).2) := by
  obtain ⟨h1, h2, h3, h4, h5⟩ := h
  have hmay : mayN nm = true := by rcases hm with rfl | rfl <;> rfl
  constructor
  · intro hf
    have e : appendP d nm l = (0, addD d nm l) := append_idle h2 hmay (by rw [h1, h4]; exact hf) (by rw [h3]; decide)
    rw [e]
    refine ⟨rfl, h1, h2, h3, ?_, ?_⟩
    · have := usedL_put nm ⟨(oldF d nm).bs ++ l, (oldF d nm).la⟩ d.files hr
      have e2 : (oldF d nm).bs.length = ((getA nm d.files).getD ⟨[], 0⟩).bs.length := rfl
      simp only [List.length_append] at this
      show usedL (putA nm ⟨(oldF d nm).bs ++ l, (oldF d nm).la⟩ d.files) = _
      omega
    · intro p hp
      rcases mem_putA.1 hp with rfl | ⟨hp, _⟩
      · exact hm
      · exact h5 p hp
  · intro hf
    have e : appendP d nm l = (14, d) := by
      unfold appendP
      rw [if_neg (by rw [h2]; decide), if_neg (by rw [hmay]; decide), if_pos (by rw [h1, h4]; omega)]
    rw [e]
    exact ⟨rfl, h1, h2, h3, h4, h5⟩

theorem only_b : ∀ {l : Fls}, Rises l → (∀ p ∈ l, p.1 = nB) → l = [] ∨ ∃ f, l = [(nB, f)]
  | [], _, _ => .inl rfl
  | [(n, f)], _, h => by
    have : n = nB := h (n, f) (by simp)
    subst this
    exact .inr ⟨f, rfl⟩
  | p :: q :: l, h, hn => by
    exfalso
    have h1 := (List.pairwise_cons.1 h).1 q (by simp)
    rw [hn p (by simp), hn q (by simp), bb_irrefl] at h1
    cases h1

/-- What is left when the one is taken away. -/
theorem room_end {R n : Nat} {d : Dk} (h : RoomR R n d) (hr : Rises d.files) (hfit : usedL d.files ≤ d.room) :
    (removeP d nA).2.up = true ∧ (removeP d nA).2.room = R ∧ (removeP d nA).2.ahead = -1 ∧ usedL (removeP d nA).2.files = (theF (removeP d nA).2 nB).bs.length ∧ (theF (removeP d nA).2 nB).bs.length ≤ R ∧ (removeP d nA).2.files.length ≤ 1 := by
  obtain ⟨h1, h2, h3, h4, h5⟩ := h
  have hfail : failD d = d := by
    unfold failD doneD
    rw [if_neg (by rw [h3]; decide), if_neg (by rw [h3]; decide)]
  have hD : (removeP d nA).2 = { d with files := delA nA d.files } := by
    unfold removeP
    by_cases hf : findV d nA = 0
    · rw [if_neg (by rw [hf]; decide), if_neg (by rw [h3]; decide), hfail]
    · rw [if_pos hf]
      have hg : getA nA d.files = none := by
        unfold findV at hf
        rw [if_pos h2] at hf
        cases hg : getA nA d.files with
        | none => rfl
        | some f => rw [hg] at hf; exact absurd rfl hf
      have : delA nA d.files = d.files := delA_none (fun p hp => getA_none hg p hp)
      rw [this]
  rw [hD]
  have hu := usedL_del nA d.files hr
  have hb : ∀ p ∈ delA nA d.files, p.1 = nB := by
    intro p hp
    have := mem_delA.1 hp
    rcases h5 p this.1 with e | e
    · exact absurd e this.2
    · exact e
  refine ⟨h2, h1, h3, ?_⟩
  show usedL (delA nA d.files) = _ ∧ _ ∧ (delA nA d.files).length ≤ 1
  have key : ∀ l : Fls, theF { d with files := l } nB = (getA nB l).getD ⟨[], 0⟩ := by
    intro l
    unfold theF findV
    show (if (if d.up = true then (if (getA nB l).isSome = true then 0 else 15) else 13) = 0 then (getA nB l).getD ⟨[], 0⟩ else ⟨[], 0⟩) = _
    rw [if_pos h2]
    cases getA nB l with
    | none => rfl
    | some f => rfl
  rw [key]
  have hle : usedL (delA nA d.files) ≤ R := by rw [← h1]; omega
  rcases only_b (rises_delA hr) hb with e | ⟨f, e⟩
  · rw [e]; exact ⟨rfl, Nat.zero_le _, Nat.zero_le _⟩
  · rw [e] at hle ⊢
    have e2 : getA nB [(nB, f)] = some f := rfl
    rw [usedL_one] at hle
    rw [e2, usedL_one]
    exact ⟨rfl, hle, by simp⟩

end Go.Proofs.Ytmkgaegodemglaa
