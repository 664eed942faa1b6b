/- Plain mathematics: numbers in groups of seven bits, and texts behind their number of bytes. -/
import Derived.Test.YtmlihlnigojmpaaDoorPlain
set_option linter.unusedVariables false
namespace Go.Proofs.YtmlihlnigojmpaaDoor

/-- A number, in groups of seven bits. -/
def putN (n : Nat) : List UInt8 := if n < 128 then [n.toUInt8] else (n % 128 + 128).toUInt8 :: putN (n / 128)
termination_by n

/-- The number with which bytes begin, behind i groups that come to a; and how many bytes it has. -/
def getN : Nat → Nat → List UInt8 → Nat × Nat
  | _, _, [] => (0, 0)
  | i, a, c :: cs =>
    if i = 9 ∧ 1 < c.toNat then (0, 0)
    else if 128 ≤ c.toNat then getN (i + 1) (a + c.toNat % 128 * 2 ^ (7 * i)) cs
    else if c.toNat = 0 ∧ 0 < i then (0, 0) else (a + c.toNat % 128 * 2 ^ (7 * i), i + 1)

theorem putN_small {n : Nat} (h : n < 128) : putN n = [n.toUInt8] := by rw [putN, if_pos h]
theorem putN_large {n : Nat} (h : ¬ n < 128) : putN n = (n % 128 + 128).toUInt8 :: putN (n / 128) := by rw [putN, if_neg h]

theorem putN_pos (n : Nat) : 1 ≤ (putN n).length := by
  by_cases h : n < 128
  · rw [putN_small h]; simp
  · rw [putN_large h]; simp

theorem pow7 (i : Nat) : 2 ^ (7 * (i + 1)) = 128 * 2 ^ (7 * i) := by
  rw [show 7 * (i + 1) = 7 * i + 7 by omega, Nat.pow_add]; omega

theorem putN_len (n : Nat) : ∀ k, n < 2 ^ (7 * k) → 1 ≤ k → (putN n).length ≤ k := by
  induction n using Nat.strongRecOn with
  | ind n ih =>
    intro k hk h1
    by_cases h : n < 128
    · rw [putN_small h]; simpa using h1
    · rw [putN_large h]
      obtain ⟨j, rfl⟩ : ∃ j, k = j + 1 := ⟨k - 1, by omega⟩
      rw [pow7] at hk
      have hj : 1 ≤ j := by
        rcases Nat.eq_zero_or_pos j with rfl | hj
        · simp at hk; omega
        · exact hj
      have := ih (n / 128) (by omega) j (by omega) hj
      simp; omega

theorem toU8N (x : Nat) (h1 : x < 256) : (x.toUInt8).toNat = x := by simp; omega

/-- What is written is read, whatever stands behind. -/
theorem getN_put (n : Nat) : ∀ (i a : Nat) (l : List UInt8), (i = 0 ∨ 0 < n) → n * 2 ^ (7 * i) < 2 ^ 64 → getN i a (putN n ++ l) = (a + n * 2 ^ (7 * i), i + (putN n).length) := by
  induction n using Nat.strongRecOn with
  | ind n ih =>
    intro i a l h0 hb
    by_cases h : n < 128
    · rw [putN_small h]
      simp only [List.cons_append, List.nil_append, getN, List.length_cons, List.length_nil]
      have e := toU8N n (by omega)
      rw [e]
      rw [if_neg, if_neg (by omega), if_neg (by omega), Nat.mod_eq_of_lt h]
      rintro ⟨rfl, h1⟩
      have : n * 2 ^ 63 < 2 ^ 64 := hb
      omega
    · rw [putN_large h]
      simp only [List.cons_append, getN, List.length_cons]
      have e := toU8N (n % 128 + 128) (by omega)
      rw [e]
      have hi : i ≤ 8 := by
        rcases Nat.lt_or_ge 8 i with h8 | h8
        · exfalso
          have : 2 ^ 63 ≤ 2 ^ (7 * i) := Nat.pow_le_pow_right (by omega) (by omega)
          have : 128 * 2 ^ 63 ≤ n * 2 ^ (7 * i) := Nat.mul_le_mul (by omega) this
          omega
        · exact h8
      have h2 : n / 128 * 2 ^ (7 * (i + 1)) ≤ n * 2 ^ (7 * i) := by
        rw [pow7, ← Nat.mul_assoc]
        exact Nat.mul_le_mul_right _ (by omega)
      rw [if_neg (by omega), if_pos (by omega), ih (n / 128) (by omega) (i + 1) _ l (Or.inr (by omega)) (by omega)]
      have h3 : (n % 128 + 128) % 128 * 2 ^ (7 * i) + n / 128 * 2 ^ (7 * (i + 1)) = n * 2 ^ (7 * i) := by
        rw [pow7, ← Nat.mul_assoc, ← Nat.add_mul]
        congr 1
        omega
      rw [Nat.add_assoc a, h3]
      congr 1
      omega

/-- A strict beginning is none. -/
theorem getN_cut (n : Nat) : ∀ (i a k : Nat), k < (putN n).length → getN i a ((putN n).take k) = (0, 0) := by
  induction n using Nat.strongRecOn with
  | ind n ih =>
    intro i a k hk
    cases k with
    | zero => simp [getN]
    | succ k =>
      by_cases h : n < 128
      · rw [putN_small h] at hk; simp at hk
      · rw [putN_large h] at hk ⊢
        simp only [List.take_succ_cons, getN]
        have e := toU8N (n % 128 + 128) (by omega)
        rw [e]
        split
        · rfl
        · rw [if_pos (by omega)]
          exact ih (n / 128) (by omega) _ _ k (by simpa using hk)

/-- What is read is below 2^64, has at most ten bytes, and they are there. -/
theorem getN_bound : ∀ (l : List UInt8) (i a : Nat), i ≤ 9 → a < 2 ^ (7 * i) → (getN i a l).1 < 2 ^ 64 ∧ (getN i a l).2 ≤ i + l.length ∧ (getN i a l).2 ≤ 10 := by
  intro l
  induction l with
  | nil => intro i a h1 h2; simp [getN]
  | cons c cs ih =>
    intro i a h1 h2
    simp only [getN]
    split
    · simp
    · rename_i h3
      have h4 : a + c.toNat % 128 * 2 ^ (7 * i) < 2 ^ (7 * (i + 1)) := by
        have : (c.toNat % 128 + 1) * 2 ^ (7 * i) ≤ 128 * 2 ^ (7 * i) := Nat.mul_le_mul_right _ (by omega)
        rw [Nat.add_mul] at this
        rw [pow7]; omega
      split
      · rename_i h5
        have h9 : i ≤ 8 := by omega
        have := ih (i + 1) _ (by omega) h4
        simp only [List.length_cons]
        refine ⟨this.1, ?_, this.2.2⟩
        have := this.2.1
        omega
      · rename_i h5
        split
        · simp
        · have h6 : a + c.toNat % 128 * 2 ^ (7 * i) < 2 ^ 64 := by
            by_cases h9 : i = 9
            · subst h9
              have : c.toNat % 128 ≤ 1 := by omega
              have : c.toNat % 128 * 2 ^ (7 * 9) ≤ 1 * 2 ^ (7 * 9) := Nat.mul_le_mul_right _ this
              have h2' : a < 2 ^ 63 := h2
              have : c.toNat % 128 * 2 ^ (7 * 9) ≤ 2 ^ 63 := by simpa using this
              omega
            · have : 2 ^ (7 * (i + 1)) ≤ 2 ^ 63 := Nat.pow_le_pow_right (by omega) (by omega)
              omega
          refine ⟨h6, ?_, by show i + 1 ≤ 10; omega⟩
          show i + 1 ≤ i + (cs.length + 1)
          omega

/-- A text: the number of its bytes, and these. -/
def putT (s : List UInt8) : List UInt8 := putN s.length ++ s
def getT (b : List UInt8) (most : Int) : List UInt8 × Nat :=
  if (getN 0 0 b).2 = 0 ∨ most < 0 ∨ most < ((getN 0 0 b).1 : Int) ∨ b.length - (getN 0 0 b).2 < (getN 0 0 b).1 then ([], 0)
  else ((b.drop (getN 0 0 b).2).take (getN 0 0 b).1, (getN 0 0 b).2 + (getN 0 0 b).1)

theorem getN_put0 (n : Nat) (l : List UInt8) (h : n < 2 ^ 64) : getN 0 0 (putN n ++ l) = (n, (putN n).length) := by
  have := getN_put n 0 0 l (Or.inl rfl) (by simpa using h)
  simpa using this

theorem getT_put (s l : List UInt8) (h : s.length < 2 ^ 63) : getT (putT s ++ l) (s.length : Int) = (s, (putT s).length) := by
  have e : putT s ++ l = putN s.length ++ (s ++ l) := by simp [putT]
  have g := getN_put0 s.length (s ++ l) (by omega)
  have p := putN_pos s.length
  rw [getT, e, g]
  dsimp only
  rw [if_neg]
  · simp [putT]
  · simp only [List.length_append]; omega

theorem getT_len (b : List UInt8) (most : Int) : (getT b most).2 ≤ b.length := by
  have h := (getN_bound b 0 0 (by omega) (by simp)).2.1
  unfold getT
  split
  · simp
  · show (getN 0 0 b).2 + (getN 0 0 b).1 ≤ b.length
    omega

theorem getT_less (s : List UInt8) (h : s.length < 2 ^ 63) : (getT (putT s) ((s.length : Int) - 1)).2 = 0 := by
  have g := getN_put0 s.length s (by omega)
  rw [getT, putT, g]
  dsimp only
  rw [if_pos (by omega)]

theorem getT_cut (s : List UInt8) (h : s.length < 2 ^ 63) (k : Nat) (hk : k < (putT s).length) : (getT ((putT s).take k) (s.length : Int)).2 = 0 := by
  by_cases hc : k < (putN s.length).length
  · have e : (putT s).take k = (putN s.length).take k := by rw [putT, List.take_append_of_le_length (by omega)]
    rw [getT, e, getN_cut _ 0 0 k hc]
    simp
  · have e : (putT s).take k = putN s.length ++ s.take (k - (putN s.length).length) := by
      rw [putT, List.take_append, List.take_of_length_le (by omega)]
    have g := getN_put0 s.length (s.take (k - (putN s.length).length)) (by omega)
    have hl : (putT s).length = (putN s.length).length + s.length := by simp [putT]
    rw [getT, e, g]
    dsimp only
    rw [if_pos]
    simp only [List.length_append, List.length_take]
    omega
end Go.Proofs.YtmlihlnigojmpaaDoor
