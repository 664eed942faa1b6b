/- Plain: what is read was written so, what is written is read: numbers, texts, nodes, entries. -/
import Derived.Test.YtmlihlnigojmpaaDoorWRd7
set_option linter.unusedVariables false
namespace Go.Proofs.YtmlihlnigojmpaaDoor

theorem getN_inv : ∀ (l : List UInt8) (i a n k : Nat), getN i a l = (n, k) → k ≠ 0 → ∃ m j, n = a + m * 2 ^ (7 * i) ∧ k = i + j ∧ l.take j = putN m ∧ j ≤ l.length ∧ (0 < i → 0 < m)
  | [], i, a, n, k, h, hk => by
    simp [getN] at h
    omega
  | c :: cs, i, a, n, k, h, hk => by
    simp only [getN] at h
    by_cases h9 : i = 9 ∧ 1 < c.toNat
    · rw [if_pos h9] at h
      cases h
      exact absurd rfl hk
    · rw [if_neg h9] at h
      have hc := c.toNat_lt
      by_cases h128 : 128 ≤ c.toNat
      · rw [if_pos h128] at h
        obtain ⟨m, j, e1, e2, e3, e4, e5⟩ := getN_inv cs (i + 1) _ n k h hk
        have hm := e5 (by omega)
        refine ⟨c.toNat % 128 + 128 * m, j + 1, ?_, by omega, ?_, by simp; omega, fun _ => by omega⟩
        · rw [e1, pow7, Nat.add_mul, Nat.mul_assoc, Nat.add_assoc]
          congr 2
          rw [Nat.mul_left_comm]
        · rw [putN_large (by omega), List.take_succ_cons, e3]
          have q1 : (c.toNat % 128 + 128 * m) % 128 + 128 = c.toNat := by omega
          have q2 : (c.toNat % 128 + 128 * m) / 128 = m := by omega
          rw [q1, q2]
          congr 1
          simp
      · rw [if_neg h128] at h
        by_cases h0 : c.toNat = 0 ∧ 0 < i
        · rw [if_pos h0] at h
          cases h
          exact absurd rfl hk
        · rw [if_neg h0] at h
          cases h
          refine ⟨c.toNat, 1, by rw [Nat.mod_eq_of_lt (by omega)], rfl, ?_, by simp, fun hi => by omega⟩
          rw [putN_small (by omega)]
          simp
/-- A number that is read was written so. -/
theorem rN_inv {L : List UInt8} {most p n q : Nat} (h : rN L most p = .ok (n, q)) : L.drop p = putN n ++ L.drop q ∧ q = p + (putN n).length ∧ n ≤ most := by
  unfold rN at h
  split at h
  · cases h
  · rename_i hc
    obtain ⟨m, k, hmk⟩ : ∃ m k, getN 0 0 (L.drop p) = (m, k) := ⟨_, _, rfl⟩
    rw [hmk] at h hc
    simp only [not_or, Nat.not_lt] at hc
    cases h
    obtain ⟨m', j, e1, e2, e3, e4, _⟩ := getN_inv _ 0 0 m k hmk hc.1
    simp at e1 e2
    subst e1
    subst e2
    have hl : (putN m).length = k := by rw [← e3, List.length_take]; omega
    refine ⟨?_, by rw [hl], hc.2⟩
    rw [← e3, ← List.drop_drop]
    exact (List.take_append_drop k _).symm
theorem rN_put {L r : List UInt8} {most p n : Nat} (h : L.drop p = putN n ++ r) (hn : n ≤ most) (hm : most < 18446744073709551616) : rN L most p = .ok (n, p + (putN n).length) := by
  have hg := getN_put0 n r (by omega)
  have hp := putN_pos n
  unfold rN
  rw [h, hg, if_neg]
  simp only [not_or, Nat.not_lt]
  exact ⟨by omega, hn⟩
theorem drop_next {L x r : List UInt8} {p : Nat} (h : L.drop p = x ++ r) : L.drop (p + x.length) = r := by
  rw [← List.drop_drop, h, List.drop_left]
theorem rT_inv {L s : List UInt8} {most p q : Nat} (h : rT L most p = .ok (s, q)) : L.drop p = putT s ++ L.drop q ∧ q = p + (putT s).length ∧ s.length ≤ most := by
  unfold rT at h
  split at h
  · cases h
  · rename_i hc
    have hle := getT_le (L.drop p) most
    obtain ⟨m, k, hmk⟩ : ∃ m k, getN 0 0 (L.drop p) = (m, k) := ⟨_, _, rfl⟩
    unfold getT at h hc hle
    rw [hmk] at h hc hle
    split at hc
    · exact absurd rfl hc
    · rename_i hd
      rw [if_neg hd] at h hle
      simp only [not_or, Int.not_lt, Nat.not_lt] at hd
      cases h
      obtain ⟨m', j, e1, e2, e3, e4, _⟩ := getN_inv _ 0 0 m k hmk hd.1
      simp at e1 e2
      subst e1
      subst e2
      have hkl : k ≤ (L.drop p).length := e4
      have hl : (putN m).length = k := by rw [← e3, List.length_take]; omega
      have hs : (((L.drop p).drop k).take m).length = m := by rw [List.length_take, List.length_drop]; omega
      refine ⟨?_, ?_, hle⟩
      · unfold putT
        rw [hs, ← e3]
        show L.drop p = ((L.drop p).take k ++ ((L.drop p).drop k).take m) ++ L.drop (p + (k + m))
        rw [← List.drop_drop, ← List.drop_drop, List.append_assoc, List.take_append_drop, List.take_append_drop]
      · unfold putT
        rw [List.length_append, hs, hl]
theorem rT_put {L r s : List UInt8} {most p : Nat} (h : L.drop p = putT s ++ r) (hs : s.length ≤ most) (hm : most < 9223372036854775808) : rT L most p = .ok (s, p + (putT s).length) := by
  have hg := getN_put0 s.length (s ++ r) (by omega)
  have hp := putN_pos s.length
  have hT : getT (putT s ++ r) (most : Int) = (s, (putT s).length) := by
    unfold getT putT
    rw [List.append_assoc, hg]
    dsimp only
    rw [if_neg]
    · rw [List.drop_left, List.take_left, List.length_append]
    · simp only [List.length_append]
      omega
  unfold rT
  rw [h, hT]
  rw [if_neg]
  show (putT s).length ≠ 0
  unfold putT
  rw [List.length_append]
  omega

theorem rNs_inv : ∀ {L : List UInt8} {n p q : Nat} {zs : List Nat}, rNs L n p = .ok (zs, q) → zs.length = n ∧ L.drop p = flatN zs ++ L.drop q ∧ q = p + (flatN zs).length ∧ ∀ z ∈ zs, z ≤ 5
  | L, 0, p, q, zs, h => by
    simp only [rNs] at h
    cases h
    exact ⟨rfl, rfl, rfl, fun z hz => by cases hz⟩
  | L, n + 1, p, q, zs, h => by
    simp only [rNs] at h
    cases h1 : rN L 5 p with
    | error e => rw [h1] at h; cases h
    | ok x =>
      obtain ⟨z, p1⟩ := x
      rw [h1] at h
      dsimp only at h
      cases h2 : rNs L n p1 with
      | error e => rw [h2] at h; cases h
      | ok y =>
        obtain ⟨ys, p2⟩ := y
        rw [h2] at h
        cases h
        obtain ⟨a1, a2, a3⟩ := rN_inv h1
        obtain ⟨b1, b2, b3, b4⟩ := rNs_inv h2
        refine ⟨by simp [b1], ?_, ?_, ?_⟩
        · rw [flatN_cons, a1, b2, List.append_assoc]
        · rw [flatN_cons, List.length_append]; omega
        · intro y hy
          rcases List.mem_cons.1 hy with rfl | hy
          · exact a3
          · exact b4 y hy
theorem rNs_put : ∀ {L r : List UInt8} {p : Nat} {zs : List Nat}, L.drop p = flatN zs ++ r → (∀ z ∈ zs, z ≤ 5) → rNs L zs.length p = .ok (zs, p + (flatN zs).length)
  | L, r, p, [], h, hz => rfl
  | L, r, p, z :: zs, h, hz => by
    rw [flatN_cons, List.append_assoc] at h
    have h1 := rN_put h (hz z (by simp)) (by omega)
    have h2 := rNs_put (drop_next h) (fun y hy => hz y (by simp [hy]))
    simp only [List.length_cons, rNs, h1, h2]
    rw [flatN_cons, List.length_append, Nat.add_assoc]
theorem rNodes_inv {L : List UInt8} {p q : Nat} {zs : List Nat} (h : rNodes L p = .ok (zs, q)) : L.drop p = flatN (zs.length :: zs) ++ L.drop q ∧ q = p + (flatN (zs.length :: zs)).length ∧ zs.length ≤ 5 ∧ ∀ z ∈ zs, z ≤ 5 := by
  unfold rNodes at h
  cases h1 : rN L 5 p with
  | error e => rw [h1] at h; cases h
  | ok x =>
    obtain ⟨n, p1⟩ := x
    rw [h1] at h
    dsimp only at h
    obtain ⟨a1, a2, a3⟩ := rN_inv h1
    obtain ⟨b1, b2, b3, b4⟩ := rNs_inv h
    subst b1
    refine ⟨by rw [flatN_cons, a1, b2, List.append_assoc], by rw [flatN_cons, List.length_append]; omega, a3, b4⟩
theorem rNodes_put {L r : List UInt8} {p : Nat} {zs : List Nat} (h : L.drop p = flatN (zs.length :: zs) ++ r) (hl : zs.length ≤ 5) (hz : ∀ z ∈ zs, z ≤ 5) : rNodes L p = .ok (zs, p + (flatN (zs.length :: zs)).length) := by
  rw [flatN_cons, List.append_assoc] at h
  have h1 := rN_put h hl (by omega)
  have h2 := rNs_put (drop_next h) hz
  unfold rNodes
  rw [h1]
  dsimp only
  rw [h2, flatN_cons, List.length_append, Nat.add_assoc]
end Go.Proofs.YtmlihlnigojmpaaDoor
