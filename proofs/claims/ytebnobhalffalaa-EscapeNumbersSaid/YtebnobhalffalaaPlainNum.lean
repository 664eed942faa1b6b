/- Plain mathematics: a number written in digits is read as it was. -/
import Derived.Test.YtebnobhalffalaaEShown
set_option linter.unusedVariables false
namespace Go.Proofs.Ytebnobhalffalaa

/-- Digits x, written behind what is left of a number k, make the number n. -/
def Digits (b most n k : Nat) (x : List UInt8) : Prop :=
  (∀ m rest, x.length ≤ m → readN b m (x ++ 59 :: rest) k = (x.length, n)) ∧ (∀ c ∈ x, digV c < b) ∧ x.length ≤ most ∧ k < b ^ (most - x.length)

theorem Digits.read {b most n k : Nat} {x : List UInt8} (h : Digits b most n k x) : ∀ m rest, x.length ≤ m → readN b m (x ++ 59 :: rest) k = (x.length, n) := h.1
theorem Digits.all {b most n k : Nat} {x : List UInt8} (h : Digits b most n k x) : ∀ c ∈ x, digV c < b := h.2.1
theorem Digits.len {b most n k : Nat} {x : List UInt8} (h : Digits b most n k x) : x.length ≤ most := h.2.2.1
theorem Digits.left {b most n k : Nat} {x : List UInt8} (h : Digits b most n k x) : k < b ^ (most - x.length) := h.2.2.2

theorem digits_start {b most n : Nat} (hb : b ≤ 16) (hn : n < b ^ most) : Digits b most n n [] := by
  refine ⟨?_, ?_, ?_, ?_⟩
  · intro m rest _
    cases m with
    | zero => rfl
    | succ m =>
      show readN b (m + 1) (59 :: rest) n = (0, n)
      unfold readN
      rw [if_neg (by show ¬ 16 < b; omega)]
  · intro c hc; simp at hc
  · simp
  · simpa using hn

theorem digits_room {b most n k : Nat} {x : List UInt8} (h : Digits b most n k x) (hc : 0 < k ∨ (x = [] ∧ 0 < most)) : x.length < most := by
  have h1 := h.len
  have h2 := h.left
  rcases hc with hk | ⟨rfl, hm⟩
  · by_cases e : x.length = most
    · rw [e, Nat.sub_self, Nat.pow_zero] at h2; omega
    · omega
  · simpa using hm

theorem digits_more {b most n k : Nat} {x : List UInt8} {d : UInt8} (h : Digits b most n k x) (hb : 0 < b) (hd : digV d = k % b) (hr : x.length < most) : Digits b most n (k / b) (d :: x) := by
  refine ⟨?_, ?_, ?_, ?_⟩
  · intro m rest hm
    rw [List.length_cons] at hm
    obtain ⟨m', rfl⟩ : ∃ m', m = m' + 1 := ⟨m - 1, by omega⟩
    show readN b (m' + 1) (d :: (x ++ 59 :: rest)) (k / b) = _
    unfold readN
    have hlt : digV d < b := by rw [hd]; exact Nat.mod_lt _ hb
    have e : k / b * b + digV d = k := by rw [hd, Nat.mul_comm]; exact Nat.div_add_mod k b
    rw [if_pos hlt, e, h.read m' rest (by omega), List.length_cons]
  · intro c hc
    rcases List.mem_cons.1 hc with rfl | hc
    · rw [hd]; exact Nat.mod_lt _ hb
    · exact h.all c hc
  · rw [List.length_cons]; omega
  · rw [List.length_cons, Nat.div_lt_iff_lt_mul hb]
    have := h.left
    rwa [show most - x.length = (most - (x.length + 1)) + 1 by omega, Nat.pow_succ] at this

theorem at_semi (p x r : List UInt8) : (p ++ (x ++ 59 :: r))[p.length + x.length]? = some 59 := by
  rw [List.getElem?_append_right (by omega), show p.length + x.length - p.length = x.length by omega, List.getElem?_append_right (by omega)]
  simp

/-- A number in base ten, between its signs. -/
theorem entity_ten {n : Nat} {x : List UInt8} (h : Digits 10 7 n 0 x) (hx : x ≠ []) (r : List UInt8) : entity ([38, 35] ++ (x ++ 59 :: r)) = (enc (charN n), x.length + 3) := by
  obtain ⟨c, x', rfl⟩ : ∃ c x', x = c :: x' := by cases x with
    | nil => exact absurd rfl hx
    | cons c x' => exact ⟨c, x', rfl⟩
  have hc := h.all c (by simp)
  have hn := numE_of (l := [38, 35] ++ ((c :: x') ++ 59 :: r)) (start := 2) (base := 10) (most := 7) (k := (c :: x').length) (n := n) (by rw [List.drop_append_of_le_length (by simp)]; exact h.read 7 r h.len)
  rw [show ([38, 35] ++ ((c :: x') ++ 59 :: r))[2 + (c :: x').length]? = some 59 from at_semi [38, 35] (c :: x') r, if_pos ⟨by simp, rfl⟩] at hn
  have he : entity ([38, 35] ++ ((c :: x') ++ 59 :: r)) = numE ([38, 35] ++ ((c :: x') ++ 59 :: r)) 2 10 7 := by
    unfold entity
    rw [if_pos (by simp), if_pos (by simp), if_neg]
    intro h2
    rcases h2 with h2 | h2
    all_goals
      simp at h2
      subst h2
      exact absurd hc (by decide)
  rw [he, hn, show 2 + (c :: x').length + 1 = (c :: x').length + 3 by omega]

/-- A number in base sixteen, between its signs. -/
theorem entity_sixteen {n : Nat} {x : List UInt8} (h : Digits 16 6 n 0 x) (hx : x ≠ []) (r : List UInt8) : entity ([38, 35, 120] ++ (x ++ 59 :: r)) = (enc (charN n), x.length + 4) := by
  have hn := numE_of (l := [38, 35, 120] ++ (x ++ 59 :: r)) (start := 3) (base := 16) (most := 6) (k := x.length) (n := n) (by rw [List.drop_append_of_le_length (by simp)]; exact h.read 6 r h.len)
  have h0 : x.length ≠ 0 := by intro e; exact hx (List.eq_nil_of_length_eq_zero e)
  rw [show ([38, 35, 120] ++ (x ++ 59 :: r))[3 + x.length]? = some 59 from at_semi [38, 35, 120] x r, if_pos ⟨h0, rfl⟩] at hn
  have he : entity ([38, 35, 120] ++ (x ++ 59 :: r)) = numE ([38, 35, 120] ++ (x ++ 59 :: r)) 3 16 6 := by
    unfold entity
    rw [if_pos (by simp), if_pos (by simp), if_pos (by simp)]
  rw [he, hn, show 3 + x.length + 1 = x.length + 4 by omega]

def lows : List UInt8 := [48, 49, 50, 51, 52, 53, 54, 55, 56, 57, 97, 98, 99, 100, 101, 102]
theorem digV_low : ∀ k : Fin 16, digV (lows.getD k.val 0) = k.val := by decide
theorem digV_ten (k : Nat) (h : k < 10) : digV (UInt8.ofNat (48 + k)) = k := by
  have : (UInt8.ofNat (48 + k)).toNat = 48 + k := by rw [UInt8.toNat_ofNat']; omega
  unfold digV
  rw [this, if_pos (by omega)]
  omega

end Go.Proofs.Ytebnobhalffalaa
