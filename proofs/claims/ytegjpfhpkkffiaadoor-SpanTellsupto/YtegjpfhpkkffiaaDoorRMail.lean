/- The document's answer for span: mail, walked. -/
import Derived.Test.YtegjpfhpkkffiaaDoorRBegins
import Derived.Test.YtegjpfhpkkffiaaDoorSAutoP
set_option linter.unusedVariables false
namespace Go.Proofs.YtegjpfhpkkffiaaDoor
open Go.RowKit

theorem mailC_cases (c : UInt8) : (mailC c = true ∧ letN c.toNat = true) ∨ (mailC c = true ∧ letN c.toNat = false ∧ digN c.toNat = true) ∨ (letN c.toNat = false ∧ digN c.toNat = false ∧ ([46, 33, 35, 36, 37, 38, 39, 42, 43, 47, 61, 63, 94, 95, 123, 124, 125, 126, 45, 96] : List UInt8).elem c = mailC c) := by
  rw [mail_mem]
  unfold ldN
  cases letN c.toNat
  · cases digN c.toNat
    · right; right; simp
    · right; left; simp
  · left; simp

theorem nameB_cases (c : UInt8) : (nameC c = true ∧ letN c.toNat = true) ∨ (nameC c = true ∧ letN c.toNat = false ∧ digN c.toNat = true) ∨ (nameC c = true ∧ letN c.toNat = false ∧ digN c.toNat = false ∧ c.toNat = 45) ∨ (nameC c = false ∧ letN c.toNat = false ∧ digN c.toNat = false ∧ c.toNat ≠ 45) := by
  rw [nameC_N]
  cases letN c.toNat
  · cases digN c.toNat
    · by_cases h : c.toNat = 45
      · right; right; left; simp [h]
      · right; right; right; simp [h]
    · right; left; simp
  · left; simp

/-- A part and what follows it: what partsL tells. -/
theorem parts_nil (acc : List UInt8) : partsL acc [] = partOk acc := rfl
theorem parts_dot (acc t : List UInt8) : partsL acc (46 :: t) = (partOk acc && partsL [] t) := by simp [partsL]
theorem parts_byte (acc t : List UInt8) {b : UInt8} (h : b ≠ 46) : partsL acc (b :: t) = (nameC b && partsL (acc ++ [b]) t) := by simp [partsL, h, nameC]

theorem part_val {acc : List UInt8} {b z : UInt8} (h : acc.head? = some b) (hz : acc.getLast? = some z) : partOk acc = (decide (acc.length ≤ 63) && b != 45 && z != 45) := by
  unfold partOk
  rw [h, hz]
  cases acc with
  | nil => cases h
  | cons x y => simp [bne]

/-- The byte ahead of a place. -/
theorem byte_last {t : ByteArray} {f acc l : List UInt8} (hf : Suf t f) (e : f = acc ++ l) {z : UInt8} (hz : acc.getLast? = some z) {p : Nat} (hp : pos t l = p + 1) : ∃ h : p < t.size, t[p] = z := by
  obtain ⟨P, hP⟩ := hf
  have hne : acc ≠ [] := by intro h; rw [h] at hz; cases hz
  have h0 : 0 < acc.length := List.length_pos_iff.2 hne
  have hl : P.length + acc.length + l.length = t.size := by rw [← len_data, hP, e]; simp; omega
  have hpos : pos t l = P.length + acc.length := by unfold pos; omega
  have hlt : p < t.size := by omega
  refine ⟨hlt, ?_⟩
  rw [byte_at t p hlt, List.getD_eq_getElem?_getD, hP, e, List.getElem?_append_right (by omega), List.getElem?_append_left (by omega)]
  rw [List.getLast?_eq_getElem?] at hz
  rw [show p - P.length = acc.length - 1 by omega, hz]
  rfl

/-- What stands between two places. -/
def accOf (f l : List UInt8) : List UInt8 := f.take (f.length - l.length)
theorem accOf_split {t : ByteArray} {f l : List UInt8} (hf : Suf t f) (hl : Suf t l) (hle : l.length ≤ f.length) : f = accOf f l ++ l := by
  unfold accOf
  have h : f.drop (f.length - l.length) = l := (hf.drop (f.length - l.length)).same hl (by rw [List.length_drop]; omega)
  conv => lhs; rw [← List.take_append_drop (f.length - l.length) f, h]
theorem accOf_same (f : List UInt8) : accOf f f = [] := by unfold accOf; rw [Nat.sub_self, List.take_zero]
theorem accOf_push {t : ByteArray} {f u : List UInt8} {c : UInt8} (hf : Suf t f) (hl : Suf t (c :: u)) (hle : (c :: u).length ≤ f.length) : accOf f u = accOf f (c :: u) ++ [c] := by
  have h1 := accOf_split hf hl hle
  have h2 := accOf_split hf hl.tail (by simp at hle; omega)
  have h3 : accOf f u ++ u = (accOf f (c :: u) ++ [c]) ++ u := by rw [← h2, List.append_assoc]; exact h1
  exact List.append_cancel_right h3
theorem accOf_len {f l : List UInt8} (hle : l.length ≤ f.length) : (accOf f l).length = f.length - l.length := by unfold accOf; rw [List.length_take]; omega

/-- How a part ends: what must be of it. -/
theorem part_end {t : ByteArray} {f l : List UInt8} (hf : Suf t f) (hl : Suf t l) (hle : l.length ≤ f.length) :
    (f = l ∧ partOk (accOf f l) = false) ∨ (f ≠ l ∧ ∃ (b z : UInt8) (p : Nat) (h1 : pos t f < t.size) (h2 : p < t.size), pos t l = p + 1 ∧ t[pos t f] = b ∧ t[p] = z ∧ pos t f < pos t l ∧ partOk (accOf f l) = (decide (pos t l - pos t f ≤ 63) && b != 45 && z != 45)) := by
  have s1 := hf.sum
  have s2 := hl.sum
  rcases Nat.eq_or_lt_of_le hle with he | he
  · have e : f = l := hf.same hl he.symm
    subst e
    exact .inl ⟨rfl, by rw [accOf_same]; rfl⟩
  · right
    have hsp := accOf_split hf hl hle
    have hal := accOf_len hle
    refine ⟨fun e => by rw [e] at he; omega, ?_⟩
    cases f with
    | nil => simp at he
    | cons b g =>
      cases hz : (accOf (b :: g) l).getLast? with
      | none =>
        have : accOf (b :: g) l = [] := by simpa using hz
        rw [this] at hal
        simp at hal he
        omega
      | some z =>
        obtain ⟨p, hp⟩ : ∃ p, pos t l = p + 1 := ⟨pos t l - 1, by omega⟩
        obtain ⟨h2, hb2⟩ := byte_last hf hsp hz hp
        have hlt := hf.lt
        have hhd : (accOf (b :: g) l).head? = some b := by
          cases ha : accOf (b :: g) l with
          | nil => rw [ha] at hz; cases hz
          | cons x y =>
            rw [ha] at hsp
            have := (List.cons.inj hsp).1
            rw [this]; rfl
        refine ⟨b, z, p, hlt, h2, hp, hf.byte hlt, hb2, by omega, ?_⟩
        rw [part_val hhd hz, hal]
        congr 2
        rw [Bool.eq_iff_iff]
        simp only [decide_eq_true_eq]
        omega

end Go.Proofs.YtegjpfhpkkffiaaDoor
