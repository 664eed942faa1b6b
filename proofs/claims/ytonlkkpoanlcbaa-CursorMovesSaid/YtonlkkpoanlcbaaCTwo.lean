/- Two places in lines, side by side in memory; bytes without blanks and tabs, passed one by one and at once. -/
import Derived.Test.YtonlkkpoanlcbaaCThree
set_option linter.unusedVariables false
namespace Go.Proofs.Ytonlkkpoanlcbaa
open Go.RowKit

/-- Two places. -/
def Two (w0 w : World) (a b : Nat) (x y : Pl) : Prop := Cur w a x ∧ Cur w b y ∧ a ≠ b ∧ w0.heap.size ≤ a ∧ w0.heap.size ≤ b ∧ Below w0.heap.size w0 w

section
variable {w0 w : World} {a b : Nat} {x y : Pl}
theorem Two.drewN (h : Two w0 w a b x y) (m : Nat) : Two w0 (w.drewN m) a b x y := by
  obtain ⟨h1, h2, h3, h4, h5, h6⟩ := h
  exact ⟨h1, h2, h3, h4, h5, below_drewN h6 m⟩
theorem Two.ca (h : Two w0 w a b x y) : Cur w a x := h.1
theorem Two.cb (h : Two w0 w a b x y) : Cur w b y := h.2.1
theorem Two.below (h : Two w0 w a b x y) : Below w0.heap.size w0 w := h.2.2.2.2.2
theorem Two.oth_a (h : Two w0 w a b x y) {w' : World} {x' : Pl} (hc : Cur w' a x') (ho : Oth a w w') : Two w0 w' a b x' y := by
  obtain ⟨h1, h2, h3, h4, h5, h6⟩ := h
  exact ⟨hc, h2.oth ho (Ne.symm h3), h3, h4, h5, h6.trans (ho.below h4)⟩
theorem Two.oth_b (h : Two w0 w a b x y) {w' : World} {y' : Pl} (hc : Cur w' b y') (ho : Oth b w w') : Two w0 w' a b x y' := by
  obtain ⟨h1, h2, h3, h4, h5, h6⟩ := h
  exact ⟨h1.oth ho h3, hc, h3, h4, h5, h6.trans (ho.below h5)⟩
theorem Two.mk {w1 w2 : World} (hb0 : Below w0.heap.size w0 w) (la : w.heap.size ≤ a) (ca : Cur w1 a x) (hb1 : Below w.heap.size w w1) (lb : w1.heap.size ≤ b) (cb : Cur w2 b y) (hb2 : Below w1.heap.size w1 w2) : Two w0 w2 a b x y := by
  have s0 := hb0.size
  have s1 := hb1.size
  have l1 := ca.lt
  exact ⟨ca.below hb2, cb, by omega, by omega, by omega, (hb0.trans (hb1.mono s0)).trans (hb2.mono (by omega))⟩
end

/-- No blank and no tab. -/
def NoB (l : List UInt8) : Prop := ∀ b ∈ l, isB b = false

theorem NoB.push {l : List UInt8} (h : NoB l) {b : UInt8} (hb : isB b = false) : NoB (l ++ [b]) := by
  intro c hc
  rcases List.mem_append.1 hc with h1 | h1
  · exact h c h1
  · simp only [List.mem_cons, List.not_mem_nil, or_false] at h1
    rw [h1]; exact hb
theorem NoB.drop {l : List UInt8} (h : NoB l) (k : Nat) : NoB (l.drop k) := fun b hb => h b (List.mem_of_mem_drop hb)
theorem NoB.head {l : List UInt8} (h : NoB l) (c : Nat) : beh l = l ∧ endC l c = c := by
  cases l with
  | nil => exact ⟨rfl, rfl⟩
  | cons b t =>
    have := h b (List.mem_cons_self)
    simp [beh, endC, this]

theorem NoB.pass : ∀ (n : Nat) {l : List UInt8} (h : NoB l) (c : Nat), passR n l c = (l.drop n, 0, c + min n l.length)
  | 0, l, h, c => by simp [passR]
  | n + 1, [], h, c => by simp [passR]
  | n + 1, b :: t, h, c => by
    have hb := h b (List.mem_cons_self)
    have h9 : b ≠ 9 := by rintro rfl; cases hb
    simp only [passR, wid_other h9]
    rw [NoB.pass n (fun x hx => h x (List.mem_cons_of_mem _ hx)) (c + 1)]
    simp only [List.drop_succ_cons, List.length_cons, Prod.mk.injEq, true_and]
    omega

theorem NoB.move {l : List UInt8} (h : NoB l) (n c : Nat) : moveR n (l, 0, c) = (l.drop n, 0, c + min n l.length) := by
  show passR n (beh l) (endC l (c + 0)) = _
  rw [(h.head 0).1, (h.head (c + 0)).2, h.pass]
  rfl

theorem NoB.one {l : List UInt8} (h : NoB l) (k : Nat) : moveR 1 (l.drop k, 0, min k l.length) = (l.drop (k + 1), 0, min (k + 1) l.length) := by
  rw [(h.drop k).move, List.drop_drop, List.length_drop]
  simp only [Prod.mk.injEq, true_and]
  omega

theorem drop_min (l : List UInt8) (n : Nat) : l.drop (min n l.length) = l.drop n := by
  rcases Nat.le_total n l.length with h | h
  · rw [Nat.min_eq_left h]
  · rw [Nat.min_eq_right h, List.drop_eq_nil_of_le (Nat.le_refl _), List.drop_eq_nil_of_le h]

/-- Bytes that a call owns. -/
abbrev OwnB (w : World) (B : Nat) (v : Value) (acc : List UInt8) : Prop := w.ownsRow B 5 1 v acc.length (Lib.byteCells acc)

theorem own_push {w : World} {B : Nat} {v : Value} {acc l : List UInt8} {n : Nat} {xs : List Value} (h : w.ownsRow B 5 1 v (acc.length + n) (Lib.byteCells acc ++ xs)) (hn : l.length = n) (hx : Lib.byteCells l = xs) : OwnB w B v (acc ++ l) := by
  subst hn hx
  show w.ownsRow _ _ _ _ (acc ++ l).length _
  rw [List.length_append, Lib.byteCells_append]
  exact h

theorem byteCells_one (c : UInt8) : Lib.byteCells [c] = [.int .u8 (c.toNat : Int)] := by simp [Lib.byteCells]

end Go.Proofs.Ytonlkkpoanlcbaa
