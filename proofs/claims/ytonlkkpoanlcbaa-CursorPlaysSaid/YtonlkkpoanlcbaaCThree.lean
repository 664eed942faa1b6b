/- Three places in lines, side by side in memory; what a call of one leaves of the others. -/
import Derived.Test.YtonlkkpoanlcbaaCShown
set_option linter.unusedVariables false
namespace Go.Proofs.Ytonlkkpoanlcbaa
open Go.RowKit

theorem new_at (s : ByteArray) (w : World) (hs : s.size ≤ 1099511627776) : Calls Try.prog 8 #[.string s] w fun e w' => ∃ b, e = .returned (cptr b) ∧ w.heap.size ≤ b ∧ Cur w' b (s.data.toList, 0, 0) ∧ Below w.heap.size w w' :=
  (new_any s w hs).mono fun e w' ⟨he, hc, hb⟩ => ⟨_, he, Nat.le_refl _, hc, hb⟩

theorem beh_beh : ∀ l : List UInt8, beh (beh l) = beh l
  | [] => rfl
  | b :: t => by
    simp only [beh]
    split
    · exact beh_beh t
    · rename_i h; simp [beh, h]

/-- Three places. -/
def Three (w0 w : World) (a b d : Nat) (x y z : Pl) : Prop := Cur w a x ∧ Cur w b y ∧ Cur w d z ∧ a ≠ b ∧ a ≠ d ∧ b ≠ d ∧ w0.heap.size ≤ a ∧ w0.heap.size ≤ b ∧ w0.heap.size ≤ d ∧ Below w0.heap.size w0 w

section
variable {w0 w : World} {a b d : Nat} {x y z : Pl}
theorem Three.drewN (h : Three w0 w a b d x y z) (m : Nat) : Three w0 (w.drewN m) a b d x y z := by
  obtain ⟨h1, h2, h3, h4, h5, h6, h7, h8, h9, h10⟩ := h
  exact ⟨h1, h2, h3, h4, h5, h6, h7, h8, h9, below_drewN h10 m⟩
theorem Three.ca (h : Three w0 w a b d x y z) : Cur w a x := h.1
theorem Three.cb (h : Three w0 w a b d x y z) : Cur w b y := h.2.1
theorem Three.cd (h : Three w0 w a b d x y z) : Cur w d z := h.2.2.1
theorem Three.below (h : Three w0 w a b d x y z) : Below w0.heap.size w0 w := h.2.2.2.2.2.2.2.2.2
theorem Three.oth_a (h : Three w0 w a b d x y z) {w' : World} {x' : Pl} (hc : Cur w' a x') (ho : Oth a w w') : Three w0 w' a b d x' y z := by
  obtain ⟨h1, h2, h3, h4, h5, h6, h7, h8, h9, h10⟩ := h
  exact ⟨hc, h2.oth ho (Ne.symm h4), h3.oth ho (Ne.symm h5), h4, h5, h6, h7, h8, h9, h10.trans (ho.below h7)⟩
theorem Three.oth_b (h : Three w0 w a b d x y z) {w' : World} {y' : Pl} (hc : Cur w' b y') (ho : Oth b w w') : Three w0 w' a b d x y' z := by
  obtain ⟨h1, h2, h3, h4, h5, h6, h7, h8, h9, h10⟩ := h
  exact ⟨h1.oth ho h4, hc, h3.oth ho (Ne.symm h6), h4, h5, h6, h7, h8, h9, h10.trans (ho.below h8)⟩
theorem Three.oth_d (h : Three w0 w a b d x y z) {w' : World} {z' : Pl} (hc : Cur w' d z') (ho : Oth d w w') : Three w0 w' a b d x y z' := by
  obtain ⟨h1, h2, h3, h4, h5, h6, h7, h8, h9, h10⟩ := h
  exact ⟨h1.oth ho h5, h2.oth ho h6, hc, h4, h5, h6, h7, h8, h9, h10.trans (ho.below h9)⟩
theorem Three.mk {w1 w2 w3 : World} (hb0 : Below w0.heap.size w0 w) (la : w.heap.size ≤ a) (ca : Cur w1 a x) (hb1 : Below w.heap.size w w1) (lb : w1.heap.size ≤ b) (cb : Cur w2 b y) (hb2 : Below w1.heap.size w1 w2) (ld : w2.heap.size ≤ d) (cd : Cur w3 d z) (hb3 : Below w2.heap.size w2 w3) : Three w0 w3 a b d x y z := by
  have s0 := hb0.size
  have s1 := hb1.size
  have s2 := hb2.size
  have l1 := ca.lt
  have l2 := cb.lt
  exact ⟨(ca.below hb2).below hb3, cb.below hb3, cd, by omega, by omega, by omega, by omega, by omega, by omega, ((hb0.trans (hb1.mono s0)).trans (hb2.mono (by omega))).trans (hb3.mono (by omega))⟩
end

/-- A mask of three bits. -/
theorem and_seven (z : Int) : ∃ n : Nat, n ≤ 7 ∧ bits .and .i64 z 7 = (n : Int) := by
  refine ⟨(BitVec.ofInt 64 z &&& BitVec.ofInt 64 7).toNat, ?_, ?_⟩
  · rw [BitVec.toNat_and]
    exact Nat.le_trans Nat.and_le_right (by decide)
  · have h : (BitVec.ofInt 64 z &&& BitVec.ofInt 64 7).toNat ≤ 7 := by
      rw [BitVec.toNat_and]
      exact Nat.le_trans Nat.and_le_right (by decide)
    show IntKind.i64.wrap (((BitVec.ofInt 64 z &&& BitVec.ofInt 64 7).toNat : Nat) : Int) = _
    rw [IntKind.wrap_i64]
    omega

end Go.Proofs.Ytonlkkpoanlcbaa
