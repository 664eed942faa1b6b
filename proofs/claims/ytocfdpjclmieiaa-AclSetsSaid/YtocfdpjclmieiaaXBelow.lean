/- below of the document's answer (layer 11); walked. -/
import Derived.Test.YtocfdpjclmieiaaXMay0
set_option linter.unusedVariables false
namespace Go.Proofs.Ytocfdpjclmieiaa
open Go.RowKit

theorem less_cmp : ∀ (a b : StrA), Op.bytesLess a b = decide (cmpL a b < 0)
  | [], [] => rfl
  | _ :: _, [] => rfl
  | [], _ :: _ => rfl
  | a :: x, b :: y => by
    have ih := less_cmp x y
    unfold Op.bytesLess cmpL
    rw [ih]
    by_cases h1 : a.toNat < b.toNat
    · have : a < b := h1
      rw [if_pos h1, Bool.eq_iff_iff]
      simp [this]
    · have h1' : ¬ a < b := h1
      rw [if_neg h1]
      by_cases h2 : b.toNat < a.toNat
      · have hne : (a == b) = false := by rw [beq_eq_false_iff_ne]; rintro rfl; omega
        rw [if_pos h2, hne, Bool.eq_iff_iff]
        simp [h1']
      · have he : a = b := UInt8.toNat_inj.1 (by omega)
        subst he
        rw [if_neg h2, Bool.eq_iff_iff]
        simp [h1']
theorem less_run (a b : StrA) : Op.bytesLess (ByteArray.mk a.toArray).toList (ByteArray.mk b.toArray).toList = decide (cmpL a b < 0) := by
  have h : ∀ l : StrA, (ByteArray.mk l.toArray).toList = l := fun l => by rw [ByteArray.toList_eq]
  rw [h, h, less_cmp]
theorem ord_less (a b : GrA) : decide (ordL a b < 0) = (decide (cmpL a.tenant b.tenant < 0) || ((a.tenant == b.tenant) && decide (cmpL a.who b.who < 0))) := by
  unfold ordL
  by_cases h : a.tenant = b.tenant
  · rw [h, cmp_self, if_neg (by simp)]
    simp
  · have h2 : cmpL a.tenant b.tenant ≠ 0 := fun q => h (cmp_eq _ _ q)
    have h3 : (a.tenant == b.tenant) = false := by rw [beq_eq_false_iff_ne]; exact h
    rw [if_pos h2, h3]
    simp

set_option maxHeartbeats 4000000 in
set_option maxRecDepth 8000 in
theorem xbelow_any (a b : GrA) (w : World) : Calls Try.prog 25 #[aggA a, aggA b] w fun e w' => e = .returned (.bool (decide (ordL a b < 0))) ∧ Below w.heap.size w w' := by
  have HF := (show Hid (decide (ordL a b < 0) = (decide (cmpL a.tenant b.tenant < 0) || ((a.tenant == b.tenant) && decide (cmpL a.who b.who < 0)))) from ord_less a b)
  have L1 := less_run a.tenant b.tenant
  have L2 := less_run a.who b.who
  have L3 := less_cmp a.tenant b.tenant
  have L4 := less_cmp a.who b.who
  obtain ⟨t1, h1, r1⟩ := a
  obtain ⟨t2, h2, r2⟩ := b
  simp only at HF L1 L2 L3 L4
  generalize decide (ordL ⟨t1, h1, r1⟩ ⟨t2, h2, r2⟩ < 0) = R at *
  generalize decide (cmpL t1 t2 < 0) = B1 at *
  generalize decide (cmpL h1 h2 < 0) = B2 at *
  obtain ⟨b3, hb3⟩ : ∃ b, (t1 == t2) = b := ⟨_, rfl⟩
  rw [hb3] at HF
  have HBl : Hid (∀ o o', Below w.heap.size w ((w.alloc o).alloc o')) := fun o o' => ((Below.refl _ _).alloc (Nat.le_refl _) o).alloc (by simp) o'
  cases B1
  · cases b3
    · have hR : R = false := HF.out
      subst hR
      clear HF
      go_enter Try.func25, Try.ntmps25
      go_wp2
      go_ret
      exact ⟨rfl, HBl.out _ _⟩
    · have hR : R = B2 := by rw [HF.out]; simp
      subst hR
      clear HF
      cases R
      all_goals
        go_enter Try.func25, Try.ntmps25
        go_wp2
        go_ret
        exact ⟨rfl, HBl.out _ _⟩
  · have hR : R = true := by rw [HF.out]; simp
    subst hR
    clear HF
    go_enter Try.func25, Try.ntmps25
    go_wp2
    go_ret
    exact ⟨rfl, HBl.out _ _⟩
end Go.Proofs.Ytocfdpjclmieiaa
