/- LinkDefines: the two ways of a definition, with and without a title. -/
import Derived.Test.YtadghfgjdfgopaaDoorKDefs2
set_option linter.unusedVariables false
namespace Go.Proofs.YtadghfgjdfgopaaDoor
open Go.RowKit

theorem pl_cons {c : UInt8} {l : List UInt8} (hc : plC c) (h : ∀ x ∈ l, plC x) : ∀ x ∈ c :: l, plC x := by
  intro x hx
  rcases List.mem_cons.1 hx with rfl | hx
  · exact hc
  · exact h x hx

theorem way_bare {z5 P0 Lx P1 P2 Dx Tx : ByteArray} {lL lD lT : List UInt8} (HH : ∀ y, z5.data.toList ++ y = headD P0.data.toList Lx.data.toList P1.data.toList P2.data.toList y) (HI : IsInd P0.data.toList ∧ IsGap1 P1.data.toList ∧ IsQ Dx.data.toList P2.data.toList)
    (HL : Lx.data.toList = 108 :: lL ∧ (∀ c ∈ lL, plC c) ∧ lL.length ≤ 100) (HD : Dx.data.toList = 100 :: lD ∧ (∀ c ∈ lD, plC c)) (HT : Tx.data.toList = lT ∧ (∀ c ∈ lT, plC c)) (h0 : lT = []) (hz : z5.size ≤ 1000) (m : Nat) (hm : m < 3) :
    ∃ P5 f h : ByteArray, (∀ wq : World, (wq.alloc (.cells #[.string ⟨#[]⟩, .string ⟨#[32]⟩, .string ⟨#[32, 9]⟩] 9)).cell? ⟨wq.heap.size, m, none⟩ = some (.string P5)) ∧ Adds z5 P5 f ∧ Adds f (ByteArray.mk #[10, 109, 111, 114, 101]) h ∧ f.size ≤ 3000 ∧ Hid (Told4 f ⟨(fold Lx.data.toList).toArray⟩ Dx Tx f.size) ∧ Hid (Told4 h ⟨(fold Lx.data.toList).toArray⟩ Dx Tx (f.size + 1)) := by
  refine defs9 z5 Dx Tx _ Lx.data.toList Dx.data.toList [] (mk_data Dx).symm (by rw [← mk_data Tx, HT.1, h0]) rfl (by omega) (fun p5 h5 => ?_) m hm
  rw [HH, HH]
  exact defs_bare HI.1 HL.1 HL.2.1 (by have := HL.2.2; omega) HI.2.1 HD.1 (by rw [HD.1]; exact pl_cons (.inl (by decide)) HD.2) HI.2.2 h5

theorem way_titled {z5 d2 P0 Lx P1 P2 P3 P4 Dx Tx : ByteArray} {lL lD lT : List UInt8} (HH : ∀ y, z5.data.toList ++ y = headD P0.data.toList Lx.data.toList P1.data.toList P2.data.toList y) (HI : IsInd P0.data.toList ∧ IsGap1 P1.data.toList ∧ IsQ Dx.data.toList P2.data.toList)
    (HL : Lx.data.toList = 108 :: lL ∧ (∀ c ∈ lL, plC c) ∧ lL.length ≤ 100) (HD : Dx.data.toList = 100 :: lD ∧ (∀ c ∈ lD, plC c)) (HT : Tx.data.toList = lT ∧ (∀ c ∈ lT, plC c)) (Hd : d2.data.toList = z5.data.toList ++ (P3.data.toList ++ P4.data.toList)) (HJ : IsGap2 P3.data.toList ∧ IsT Tx.data.toList P4.data.toList) (hz : d2.size ≤ 2000) (m : Nat) (hm : m < 3) :
    ∃ P5 f h : ByteArray, (∀ wq : World, (wq.alloc (.cells #[.string ⟨#[]⟩, .string ⟨#[32]⟩, .string ⟨#[32, 9]⟩] 9)).cell? ⟨wq.heap.size, m, none⟩ = some (.string P5)) ∧ Adds d2 P5 f ∧ Adds f (ByteArray.mk #[10, 109, 111, 114, 101]) h ∧ f.size ≤ 3000 ∧ Hid (Told4 f ⟨(fold Lx.data.toList).toArray⟩ Dx Tx f.size) ∧ Hid (Told4 h ⟨(fold Lx.data.toList).toArray⟩ Dx Tx (f.size + 1)) := by
  refine defs9 d2 Dx Tx _ Lx.data.toList Dx.data.toList Tx.data.toList (mk_data Dx).symm (mk_data Tx).symm rfl hz (fun p5 h5 => ?_) m hm
  rw [Hd, List.append_assoc, List.append_assoc, List.append_assoc, List.append_assoc, HH, HH]
  exact defs_titled HI.1 HL.1 HL.2.1 (by have := HL.2.2; omega) HI.2.1 HD.1 (by rw [HD.1]; exact pl_cons (.inl (by decide)) HD.2) HI.2.2 HJ.1 (by rw [HT.1]; exact HT.2) HJ.2 h5

end Go.Proofs.YtadghfgjdfgopaaDoor
