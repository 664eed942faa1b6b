/- LinkFront: what is told ends where it is told to end; walked. -/
import Derived.Test.YthpkoecpmbpnbaaDoorKQuiet
set_option linter.unusedVariables false
namespace Go.Proofs.YthpkoecpmbpnbaaDoor.linkFront
open Go.RowKit

set_option maxHeartbeats 16000000 in
set_option maxRecDepth 60000 in
theorem walk (s0 : ByteArray) (w0 : s0.size ≤ 140737488351232) (s1 : ByteArray) (w1 : s1.size ≤ 140737488351232) (w : World) :
    Calls Tryd.prog 4 #[.string s0, .string s1] w fun e w' => e = .returned (.bool true) ∧ Below w.heap.size w w' := by
  have HS := (show Hid _ from fun w => kshown_any w)
  obtain ⟨A, i, HL, hiL, FL⟩ := front_label s0 s1 w0 w1
  obtain ⟨C, k, HD, hkL, FD⟩ := front_dest s0 s1 w0 w1
  obtain ⟨E, m, HT, hmL, FT⟩ := front_title s0 s1 w0 w1
  obtain ⟨G1, G2, G3, o, HG, hoL, FG⟩ := front_define s0 w0
  have B : Hid (Below w.heap.size w w) := Below.refl _ _
  have hiA : decide ((i : Int) < 0) = false := decide_eq_false (by omega)
  have hiB : decide ((s0.size : Int) < (i : Int)) = false := decide_eq_false (by have := hiL.out; omega)
  have hkA : decide ((k : Int) < 0) = false := decide_eq_false (by omega)
  have hkB : decide ((s0.size : Int) < (k : Int)) = false := decide_eq_false (by have := hkL.out; omega)
  have hmA : decide ((m : Int) < 0) = false := decide_eq_false (by omega)
  have hmB : decide ((s0.size : Int) < (m : Int)) = false := decide_eq_false (by have := hmL.out; omega)
  have hoA : decide ((o : Int) < 0) = false := decide_eq_false (by omega)
  have hoB : decide ((s0.size : Int) < (o : Int)) = false := decide_eq_false (by have := hoL.out; omega)
  go_enter Tryd.func4, Tryd.ntmps4
  go_wp2_with (first
    | (go_at_call 8; refine (HS.out _).mono ?_; rintro e u ⟨rfl, hb⟩; replace B : Hid (Below w.heap.size w u) := below_next B.out hb; clear hb)
    | (go_at_call_of 9 (Value.string s0); refine (HL.out _).mono ?_; rintro e u ⟨rfl, hb⟩; replace B : Hid (Below w.heap.size w u) := below_next B.out hb; clear hb; rcases Nat.eq_zero_or_pos i with hi | hi <;> (first | subst hi | (obtain ⟨hi2, x1, y1, hx1, a1, K1, hA⟩ := FL.out hi; have t1 : (0 : Int) < (i : Int) := (by omega); have t2 : (i : Int) ≤ (s0.size : Int) := (by have := hiL.out; omega); have t3 : (i : Int) - 1 = ((i - 1 : Nat) : Int) := (by omega); have t4 : 1 ≤ i - 1 := (by omega); have t5 : i - 1 ≤ s0.size := (by omega); clear hi hi2)))
    | (go_at_call_of 9 (Value.string y1); refine (K1.out _).mono ?_; rintro e u ⟨rfl, hb⟩; replace B : Hid (Below w.heap.size w u) := below_next B.out hb; clear hb)
    | (go_at_call_of 11 (Value.string s0); refine (HD.out _).mono ?_; rintro e u ⟨rfl, hb⟩; replace B : Hid (Below w.heap.size w u) := below_next B.out hb; clear hb; rcases Nat.eq_zero_or_pos k with hk | hk <;> (first | subst hk | (obtain ⟨x2, y2, z2, hx2, b1, b2, K2⟩ := FD.out hk; have t6 : (0 : Int) < (k : Int) := (by omega); have t7 : (k : Int) ≤ (s0.size : Int) := (by have := hkL.out; omega); clear hk)))
    | (go_at_call_of 11 (Value.string z2); refine (K2.out _).mono ?_; rintro e u ⟨rfl, hb⟩; replace B : Hid (Below w.heap.size w u) := below_next B.out hb; clear hb)
    | (go_at_call_of 13 (Value.string s0); refine (HT.out _).mono ?_; rintro e u ⟨rfl, hb⟩; replace B : Hid (Below w.heap.size w u) := below_next B.out hb; clear hb; rcases Nat.eq_zero_or_pos m with hm | hm <;> (first | subst hm | (obtain ⟨x3, y3, hx3, c1, K3⟩ := FT.out hm; have t8 : (0 : Int) < (m : Int) := (by omega); have t9 : (m : Int) ≤ (s0.size : Int) := (by have := hmL.out; omega); clear hm)))
    | (go_at_call_of 13 (Value.string y3); refine (K3.out _).mono ?_; rintro e u ⟨rfl, hb⟩; replace B : Hid (Below w.heap.size w u) := below_next B.out hb; clear hb)
    | (go_at_call_of 15 (Value.string s0); refine (HG.out _).mono ?_; rintro e u ⟨rfl, hb⟩; replace B : Hid (Below w.heap.size w u) := below_next B.out hb; clear hb; rcases Nat.eq_zero_or_pos o with ho | ho <;> (first | subst ho | (obtain ⟨x4, hx4, K4, KF, hG⟩ := FG.out ho; have tA : (0 : Int) < (o : Int) := (by omega); have tB : (o : Int) ≤ (s0.size : Int) := (by have := hoL.out; omega); clear ho)))
    | (go_at_call_of 15 (Value.string x4); refine (K4.out _).mono ?_; rintro e v ⟨rfl, hv⟩))
  all_goals first
    | (go_ret
       exact ⟨rfl, B.out.alloc B.out.size _⟩)
    | (have bA := (Blk3.new u 26 (.string G1) (.string G2) (.string G3)).below hv
       have b2 := below_next (B.out.alloc B.out.size _) hv
       have b3 := (show Hid _ from b2.alloc b2.size (.cells #[.string G1, .string G2, .string G3] 26))
       have cA : ∀ y : BelW (v.alloc (.cells #[.string G1, .string G2, .string G3] 26)), Blk3 y.wo u.heap.size 26 (.string G1) (.string G2) (.string G3) := fun y => (bA.below ((Below.refl _ _).alloc (Nat.le_refl _) _)).below y.is
       have cB : ∀ y : BelW (v.alloc (.cells #[.string G1, .string G2, .string G3] 26)), Blk3 y.wo v.heap.size 26 (.string G1) (.string G2) (.string G3) := fun y => (Blk3.new v _ _ _ _).below y.is
       have p0 := fun y => (cA y).c0
       have p1 := fun y => (cA y).c1
       have p2 := fun y => (cA y).c2
       have p3 := fun y => (cB y).c0
       have p4 := fun y => (cB y).c1
       have p5 := fun y => (cB y).c2
       have HF : Hid (∀ y : BelW (v.alloc (.cells #[.string G1, .string G2, .string G3] 26)), Calls Tryd.prog 17 #[.string G1] y.wo fun e w' => e = .returned (.string G1) ∧ ∃ u' : BelW (v.alloc (.cells #[.string G1, .string G2, .string G3] 26)), w' = u'.wo) := bq KF.out
       clear cA cB bA b2
       refine region_class (fun w' => ∃ y : BelW (v.alloc (.cells #[.string G1, .string G2, .string G3] 26)), w' = y.wo) (by kernel_rfl) (by kernel_rfl) ⟨BelW.of (below_drewK (Below.refl _ _)), rfl⟩ ?_
       haveI : Nonempty (BelW (v.alloc (.cells #[.string G1, .string G2, .string G3] 26))) := ⟨BelW.of (Below.refl _ _)⟩
       repeat (go_big_quiet_step ((go_at_call 17; exact HF.out _)))
       refine wpQuiet_nil ?_
       intro _ hw'
       obtain ⟨y, hy⟩ := hw'
       subst hy
       have HU := (show Hid _ from y.is)
       go_wp2
       go_ret
       exact ⟨rfl, below_next b3.out HU.out⟩)

end Go.Proofs.YthpkoecpmbpnbaaDoor.linkFront
