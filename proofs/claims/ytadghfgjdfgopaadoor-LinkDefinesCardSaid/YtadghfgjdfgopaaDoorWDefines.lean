/- LinkDefines: a definition that is written is read as it was written; walked. -/
import Derived.Test.YtadghfgjdfgopaaDoorKDefs3
import Derived.Test.YtadghfgjdfgopaaDoorRunRef
import Derived.BigRegion
import Derived.Deep.Cut
import Derived.Deep.CutRange
set_option linter.unusedVariables false
namespace Go.Proofs.YtadghfgjdfgopaaDoor.linkDefines
open Go.RowKit

/-- A text that is a definition, whichever end is put behind it. -/
def Ready (S Lx Dx Tx : ByteArray) : Prop := ∀ m : Nat, m < 3 → ∃ P5 f h : ByteArray, (∀ wq : World, (wq.alloc (.cells #[.string ⟨#[]⟩, .string ⟨#[32]⟩, .string ⟨#[32, 9]⟩] 9)).cell? ⟨wq.heap.size, m, none⟩ = some (.string P5)) ∧ Adds S P5 f ∧ Adds f (ByteArray.mk #[10, 109, 111, 114, 101]) h ∧ f.size ≤ 3000 ∧ Hid (Told4 f ⟨(fold Lx.data.toList).toArray⟩ Dx Tx f.size) ∧ Hid (Told4 h ⟨(fold Lx.data.toList).toArray⟩ Dx Tx (f.size + 1))

theorem drew3 (u : World) (o p q : Obj) : Below u.heap.size u (((u.alloc o).alloc p).alloc q).drew := by
  have b1 := (Below.refl u.heap.size u).alloc (Nat.le_refl _) o
  have b2 := b1.alloc b1.size p
  exact below_drewK (b2.alloc b2.size q)
theorem drew2 (u : World) (o p : Obj) : Below u.heap.size u ((u.alloc o).alloc p).drew := by
  have b1 := (Below.refl u.heap.size u).alloc (Nat.le_refl _) o
  exact below_drewK (b1.alloc b1.size p)

set_option maxHeartbeats 16000000 in
set_option maxRecDepth 60000 in
theorem walk (s0 : ByteArray) (w0 : s0.size ≤ 140737488351232) (s1 : ByteArray) (w1 : s1.size ≤ 140737488351232) (s2 : ByteArray) (w2 : s2.size ≤ 140737488351232) (a3 : Option Addr) (b3 o3 len3 cap3 : Nat) (num3 : Nat → Int) (w : World) (e31 : 0 < len3 → a3 = some ⟨b3, o3, none⟩) (e32 : ∀ i, i < len3 → w.cell? ⟨b3, o3 + i, none⟩ = some (.int .i64 (num3 i))) (e33 : len3 ≤ maxLen) (e34 : ∀ i, -9223372036854775808 ≤ num3 i ∧ num3 i ≤ 9223372036854775807) :
    Calls Tryd.prog 5 #[.string s0, .string s1, .string s2, .slice a3 len3 cap3] w fun e w' => e = .returned (.bool true) ∧ Below w.heap.size w w' := by
  have HS := (show Hid _ from fun w => kshown_any w)
  have H0 := (show Hid _ from fun w => kplain_any s0 (by omega) 100 (by omega) w)
  have H1 := (show Hid _ from fun w => kplain_any s1 (by omega) 300 (by omega) w)
  have H2 := (show Hid _ from fun w => kplain_any s2 (by omega) 300 (by omega) w)
  have B : Hid (Below w.heap.size w w) := Below.refl _ _
  have E1 : Hid (0 < len3 → a3 = some ⟨b3, o3, none⟩) := e31
  have E2 : Hid (∀ i, i < len3 → w.cell? ⟨b3, o3 + i, none⟩ = some (.int .i64 (num3 i))) := e32
  have E4 : Hid (∀ i, -9223372036854775808 ≤ num3 i ∧ num3 i ≤ 9223372036854775807) := e34
  have E3 := (show Hid _ from e33)
  clear e31 e32 e34 e33 w0 w1 w2
  go_enter Tryd.func5, Tryd.ntmps5
  go_wp2_with (first
    | (go_at_call 8; refine (HS.out _).mono ?_; rintro e u ⟨rfl, hb⟩; replace B : Hid (Below w.heap.size w u) := below_next B.out hb; clear hb)
    | (go_at_call_of 18 (Value.string s0); refine (H0.out _).mono ?_; rintro e u ⟨lL, rfl, pL, nL, hb⟩; replace B : Hid (Below w.heap.size w u) := below_next B.out hb; clear hb; generalize hX : ByteArray.mk lL.toArray = X1; have hXs : X1.size ≤ 100 := (by rw [← hX, size_list]; exact nL); obtain ⟨Lx, aL, dL, zL⟩ := adds_ex (ByteArray.mk #[108]) X1 (by show 1 + _ ≤ _; omega); have HLx : Hid (Lx.data.toList = 108 :: lL ∧ (∀ c ∈ lL, plC c) ∧ lL.length ≤ 100) := ⟨by rw [dL, ← hX]; rfl, pL, nL⟩; have hLs : Lx.size ≤ 400 := (by have z : Lx.size = 1 + X1.size := zL; omega); clear hX dL zL pL nL)
    | (go_at_call_of 18 (Value.string s1); refine (H1.out _).mono ?_; rintro e u ⟨lD, rfl, pD, nD, hb⟩; replace B : Hid (Below w.heap.size w u) := below_next B.out hb; clear hb; generalize hX : ByteArray.mk lD.toArray = X2; have hXs2 : X2.size ≤ 300 := (by rw [← hX, size_list]; exact nD); obtain ⟨Dx, aD, dD, zD⟩ := adds_ex (ByteArray.mk #[100]) X2 (by show 1 + _ ≤ _; omega); have HDx : Hid (Dx.data.toList = 100 :: lD ∧ (∀ c ∈ lD, plC c)) := ⟨by rw [dD, ← hX]; rfl, pD⟩; have hDs : Dx.size ≤ 400 := (by have z : Dx.size = 1 + X2.size := zD; omega); clear hX dD zD pD nD)
    | (go_at_call_of 18 (Value.string s2); refine (H2.out _).mono ?_; rintro e u ⟨lT, rfl, pT, nT, hb⟩; replace B : Hid (Below w.heap.size w u) := below_next B.out hb; clear hb; generalize hX : ByteArray.mk lT.toArray = Tx; have hTs : Tx.size ≤ 400 := (by rw [← hX, size_list]; omega); have HTx : Hid (Tx.data.toList = lT ∧ (∀ c ∈ lT, plC c)) := ⟨by rw [← hX, list_data], pT⟩; clear hX pT nT)
    | (go_at_call 19; refine (ksix_any a3 b3 o3 len3 cap3 num3 _ E1 (six_cells B.out E2.out) E3.out E4).mono ?_; rintro e u ⟨vs, l6, rfl, hown, hl6, hfit, hb⟩; replace B : Hid (Below w.heap.size w u) := below_next B.out hb; clear hb; obtain ⟨g, cap, n0, n1, n2, n3, n4, n5, rfl, hc6, ⟨r0, r0'⟩, ⟨r1, r1'⟩, ⟨r2, r2'⟩, ⟨r3, r3'⟩, ⟨r4, r4'⟩, ⟨r5, r5'⟩⟩ := six_open hown hl6 hfit; have HC6 := (show Hid (Six6 u g n0 n1 n2 n3 n4 n5) from hc6); clear hown hl6 hfit hc6))
  obtain ⟨m0, hm0, q0⟩ := rem_nat n0 r0 3 (by decide)
  obtain ⟨m1, hm1, q1⟩ := rem_nat n1 r1 4 (by decide)
  obtain ⟨m2, hm2, q2⟩ := rem_nat n2 r2 2 (by decide)
  have q0' : n0 % 3 = (m0 : Int) := q0
  have q1' : n1 % 4 = (m1 : Int) := q1
  have q2' : n2 % 2 = (m2 : Int) := q2
  have i0 : (m0 : Int) < 3 := by omega
  have i1 : (m1 : Int) < 4 := by omega
  have i2 : (m2 : Int) < 2 := by omega
  obtain ⟨P0, P1, P2, y1, y2, z1, z2, z3, z4, z5, c0, c1, A1, A2, c2, A3, A4, A5, A6, A7, hz5, HH, HI⟩ := defs6 Lx Dx hLs hDs m0 m1 m2 hm0 hm1 hm2
  obtain ⟨k0, k1, k2, k3, k4, k5⟩ := HC6.out
  have k0a := fun o => al1 k0 o
  have k0b := fun o p => al1 (k0a o) p
  have k0c := fun o p q => al1 (k0b o p) q
  have k1a := fun o => al1 k1 o
  have k1b := fun o p => al1 (k1a o) p
  have k1c := fun o p q => al1 (k1b o p) q
  have k2a := fun o => al1 k2 o
  have k2b := fun o p => al1 (k2a o) p
  have k2c := fun o p q => al1 (k2b o p) q
  clear q0 q1 q2 k3 k4 k5
  have BU : Hid (Below u.heap.size u u) := Below.refl _ _
  clear HS H0 H1 H2 E1 E2 E3 E4 aL aD hXs hXs2
  go_cut [14] from 31 to 61 (fun X wx => X = .string z5 ∧ Hid (Below u.heap.size u wx))
  case first =>
    clear HH HI HLx HDx HTx B hz5 HC6 r3 r3' r4 r4' r5 r5' hLs hDs hTs
    go_region
    all_goals (go_wp2_with fail)
    all_goals go_meet
    all_goals exact ⟨rfl, drew3 _ _ _ _⟩
  case rest =>
    clear c0 c1 A1 A2 c2 A3 A4 A5 A6 A7 k0 k1 k2 k0a k0b k0c k1a k1b k1c k2a k2b k2c BU hm0 hm1 hm2 i0 i1 i2 q0' q1' q2'
    obtain ⟨rfl, hwc⟩ := hcut
    replace B : Hid (Below w.heap.size w wc) := below_next B.out hwc.out
    replace HC6 : Hid (Six6 wc g n0 n1 n2 n3 n4 n5) := HC6.out.below hwc.out
    clear hwc
    generalize wc = v1 at *
    obtain ⟨m3, hm3, q3⟩ := rem_nat n3 r3 3 (by decide)
    obtain ⟨m4, hm4, q4⟩ := rem_nat n4 r4 3 (by decide)
    obtain ⟨m5, hm5, q5⟩ := rem_nat n5 r5 3 (by decide)
    have q3' : n3 % 3 = (m3 : Int) := q3
    have q4' : n4 % 3 = (m4 : Int) := q4
    have q5' : n5 % 3 = (m5 : Int) := q5
    have i3 : (m3 : Int) < 3 := by omega
    have i4 : (m4 : Int) < 3 := by omega
    have i5 : (m5 : Int) < 3 := by omega
    clear q3 q4 q5
    go_upto_if 63 with fail
    go_cut [14] from 62 to 89 (fun X wx => ∃ S, X = .string S ∧ Hid (Ready S Lx Dx Tx) ∧ Hid (Below v1.heap.size v1 wx))
    case first =>
      obtain ⟨k0, k1, k2, k3, k4, k5⟩ := HC6.out
      clear k0 k1 k2 k5
      rcases hTe : Tx.toList.isEmpty with _ | _
      · obtain ⟨P3, P4, a1, a2, b1, b2, c1, c2, d1, d2, C3, X1, X2, X3, X4, X5, X6, C4, X7, X8, hd2, HD8, HJ⟩ := defs8 z5 Tx hz5 hTs m3 m4 hm3 hm4
        have HR : Hid (Ready d2 Lx Dx Tx) := fun m hm => way_titled HH.out HI.out HLx.out HDx.out HTx.out HD8.out HJ.out hd2 m hm
        have k3a := fun o => al1 k3 o
        have k3b := fun o p => al1 (k3a o) p
        have k4a := fun o => al1 k4 o
        have k4b := fun o p => al1 (k4a o) p
        clear HH HI HLx HDx HTx HD8 HJ hd2 B HC6
        go_wp2_with fail
        go_region
        all_goals (go_wp2_with fail)
        all_goals go_meet
        all_goals exact ⟨_, rfl, HR, drew2 _ _ _⟩
      · have HR : Hid (Ready z5 Lx Dx Tx) := fun m hm => way_bare HH.out HI.out HLx.out HDx.out HTx.out (by have h := HTx.out.1; rw [ByteArray.toList_eq] at hTe; rw [← h]; exact List.isEmpty_iff.1 hTe) hz5 m hm
        clear HH HI HLx HDx HTx B HC6
        go_wp2_with fail
        go_meet
        exact ⟨_, rfl, HR, Below.refl _ _⟩
    case rest =>
      obtain ⟨S, rfl, hR, hwd⟩ := hcut
      replace B : Hid (Below w.heap.size w wc) := below_next B.out hwd.out
      have k5 := (HC6.out.below hwd.out).2.2.2.2.2
      clear hwd HC6 HH HI HDx HTx
      generalize wc = v2 at *
      have k5a := fun o => al1 k5 o
      obtain ⟨P5, f, h, C5, X1, X2, hf, T1, T2⟩ := hR.out m5 hm5
      have cc5 := C5 v2
      have HFo := (show Hid _ from fun w => run.reffold_any Lx w (by omega))
      generalize hG : ByteArray.mk (fold Lx.data.toList).toArray = G at *
      clear hG hR C5 HLx
      go_wp2_with (first
        | (go_at_call_of 15 (Value.string f); refine (T1.out _).mono ?_; rintro e u1 ⟨rfl, hb⟩; replace B : Hid (Below w.heap.size w u1) := below_next (B.out.alloc B.out.size _) hb; clear hb)
        | (go_at_call_of 15 (Value.string h); refine (T2.out _).mono ?_; rintro e u2 ⟨rfl, hb⟩; have bA : Hid (Blk3 u2 u1.heap.size 26 (.string G) (.string Dx) (.string Tx)) := (Blk3.new u1 26 (.string G) (.string Dx) (.string Tx)).below hb; replace B : Hid (Below w.heap.size w u2) := below_next (B.out.alloc B.out.size _) hb; clear hb)
        | (go_at_call 17; refine (HFo.out _).mono ?_; rintro e u3 ⟨rfl, hb⟩; have bB := (Blk3.new u2 26 (.string G) (.string Dx) (.string Tx)).below hb; have bA2 := (blk_below (blk_below bA.out ((Below.refl _ _).alloc (Nat.le_refl _) (.cells #[.string G, .string Dx, .string Tx] 26))) hb); replace B : Hid (Below w.heap.size w u3) := below_next (B.out.alloc B.out.size _) hb; have c0 := (fun o => al1 (Blk3.c0 bA2) o); have c1 := (fun o => al1 (Blk3.c1 bA2) o); have c2 := (fun o => al1 (Blk3.c2 bA2) o); have e0 := (fun o => al1 bB.c0 o); have e1 := (fun o => al1 bB.c1 o); have e2 := (fun o => al1 bB.c2 o); clear bA bA2 bB hb))
      go_ret
      exact ⟨rfl, B.out.alloc B.out.size _⟩

end Go.Proofs.YtadghfgjdfgopaaDoor.linkDefines
