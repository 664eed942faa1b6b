/- shown, walked. -/
import Derived.Test.YtkbmblmnhhlicaaGreatDoorVLgs
import Derived.Test.YtkbmblmnhhlicaaGreatDoorV21
import Derived.Test.YtkbmblmnhhlicaaGreatDoorV21
set_option linter.unusedVariables false
namespace Go.Proofs.YtkbmblmnhhlicaaGreatDoor
open Go.RowKit

/-- A call that is wanted. -/
theorem stepG_call {P : Program} {w : World} {ops : Array Oper} {o : Oper} {c : Act} {K : Act → World → Prop} {Q : Exit → Act → World → Prop} {E : Prop} {R : Ending → World → Prop}
    (hw : Region.wanted o (yielded ops c.tmps) = true) (f : FuncId) (args : Array Value) (hrun : (execOp c.eval o).run P w = .ok (.enter f args) w) (hc : Calls P f args w R)
    (hR : ∀ e w', R e w' → ∃ v, e = .returned v) (hK : ∀ v w', R (.returned v) w' → K (c.put o.dst v) w') :
    if Region.wanted o (yielded ops c.tmps) = true then Oper.wp P o c w K Q else E := by
  rw [if_pos hw]
  unfold Oper.wp
  rw [hrun, Oper.upon_enter]
  refine hc.mono fun e w' h => ?_
  obtain ⟨v, rfl⟩ := hR e w' h
  exact hK v w' h

set_option maxHeartbeats 8000000 in
set_option maxRecDepth 40000 in
theorem shown_any15 {w : World} (ht : Tabs w) : Calls Tryz.prog 9 #[] w fun e w' => e = .returned (.bool true) ∧ Below w.heap.size w w' := by
  have HT : Hid (Tabs w) := ht
  obtain ⟨FB, hFB⟩ : ∃ FB : ByteArray, FB = ⟨(frameL 1 [97, 98]).toArray⟩ := ⟨_, rfl⟩
  have FS : Hid ((⟨(frameL 1 [97, 98]).toArray⟩ : ByteArray) = FB) := hFB.symm
  clear ht hFB
  go_enter Tryz.func9, Tryz.ntmps9
  go_wp2_with (fail)
  refine (newG (w0 := w) 1000 (by omega) (G := fun _ => False) (Below.refl _ w) (fun k hk => hk.elim)).mono ?_
  rintro e w1 ⟨b, m, rfl, hD, _⟩
  have D1 : Hid (DkS w b m (newD 1000) (fun _ => False) w1) := hD
  clear hD
  go_wp2_with (fail)
  refine (openG D1.out HT.out (fun x hx => by cases hx) (by show usedL [] ≤ _; rw [usedL_nil]; omega) (by show 0 + 1 ≤ _; omega) sw_e1).mono ?_
  rintro e w2 ⟨p, rfl, hL, _⟩
  have L2 : Hid (LgS w b m p sw1 [⟨1, [0]⟩] (fun _ => False) w2) := hL
  clear hL
  go_wp2_with (fail)
  refine (firstG L2.out).mono ?_
  rintro e w3 ⟨rfl, hw⟩
  subst hw
  go_wp2_with (fail)
  refine (lastG (L := []) L2.out).mono ?_
  rintro e w4 ⟨rfl, hL, _⟩
  have L4 : Hid (LgS w b m p sw1 [⟨1, [0]⟩] (fun _ => False) w4) := hL
  clear hL L2
  have cv4 := conv_mark w4
  go_wp2_with (fail)
  have hA4 := fun (h : LgS w b m p sw1 [⟨1, [0]⟩] (fun k => k = w4.heap.size) (w4.alloc (.cells #[.int .u8 97, .int .u8 98] 5 (2, 3)))) => appG h (by simp) (a := some ⟨w4.heap.size, 0, none⟩) (n := 2) (c := 2) (l := [97, 98]) (fun w' hk _ => brow_keep (brow_mark w4 [97, 98] _ _ rfl 2 2 rfl) (fun x hx => by
    cases hx
    exact hk.2 _ rfl)) (by omega) (by show 1 ≤ _; omega) (by show 1 + 1 ≤ _; omega) (by rw [sw_u1.1]; omega) (by rw [sw_u1.2]; omega)
  rw [sw_e2] at hA4
  refine (hA4 (L4.out.own (G' := fun k => k = w4.heap.size) (Fr.of_below _ ((Below.refl _ w4).alloc (Nat.le_refl _) _)) (fun k hk => hk.elim) (fun k hk => ⟨by rw [hk]; simp, .inr (by rw [hk]; exact Nat.le_refl _)⟩))).mono ?_
  rintro e w5 ⟨rfl, hL, _⟩
  have L5 : Hid (LgS w b m p sw2 ([] ++ [⟨1, [0, 10]⟩]) (fun k => k = w4.heap.size) w5) := hL
  clear hL hA4 L4 cv4
  go_wp2_with (fail)
  have hS := syncG L5.out
  rw [show (⟨1, [0, 10]⟩ : Sg).num = 1 from rfl, sw_e3] at hS
  refine hS.mono ?_
  rintro e w6 ⟨rfl, hL, _⟩
  have L6 : Hid (LgS w b m p sw3 [⟨1, [0, 10]⟩] (fun k => k = w4.heap.size) w6) := hL
  clear hL hS L5
  have cv6 := conv_mark w6
  go_wp2_with (fail)
  have hA6 := fun (h : LgS w b m p sw3 [⟨1, [0, 10]⟩] (fun k => k = w6.heap.size) (w6.alloc (.cells #[.int .u8 99] 5 (1, 2)))) => appG h (by simp) (a := some ⟨w6.heap.size, 0, none⟩) (n := 1) (c := 1) (l := [99]) (fun w' hk _ => brow_keep (brow_mark w6 [99] _ _ rfl 1 1 rfl) (fun x hx => by
    cases hx
    exact hk.2 _ rfl)) (by omega) (by show 2 ≤ _; omega) (by show 1 + 1 ≤ _; omega) (by rw [sw_u3.1]; omega) (by rw [sw_u3.2]; omega)
  rw [sw_e4] at hA6
  have hX6 : LgS w b m p sw3 [⟨1, [0, 10]⟩] (fun k => k = w6.heap.size) (w6.alloc (.cells #[.int .u8 99] 5 (1, 2))) := by
    have h1 := (L6.out.same ((Below.refl _ w6).alloc (Nat.le_refl _) (.cells #[.int .u8 99] 5 (1, 2)))).1
    obtain ⟨S, T, vs, q, g1, g2, g3⟩ := L6.out
    obtain ⟨sl, hd⟩ := g1.lv.dk
    exact ⟨S, T, vs, q, g1.same ((Below.refl _ w6).alloc (Nat.le_refl _) _), g2, fun k hk => ⟨by rw [hk]; simp, fun e => by have := hd.lt k e; omega, fun e => by have := g1.lg.lt k e; omega⟩⟩
  refine (hA6 hX6).mono ?_
  rintro e w7 ⟨rfl, hL, _⟩
  have D7 : Hid (DkS w b m sw4 (fun k => k = w6.heap.size) w7) := hL.dk
  clear hL hA6 hX6 L6 cv6
  go_wp2_with (fail)
  refine (crashG D7.out 3 (by omega)).mono ?_
  rintro e w7b ⟨rfl, hL, _⟩
  have D7b : Hid (DkS w b m (crashD sw4 3) (fun k => k = w6.heap.size) w7b) := hL
  clear hL D7
  go_wp2_with (fail)
  refine (startG D7b.out).mono ?_
  rintro e w7c ⟨rfl, hL, _⟩
  have D7c : Hid (DkS w b m sw5 (fun k => k = w6.heap.size) w7c) := hL
  clear hL D7b
  go_wp2_with (fail)
  refine (openG D7c.out HT.out (fun x hx => by
    have := List.all_eq_true.1 sw_u5.2.2 x hx
    simp at this
    omega) (by rw [sw_u5.1]; omega) (by rw [sw_u5.2.1]; omega) sw_e5).mono ?_
  rintro e w8 ⟨p2, rfl, hL, _⟩
  have L8 : Hid (LgS w b m p2 sw6 ([] ++ [⟨1, [0, 10]⟩]) (fun k => k = w6.heap.size) w8) := hL
  clear hL D7c
  go_wp2_with (fail)
  refine (lastG L8.out).mono ?_
  rintro e w8b ⟨rfl, hL, _⟩
  have L8b : Hid (LgS w b m p2 sw6 [⟨1, [0, 10]⟩] (fun k => k = w6.heap.size) w8b) := hL
  clear hL L8
  go_wp2_with (fail)
  have hGt := getG L8b.out (List.pairwise_singleton _ _) (L0 := []) (L1 := []) rfl rfl 1 0 (Nat.le_refl 1) (by show 1 < 2; omega) (by omega) rfl 1 [0, 10] rfl (Nat.le_refl 1) (by show 1 + 1 < 1 + 2; omega) 0 10 rfl rfl (by omega) (by omega) (by rw [sw_u6.1]; omega) sw_u6.2.1 (by rw [sw_u6.2.2, frameL_length]; show 10 ≤ 8 + 2; omega)
  rw [sw_u6.2.2, show 10 - (0 + 8) = 2 from rfl, show (0 + 8 : Nat) = 8 from rfl, sw_g] at hGt
  refine hGt.mono ?_
  rintro e w8c ⟨ga, gc, rfl, hr, hb⟩
  have HR8 : Hid (BRow w8c ga 2 gc [97, 98]) := hr
  have L8c : Hid (LgS w b m p2 sw6 [⟨1, [0, 10]⟩] (fun k => k = w6.heap.size) w8c) := (L8b.out.same hb).1
  clear hGt hr hb L8b
  go_wp2_with (fail)
  have hRd := dreadG L8c.out.dk (nameL 1) (by rw [nameL_length]; omega)
  rw [sw_u6.2.2, sw_u6.2.1, frameL_length, sw_n1, show (8 + ([97, 98] : List UInt8).length) = 10 from rfl] at hRd
  refine hRd.mono ?_
  rintro e w9 ⟨ra, rc, rfl, ho, hb⟩
  have s1 : ∀ w' : World, Below w9.heap.size w9 w' → (convert 34 9 (.slice ga 2 gc)).run Tryz.prog w' = .ok (.string ⟨#[97, 98]⟩) w' := fun w' hw => ((HR8.out.below hb).below hw).string
  have s2 : ∀ w' : World, Below w9.heap.size w9 w' → (convert 34 9 (.slice ra 10 rc)).run Tryz.prog w' = .ok (.string FB) w' := fun w' hw => by
    have := own_string (own_below2 ho hw)
    rw [FS.out] at this
    exact this
  have HB9 : Hid (Below w.heap.size w w9) := L8c.out.bel.trans (hb.mono L8c.out.bel.size)
  clear hRd ho hb
  have qFB : (FB.toList == FB.toList) = true := by simp
  go_wp2_with (fail)
  refine regionC (fun w' => Below w9.heap.size w9 w') 25 (by kernel_rfl) ?_
  (try (change wpAnyC _ _ _ _ _ _ _ _ _ (World.drew _)))
  refine nameW (fun W0 hW0 => ?_)
  have hC : Hid (Below w9.heap.size w9 W0) := by show Below _ _ _; rw [hW0]; exact ⟨rfl, rfl, rfl, Nat.le_refl _, fun _ _ => rfl⟩
  clear hW0
  refine takeC (i := 0) (v := ?_) rfl (by kernel_rfl) (by kernel_rfl) (by kernel_rfl) (by kernel_rfl) (by kernel_rfl) (fun _ _ _ h => h) hC.out (Or.inl ⟨by kernel_rfl, ?_⟩) ?_
  rotate_left 1
  · intro w' hw'
    skip
    go_simp
    first | done | with_reducible rfl
  (try simp only [Act.put])
  (try simp only [List.setIfInBounds_toArray])
  (try simp only [List.set_cons_succ])
  (try simp only [List.set_cons_zero])
  refine takeC (i := 1) (v := ?_) rfl (by kernel_rfl) (by kernel_rfl) (by kernel_rfl) (by kernel_rfl) (by kernel_rfl) (fun _ _ _ h => h) hC.out (Or.inl ⟨by kernel_rfl, ?_⟩) ?_
  rotate_left 1
  · intro w' hw'
    skip
    go_simp
    first | done | with_reducible rfl
  (try simp only [Act.put])
  (try simp only [List.setIfInBounds_toArray])
  (try simp only [List.set_cons_succ])
  (try simp only [List.set_cons_zero])
  refine takeC (i := 2) (v := ?_) rfl (by kernel_rfl) (by kernel_rfl) (by kernel_rfl) (by kernel_rfl) (by kernel_rfl) (fun _ _ _ h => h) hC.out (Or.inl ⟨by kernel_rfl, ?_⟩) ?_
  rotate_left 1
  · intro w' hw'
    skip
    go_simp
    first | done | with_reducible rfl
  (try simp only [Act.put])
  (try simp only [List.setIfInBounds_toArray])
  (try simp only [List.set_cons_succ])
  (try simp only [List.set_cons_zero])
  refine takeC (i := 3) (v := ?_) rfl (by kernel_rfl) (by kernel_rfl) (by kernel_rfl) (by kernel_rfl) (by kernel_rfl) (fun _ _ _ h => h) hC.out (Or.inl ⟨by kernel_rfl, ?_⟩) ?_
  rotate_left 1
  · intro w' hw'
    skip
    go_simp
    first | done | with_reducible rfl
  (try simp only [Act.put])
  (try simp only [List.setIfInBounds_toArray])
  (try simp only [List.set_cons_succ])
  (try simp only [List.set_cons_zero])
  refine takeC (i := 4) (v := ?_) rfl (by kernel_rfl) (by kernel_rfl) (by kernel_rfl) (by kernel_rfl) (by kernel_rfl) (fun _ _ _ h => h) hC.out (Or.inl ⟨by kernel_rfl, ?_⟩) ?_
  rotate_left 1
  · intro w' hw'
    have z1 := s1 w' hw'; have z2 := s2 w' hw'
    go_simp
    first | done | with_reducible rfl
  (try simp only [Act.put])
  (try simp only [List.setIfInBounds_toArray])
  (try simp only [List.set_cons_succ])
  (try simp only [List.set_cons_zero])
  refine takeC (i := 5) (v := ?_) rfl (by kernel_rfl) (by kernel_rfl) (by kernel_rfl) (by kernel_rfl) (by kernel_rfl) (fun _ _ _ h => h) hC.out (Or.inl ⟨by kernel_rfl, ?_⟩) ?_
  rotate_left 1
  · intro w' hw'
    skip
    go_simp
    first | done | with_reducible rfl
  (try simp only [Act.put])
  (try simp only [List.setIfInBounds_toArray])
  (try simp only [List.set_cons_succ])
  (try simp only [List.set_cons_zero])
  refine takeC (i := 6) (v := ?_) rfl (by kernel_rfl) (by kernel_rfl) (by kernel_rfl) (by kernel_rfl) (by kernel_rfl) (fun _ _ _ h => h) hC.out (Or.inl ⟨by kernel_rfl, ?_⟩) ?_
  rotate_left 1
  · intro w' hw'
    skip
    go_simp
    first | done | with_reducible rfl
  (try simp only [Act.put])
  (try simp only [List.setIfInBounds_toArray])
  (try simp only [List.set_cons_succ])
  (try simp only [List.set_cons_zero])
  refine takeC (i := 7) (v := ?_) rfl (by kernel_rfl) (by kernel_rfl) (by kernel_rfl) (by kernel_rfl) (by kernel_rfl) (fun _ _ _ h => h) hC.out (Or.inl ⟨by kernel_rfl, ?_⟩) ?_
  rotate_left 1
  · intro w' hw'
    skip
    go_simp
    first | done | with_reducible rfl
  (try simp only [Act.put])
  (try simp only [List.setIfInBounds_toArray])
  (try simp only [List.set_cons_succ])
  (try simp only [List.set_cons_zero])
  refine takeC (i := 8) (v := ?_) rfl (by kernel_rfl) (by kernel_rfl) (by kernel_rfl) (by kernel_rfl) (by kernel_rfl) (fun _ _ _ h => h) hC.out (Or.inl ⟨by kernel_rfl, ?_⟩) ?_
  rotate_left 1
  · intro w' hw'
    skip
    go_simp
    first | done | with_reducible rfl
  (try simp only [Act.put])
  (try simp only [List.setIfInBounds_toArray])
  (try simp only [List.set_cons_succ])
  (try simp only [List.set_cons_zero])
  refine takeC (i := 9) (v := ?_) rfl (by kernel_rfl) (by kernel_rfl) (by kernel_rfl) (by kernel_rfl) (by kernel_rfl) (fun _ _ _ h => h) hC.out (Or.inl ⟨by kernel_rfl, ?_⟩) ?_
  rotate_left 1
  · intro w' hw'
    skip
    go_simp
    first | done | with_reducible rfl
  (try simp only [Act.put])
  (try simp only [List.setIfInBounds_toArray])
  (try simp only [List.set_cons_succ])
  (try simp only [List.set_cons_zero])
  refine takeC (i := 10) (v := ?_) rfl (by kernel_rfl) (by kernel_rfl) (by kernel_rfl) (by kernel_rfl) (by kernel_rfl) (fun _ _ _ h => h) hC.out (Or.inl ⟨by kernel_rfl, ?_⟩) ?_
  rotate_left 1
  · intro w' hw'
    skip
    go_simp
    first | done | with_reducible rfl
  (try simp only [Act.put])
  (try simp only [List.setIfInBounds_toArray])
  (try simp only [List.set_cons_succ])
  (try simp only [List.set_cons_zero])
  refine takeC (i := 11) (v := ?_) rfl (by kernel_rfl) (by kernel_rfl) (by kernel_rfl) (by kernel_rfl) (by kernel_rfl) (fun _ _ _ h => h) hC.out (Or.inl ⟨by kernel_rfl, ?_⟩) ?_
  rotate_left 1
  · intro w' hw'
    skip
    go_simp
    first | done | with_reducible rfl
  (try simp only [Act.put])
  (try simp only [List.setIfInBounds_toArray])
  (try simp only [List.set_cons_succ])
  (try simp only [List.set_cons_zero])
  refine takeC (i := 12) (v := ?_) rfl (by kernel_rfl) (by kernel_rfl) (by kernel_rfl) (by kernel_rfl) (by kernel_rfl) (fun _ _ _ h => h) hC.out (Or.inl ⟨by kernel_rfl, ?_⟩) ?_
  rotate_left 1
  · intro w' hw'
    skip
    go_simp
    first | done | with_reducible rfl
  (try simp only [Act.put])
  (try simp only [List.setIfInBounds_toArray])
  (try simp only [List.set_cons_succ])
  (try simp only [List.set_cons_zero])
  refine takeC (i := 13) (v := ?_) rfl (by kernel_rfl) (by kernel_rfl) (by kernel_rfl) (by kernel_rfl) (by kernel_rfl) (fun _ _ _ h => h) hC.out (Or.inl ⟨by kernel_rfl, ?_⟩) ?_
  rotate_left 1
  · intro w' hw'
    skip
    go_simp
    first | done | with_reducible rfl
  (try simp only [Act.put])
  (try simp only [List.setIfInBounds_toArray])
  (try simp only [List.set_cons_succ])
  (try simp only [List.set_cons_zero])
  refine takeC (i := 14) (v := ?_) rfl (by kernel_rfl) (by kernel_rfl) (by kernel_rfl) (by kernel_rfl) (by kernel_rfl) (fun _ _ _ h => h) hC.out (Or.inl ⟨by kernel_rfl, ?_⟩) ?_
  rotate_left 1
  · intro w' hw'
    skip
    go_simp
    first | done | with_reducible rfl
  (try simp only [Act.put])
  (try simp only [List.setIfInBounds_toArray])
  (try simp only [List.set_cons_succ])
  (try simp only [List.set_cons_zero])
  refine takeC (i := 15) (v := ?_) rfl (by kernel_rfl) (by kernel_rfl) (by kernel_rfl) (by kernel_rfl) (by kernel_rfl) (fun _ _ _ h => h) hC.out (Or.inl ⟨by kernel_rfl, ?_⟩) ?_
  rotate_left 1
  · intro w' hw'
    skip
    go_simp
    first | done | with_reducible rfl
  (try simp only [Act.put])
  (try simp only [List.setIfInBounds_toArray])
  (try simp only [List.set_cons_succ])
  (try simp only [List.set_cons_zero])
  refine takeC (i := 16) (v := ?_) rfl (by kernel_rfl) (by kernel_rfl) (by kernel_rfl) (by kernel_rfl) (by kernel_rfl) (fun _ _ _ h => h) hC.out (Or.inl ⟨by kernel_rfl, ?_⟩) ?_
  rotate_left 1
  · intro w' hw'
    skip
    go_simp
    first | done | with_reducible rfl
  (try simp only [Act.put])
  (try simp only [List.setIfInBounds_toArray])
  (try simp only [List.set_cons_succ])
  (try simp only [List.set_cons_zero])
  refine takeC (i := 17) (v := ?_) rfl (by kernel_rfl) (by kernel_rfl) (by kernel_rfl) (by kernel_rfl) (by kernel_rfl) (fun _ _ _ h => h) hC.out (Or.inl ⟨by kernel_rfl, ?_⟩) ?_
  rotate_left 1
  · intro w' hw'
    skip
    go_simp
    first | done | with_reducible rfl
  (try simp only [Act.put])
  (try simp only [List.setIfInBounds_toArray])
  (try simp only [List.set_cons_succ])
  (try simp only [List.set_cons_zero])
  refine takeC (i := 18) (v := ?_) rfl (by kernel_rfl) (by kernel_rfl) (by kernel_rfl) (by kernel_rfl) (by kernel_rfl) (fun _ _ _ h => h) hC.out (Or.inl ⟨by kernel_rfl, ?_⟩) ?_
  rotate_left 1
  · intro w' hw'
    have z1 := s1 w' hw'; have z2 := s2 w' hw'
    go_simp
    first | done | with_reducible rfl
  (try simp only [Act.put])
  (try simp only [List.setIfInBounds_toArray])
  (try simp only [List.set_cons_succ])
  (try simp only [List.set_cons_zero])
  refine readyC (rs := [19]) (by kernel_rfl) (by simp) ?_
  refine ReadyC.cons rfl (fun K hK => ?_) ReadyC.nil
  go_simp
  refine hK _ _ (fun _ => hC.out.alloc hC.out.size _) ?_
  clear hK K
  (try simp only [Act.put])
  (try simp only [List.setIfInBounds_toArray])
  (try simp only [List.set_cons_succ])
  (try simp only [List.set_cons_zero])
  refine readyC (rs := [20]) (by kernel_rfl) (by simp) ?_
  refine ReadyC.cons rfl (fun K hK => ?_) ReadyC.nil
  have cv := conv_mark W0
  go_simp
  refine hK _ _ (fun _ => hC.out.alloc hC.out.size _) ?_
  clear hK K
  (try simp only [Act.put])
  (try simp only [List.setIfInBounds_toArray])
  (try simp only [List.set_cons_succ])
  (try simp only [List.set_cons_zero])
  refine nameW (fun W2 hW2 => ?_)
  have hr2 : Hid (BRow W2 (some ⟨W0.heap.size, 0, none⟩) 2 2 [97, 98]) := by rw [hW2]; exact brow_mark W0 [97, 98] _ _ rfl 2 2 rfl
  replace hC : Hid (Below w9.heap.size w9 W2) := by show Below _ _ _; rw [hW2]; exact hC.out.alloc hC.out.size _
  clear hW2 cv
  refine readyC (rs := [21]) (by kernel_rfl) (by simp) ?_
  refine ReadyC.cons rfl (fun K hK => ?_) ReadyC.nil
  refine stepG_call (by kernel_rfl) 45 #[.int .i64 1, .slice (some ⟨W0.heap.size, 0, none⟩) 2 2] (by kernel_rfl) (rframe_any 1 (by decide) hr2.out (by decide)) (fun e w' h => by obtain ⟨_, h, _⟩ := h; exact ⟨_, h⟩) ?_
  intro v1 W3 hq
  obtain ⟨vf, hv1, hof, hq⟩ := hq
  have hv1' := Ending.returned.inj hv1
  subst hv1'
  obtain ⟨fa, fc, hvf⟩ := own_slice hof
  subst hvf
  have hq2 : Below w9.heap.size w9 W3 := hC.out.trans (hq.mono hC.out.size)
  refine hK _ _ (fun _ => hq2) ?_
  clear hK K
  (try simp only [Act.put])
  (try simp only [List.setIfInBounds_toArray])
  (try simp only [List.set_cons_succ])
  (try simp only [List.set_cons_zero])
  have z5 : (convert 34 9 (.slice fa (frameL 1 [97, 98]).length fc)).run Tryz.prog W3 = .ok (.string ⟨(frameL 1 [97, 98]).toArray⟩) W3 := own_string hof
  replace hC : Hid (Below w9.heap.size w9 W3) := hq2
  clear hv1 hof hq hq2 hr2
  obtain ⟨fl, hfl⟩ : ∃ fl, (frameL 1 [97, 98]).length = fl := ⟨_, rfl⟩
  rw [hfl] at z5 ⊢
  rw [FS.out] at z5
  clear hfl
  refine readyC (rs := [22]) (by kernel_rfl) (by simp) ?_
  refine ReadyC.cons rfl (fun K hK => ?_) ReadyC.nil
  go_simp
  refine hK _ _ (fun _ => hC.out) ?_
  clear hK K
  (try simp only [Act.put])
  (try simp only [List.setIfInBounds_toArray])
  (try simp only [List.set_cons_succ])
  (try simp only [List.set_cons_zero])
  refine readyC (rs := [23]) (by kernel_rfl) (by simp) ?_
  refine ReadyC.cons rfl (fun K hK => ?_) ReadyC.nil
  go_simp
  refine hK _ _ (fun _ => hC.out) ?_
  clear hK K
  (try simp only [Act.put])
  (try simp only [List.setIfInBounds_toArray])
  (try simp only [List.set_cons_succ])
  (try simp only [List.set_cons_zero])
  refine readyC (rs := [24]) (by kernel_rfl) (by simp) ?_
  refine ReadyC.cons rfl (fun K hK => ?_) ReadyC.nil
  go_simp
  refine hK _ _ (fun _ => hC.out) ?_
  clear hK K
  (try simp only [Act.put])
  (try simp only [List.setIfInBounds_toArray])
  (try simp only [List.set_cons_succ])
  (try simp only [List.set_cons_zero])
  refine readyC (rs := [25]) (by kernel_rfl) (by simp) ?_
  refine ReadyC.cons rfl (fun K hK => ?_) ReadyC.nil
  go_simp
  refine hK _ _ (fun _ => hC.out) ?_
  clear hK K
  (try simp only [Act.put])
  (try simp only [List.setIfInBounds_toArray])
  (try simp only [List.set_cons_succ])
  (try simp only [List.set_cons_zero])
  refine doneC (by kernel_rfl) ?_ _
  clear s1 s2 z5
  go_wp2_with (fail)
  go_ret
  exact ⟨rfl, HB9.out.trans (hC.out.mono HB9.out.size)⟩
end Go.Proofs.YtkbmblmnhhlicaaGreatDoor
