/- Several texts in one. -/
import Derived.Test.YtjdijlaoeoikhaaGreatDoorG45
import Derived.Test.YtjdijlaoeoikhaaGreatDoorG27
import Derived.Test.YtjdijlaoeoikhaaGreatDoorG29
import Derived.Test.YtjdijlaoeoikhaaGreatDoorG02
import Derived.Test.YtjdijlaoeoikhaaGreatDoorG38
set_option linter.unusedVariables false
/- Package inline: target; walked. -/
namespace Go.Proofs.YtjdijlaoeoikhaaGreatDoor
open Go.RowKit

abbrev opV (o : Op) : Value := .agg #[.int .i64 (o.kind : Int), .int .i64 (o.part : Int), .int .i64 (o.start : Int)]

set_option maxHeartbeats 4000000 in
set_option maxRecDepth 20000 in
theorem itg_place {G : Nat → Obj → Prop} {B m n rb : Nat} {l : Str8} {look : Str8 → Option Df8} {w : World} {vp vo : Value} {xs : List Value} {r : Rd} (h : RdR G B l m n look w rb vp vo xs r) (hl : l.length ≤ 1073741824) (o : Op) (hos : o.start ≤ r.at0) (hat : r.at0 < l.length) {Bh : Str8} (o1 : ∀ w', (Instr.slice 9 (.string ⟨l.toArray⟩) (some (.int .i64 ((r.at0 : Int) + 1))) none none).run Tryz.prog w' = .ok (.string ⟨Bh.toArray⟩) w') {D V : Str8} {z : Nat} (hz : 0 < z) (hzl : z ≤ 1073741824) (HP : Hid (∀ W, Below w.heap.size w W → Calls Tryz.prog 61 #[strI Bh] W fun e w' => e = .returned (.tuple #[.agg #[.string ⟨#[]⟩, .string ⟨D.toArray⟩, .string ⟨V.toArray⟩], .int .i64 (z : Int)]) ∧ Below W.heap.size W w')) :
    Calls Tryz.prog 39 #[ptrB rb, opV o] w fun e w' => e = .returned (.tuple #[.agg #[.string ⟨#[]⟩, .string ⟨D.toArray⟩, .string ⟨V.toArray⟩], .int .i64 (1 + (z : Int))]) ∧ Below w.heap.size w w' := by
  obtain ⟨W1, hW1⟩ : ∃ W1, W1 = (w.alloc (.cells #[.int .i64 (o.kind : Int), .int .i64 (o.part : Int), .int .i64 (o.start : Int)] 71)).alloc (.cells #[.string ⟨#[]⟩, .string ⟨#[]⟩, .string ⟨#[]⟩] 35) := ⟨_, rfl⟩
  have hb1 : Below w.heap.size w W1 := by rw [hW1]; exact ((Below.refl _ _).alloc (Nat.le_refl _) _).alloc (by simp) _
  have hB0 : Blk3 W1 (w.heap.size + 1) 35 (.string ⟨#[]⟩) (.string ⟨#[]⟩) (.string ⟨#[]⟩) := by
    rw [hW1]
    have q := Blk3.new (w.alloc (.cells #[.int .i64 (o.kind : Int), .int .i64 (o.part : Int), .int .i64 (o.start : Int)] 71)) 35 (.string ⟨#[]⟩) (.string ⟨#[]⟩) (.string ⟨#[]⟩)
    simpa using q
  have hOb : W1.heap[w.heap.size]? = some (.cells #[.int .i64 (o.kind : Int), .int .i64 (o.part : Int), .int .i64 (o.start : Int)] 71 (0, 0)) := by
    rw [hW1]
    exact blk.blk_below (heap_alloc_new w _) ((Below.refl _ _).alloc (Nat.le_refl _) _)
  have HRW : Hid (∀ W, Below W1.heap.size W1 W → RdR G B l m n look W rb vp vo xs r) := fun W hW => (h.below hb1).below hW
  have HBk : Hid (∀ W, Below W1.heap.size W1 W → Blk3 W (w.heap.size + 1) 35 (.string ⟨#[]⟩) (.string ⟨#[]⟩) (.string ⟨#[]⟩)) := fun W hW => hB0.below hW
  have HOb : Hid (∀ W, Below W1.heap.size W1 W → W.cell? ⟨w.heap.size, 2, none⟩ = some (.int .i64 (o.start : Int))) := fun W hW => blk.cell_blk (blk.blk_below hOb hW) (i := 2) rfl
  have HBw : Hid (∀ W, Below W1.heap.size W1 W → Below w.heap.size w W) := fun W hW => hb1.trans (hW.mono hb1.size)
  have c0 := fun u : BwI W1 => (HRW.out u.wo u.is).c.1
  have c1 := fun u : BwI W1 => (HRW.out u.wo u.is).c.2.1
  have hli : (l.length : Int) ≤ 1073741824 := by omega
  have hati : (r.at0 : Int) + 1 ≤ (l.length : Int) := by omega
  have hzi : (z : Int) > 0 := by omega
  have hzl' : (z : Int) ≤ 1073741824 := by omega
  clear h hB0 hOb hb1
  go_enter Tryz.func39, Tryz.ntmps39
  go_wp2
  rw [← hW1]
  refine region_classI (fun w' => ∃ u : BwI W1, w' = u.wo) (by kernel_rfl) (by kernel_rfl) (BwI.first W1) ?_
  haveI := BwI.some W1
  repeat (go_big_quiet_step (first | exact rfl))
  refine wpQuiet_nil ?_
  intro _ hw'
  obtain ⟨u, hu⟩ := hw'
  subst hu
  have HB0 := (show Hid (Below W1.heap.size W1 u.wo) from u.is)
  generalize u.wo = W0 at *
  clear c0 c1 hW1
  (try simp only [Exit.then])
  go_wp2_with (go_at_call 61; refine Calls.mono (HP.out _ (HBw.out _ HB0.out)) ?_; rintro e w1 ⟨rfl, hb1⟩; have HB1 : Hid (Below W1.heap.size W1 w1) := HB0.out.trans (hb1.mono HB0.out.size); have y10 := fun o => (HBk.out (w1.alloc o) (HB1.out.alloc HB1.out.size o)).c.1; have y11 := fun o => (HBk.out (w1.alloc o) (HB1.out.alloc HB1.out.size o)).c.2.1; have y12 := fun o => (HBk.out (w1.alloc o) (HB1.out.alloc HB1.out.size o)).c.2.2; have z10 := fun o => (HBk.out (w1.alloc o) (HB1.out.alloc HB1.out.size o)).f 0; have z11 := fun o => (HBk.out (w1.alloc o) (HB1.out.alloc HB1.out.size o)).f 1; have z12 := fun o => (HBk.out (w1.alloc o) (HB1.out.alloc HB1.out.size o)).f 2; clear hb1)
  (try simp only [Exit.inBlock, Exit.then])
  have hB3 := (HBk.out (w1.alloc (.cells #[.string ⟨#[]⟩, .string ⟨D.toArray⟩, .string ⟨V.toArray⟩] 35)) (HB1.out.alloc HB1.out.size _)).s (.string ⟨#[]⟩) (.string ⟨D.toArray⟩) (.string ⟨V.toArray⟩)
  have d0 := hB3.c.1
  have d1 := hB3.c.2.1
  have d2 := hB3.c.2.2
  refine bodyPost_ret (v := .tuple #[.agg #[.string ⟨#[]⟩, .string ⟨D.toArray⟩, .string ⟨V.toArray⟩], .int .i64 (1 + (z : Int))]) ?_ rfl ⟨rfl, ?_⟩
  · rw [results_cell_tmp rfl]
    go_simp
  · exact blk.below_set (blk.below_set (blk.below_set (HBw.out _ (HB1.out.alloc HB1.out.size _)) (by omega)) (by omega)) (by omega)

set_option maxHeartbeats 4000000 in
set_option maxRecDepth 20000 in
theorem itg_label {G : Nat → Obj → Prop} {B m n rb : Nat} {l : Str8} {look : Str8 → Option Df8} {w : World} {vp vo : Value} {xs : List Value} {r : Rd} (h : RdR G B l m n look w rb vp vo xs r) (hl : l.length ≤ 1073741824) (o : Op) (hos : o.start ≤ r.at0) (hat : r.at0 < l.length) {Bh : Str8} (o1 : ∀ w', (Instr.slice 9 (.string ⟨l.toArray⟩) (some (.int .i64 ((r.at0 : Int) + 1))) none none).run Tryz.prog w' = .ok (.string ⟨Bh.toArray⟩) w') (HP : Hid (∀ W, Below w.heap.size w W → Calls Tryz.prog 61 #[strI Bh] W fun e w' => e = .returned (.tuple #[.agg #[.string ⟨#[]⟩, .string ⟨#[]⟩, .string ⟨#[]⟩], .int .i64 0]) ∧ Below W.heap.size W w')) {U : Str8} {z : Nat} (hz : 0 < z) (hzl : z ≤ 1073741824) (HL : Hid (∀ W, Below w.heap.size w W → Calls Tryz.prog 62 #[strI Bh] W fun e w' => e = .returned (.tuple #[.string ⟨U.toArray⟩, .int .i64 ((z : Int))]) ∧ Below W.heap.size W w')) {L D V : Str8} {q : Nat} (HD : Hid (∀ W, Below w.heap.size w W → Calls Tryz.prog 63 #[ptrB rb, strI U, .int .i64 (1 + (z : Int))] W fun e w' => e = .returned (.tuple #[.agg #[.string ⟨L.toArray⟩, .string ⟨D.toArray⟩, .string ⟨V.toArray⟩], .int .i64 (q : Int)]) ∧ Below W.heap.size W w')) :
    Calls Tryz.prog 39 #[ptrB rb, opV o] w fun e w' => e = .returned (.tuple #[.agg #[.string ⟨L.toArray⟩, .string ⟨D.toArray⟩, .string ⟨V.toArray⟩], .int .i64 (q : Int)]) ∧ Below w.heap.size w w' := by
  obtain ⟨W1, hW1⟩ : ∃ W1, W1 = (w.alloc (.cells #[.int .i64 (o.kind : Int), .int .i64 (o.part : Int), .int .i64 (o.start : Int)] 71)).alloc (.cells #[.string ⟨#[]⟩, .string ⟨#[]⟩, .string ⟨#[]⟩] 35) := ⟨_, rfl⟩
  have hb1 : Below w.heap.size w W1 := by rw [hW1]; exact ((Below.refl _ _).alloc (Nat.le_refl _) _).alloc (by simp) _
  have hB0 : Blk3 W1 (w.heap.size + 1) 35 (.string ⟨#[]⟩) (.string ⟨#[]⟩) (.string ⟨#[]⟩) := by
    rw [hW1]
    have q := Blk3.new (w.alloc (.cells #[.int .i64 (o.kind : Int), .int .i64 (o.part : Int), .int .i64 (o.start : Int)] 71)) 35 (.string ⟨#[]⟩) (.string ⟨#[]⟩) (.string ⟨#[]⟩)
    simpa using q
  have hOb : W1.heap[w.heap.size]? = some (.cells #[.int .i64 (o.kind : Int), .int .i64 (o.part : Int), .int .i64 (o.start : Int)] 71 (0, 0)) := by
    rw [hW1]
    exact blk.blk_below (heap_alloc_new w _) ((Below.refl _ _).alloc (Nat.le_refl _) _)
  have HRW : Hid (∀ W, Below W1.heap.size W1 W → RdR G B l m n look W rb vp vo xs r) := fun W hW => (h.below hb1).below hW
  have HBk : Hid (∀ W, Below W1.heap.size W1 W → Blk3 W (w.heap.size + 1) 35 (.string ⟨#[]⟩) (.string ⟨#[]⟩) (.string ⟨#[]⟩)) := fun W hW => hB0.below hW
  have HOb : Hid (∀ W, Below W1.heap.size W1 W → W.cell? ⟨w.heap.size, 2, none⟩ = some (.int .i64 (o.start : Int))) := fun W hW => blk.cell_blk (blk.blk_below hOb hW) (i := 2) rfl
  have HBw : Hid (∀ W, Below W1.heap.size W1 W → Below w.heap.size w W) := fun W hW => hb1.trans (hW.mono hb1.size)
  have c0 := fun u : BwI W1 => (HRW.out u.wo u.is).c.1
  have c1 := fun u : BwI W1 => (HRW.out u.wo u.is).c.2.1
  have hli : (l.length : Int) ≤ 1073741824 := by omega
  have hati : (r.at0 : Int) + 1 ≤ (l.length : Int) := by omega
  have hzi : (z : Int) > 0 := by omega
  have hzl' : (z : Int) ≤ 1073741824 := by omega
  clear h hB0 hOb hb1
  go_enter Tryz.func39, Tryz.ntmps39
  go_wp2
  rw [← hW1]
  refine region_classI (fun w' => ∃ u : BwI W1, w' = u.wo) (by kernel_rfl) (by kernel_rfl) (BwI.first W1) ?_
  haveI := BwI.some W1
  repeat (go_big_quiet_step (first | exact rfl))
  refine wpQuiet_nil ?_
  intro _ hw'
  obtain ⟨u, hu⟩ := hw'
  subst hu
  have HB0 := (show Hid (Below W1.heap.size W1 u.wo) from u.is)
  generalize u.wo = W0 at *
  clear c0 c1 hW1
  (try simp only [Exit.then])
  go_wp2_with (first
    | (go_at_call 61; refine Calls.mono (HP.out _ (HBw.out _ HB0.out)) ?_; rintro e w1 ⟨rfl, hb1⟩; have HB1 : Hid (Below W1.heap.size W1 w1) := HB0.out.trans (hb1.mono HB0.out.size); clear hb1)
    | (go_at_call 62; refine Calls.mono (HL.out _ (HBw.out _ (HB1.out.alloc HB1.out.size _))) ?_; rintro e w2 ⟨rfl, hb2⟩; have HB2 : Hid (Below W1.heap.size W1 w2) := (HB1.out.alloc HB1.out.size _).trans (hb2.mono (HB1.out.alloc HB1.out.size _).size); clear hb2)
    | (go_at_call 63; refine Calls.mono (HD.out _ (HBw.out _ HB2.out)) ?_; rintro e w3 ⟨rfl, hb3⟩; have HB3 : Hid (Below W1.heap.size W1 w3) := HB2.out.trans (hb3.mono HB2.out.size); have y30 := (HBk.out w3 HB3.out).c.1; have y31 := (HBk.out w3 HB3.out).c.2.1; have y32 := (HBk.out w3 HB3.out).c.2.2; have z30 := (HBk.out w3 HB3.out).f 0; have z31 := (HBk.out w3 HB3.out).f 1; have z32 := (HBk.out w3 HB3.out).f 2; clear hb3))
  (try simp only [Exit.inBlock, Exit.then])
  have hB3 := (HBk.out w3 HB3.out).s (.string ⟨L.toArray⟩) (.string ⟨D.toArray⟩) (.string ⟨V.toArray⟩)
  have d0 := hB3.c.1
  have d1 := hB3.c.2.1
  have d2 := hB3.c.2.2
  refine bodyPost_ret (v := .tuple #[.agg #[.string ⟨L.toArray⟩, .string ⟨D.toArray⟩, .string ⟨V.toArray⟩], .int .i64 ((q : Int))]) ?_ rfl ⟨rfl, ?_⟩
  · rw [results_cell_tmp rfl]
    go_simp
  · exact blk.below_set (blk.below_set (blk.below_set (HBw.out _ HB3.out) (by omega)) (by omega)) (by omega)

set_option maxHeartbeats 4000000 in
set_option maxRecDepth 20000 in
theorem itg_none {G : Nat → Obj → Prop} {B m n rb : Nat} {l : Str8} {look : Str8 → Option Df8} {w : World} {vp vo : Value} {xs : List Value} {r : Rd} (h : RdR G B l m n look w rb vp vo xs r) (hl : l.length ≤ 1073741824) (o : Op) (hos : o.start ≤ r.at0) (hat : r.at0 < l.length) {Bh : Str8} (o1 : ∀ w', (Instr.slice 9 (.string ⟨l.toArray⟩) (some (.int .i64 ((r.at0 : Int) + 1))) none none).run Tryz.prog w' = .ok (.string ⟨Bh.toArray⟩) w') (HP : Hid (∀ W, Below w.heap.size w W → Calls Tryz.prog 61 #[strI Bh] W fun e w' => e = .returned (.tuple #[.agg #[.string ⟨#[]⟩, .string ⟨#[]⟩, .string ⟨#[]⟩], .int .i64 0]) ∧ Below W.heap.size W w')) (HL : Hid (∀ W, Below w.heap.size w W → Calls Tryz.prog 62 #[strI Bh] W fun e w' => e = .returned (.tuple #[.string ⟨#[]⟩, .int .i64 (0)]) ∧ Below W.heap.size W w')) {Ow : Str8} (o2 : ∀ w', (Instr.slice 9 (.string ⟨l.toArray⟩) (some (.int .i64 (o.start : Int))) (some (.int .i64 ((r.at0 : Int) + 1))) none).run Tryz.prog w' = .ok (.string ⟨Ow.toArray⟩) w') {U : Str8} {z : Nat} (HM : Hid (∀ W, Below w.heap.size w W → Calls Tryz.prog 62 #[strI Ow] W fun e w' => e = .returned (.tuple #[.string ⟨U.toArray⟩, .int .i64 ((z : Int))]) ∧ Below W.heap.size W w')) (hne : z ≠ Ow.length) :
    Calls Tryz.prog 39 #[ptrB rb, opV o] w fun e w' => e = .returned (.tuple #[.agg #[.string ⟨#[]⟩, .string ⟨#[]⟩, .string ⟨#[]⟩], .int .i64 0]) ∧ Below w.heap.size w w' := by
  obtain ⟨W1, hW1⟩ : ∃ W1, W1 = (w.alloc (.cells #[.int .i64 (o.kind : Int), .int .i64 (o.part : Int), .int .i64 (o.start : Int)] 71)).alloc (.cells #[.string ⟨#[]⟩, .string ⟨#[]⟩, .string ⟨#[]⟩] 35) := ⟨_, rfl⟩
  have hb1 : Below w.heap.size w W1 := by rw [hW1]; exact ((Below.refl _ _).alloc (Nat.le_refl _) _).alloc (by simp) _
  have hB0 : Blk3 W1 (w.heap.size + 1) 35 (.string ⟨#[]⟩) (.string ⟨#[]⟩) (.string ⟨#[]⟩) := by
    rw [hW1]
    have q := Blk3.new (w.alloc (.cells #[.int .i64 (o.kind : Int), .int .i64 (o.part : Int), .int .i64 (o.start : Int)] 71)) 35 (.string ⟨#[]⟩) (.string ⟨#[]⟩) (.string ⟨#[]⟩)
    simpa using q
  have hOb : W1.heap[w.heap.size]? = some (.cells #[.int .i64 (o.kind : Int), .int .i64 (o.part : Int), .int .i64 (o.start : Int)] 71 (0, 0)) := by
    rw [hW1]
    exact blk.blk_below (heap_alloc_new w _) ((Below.refl _ _).alloc (Nat.le_refl _) _)
  have HRW : Hid (∀ W, Below W1.heap.size W1 W → RdR G B l m n look W rb vp vo xs r) := fun W hW => (h.below hb1).below hW
  have HBk : Hid (∀ W, Below W1.heap.size W1 W → Blk3 W (w.heap.size + 1) 35 (.string ⟨#[]⟩) (.string ⟨#[]⟩) (.string ⟨#[]⟩)) := fun W hW => hB0.below hW
  have HOb : Hid (∀ W, Below W1.heap.size W1 W → W.cell? ⟨w.heap.size, 2, none⟩ = some (.int .i64 (o.start : Int))) := fun W hW => blk.cell_blk (blk.blk_below hOb hW) (i := 2) rfl
  have HBw : Hid (∀ W, Below W1.heap.size W1 W → Below w.heap.size w W) := fun W hW => hb1.trans (hW.mono hb1.size)
  have c0 := fun u : BwI W1 => (HRW.out u.wo u.is).c.1
  have c1 := fun u : BwI W1 => (HRW.out u.wo u.is).c.2.1
  have hli : (l.length : Int) ≤ 1073741824 := by omega
  have hati : (r.at0 : Int) + 1 ≤ (l.length : Int) := by omega
  have hneb : ((z : Int) == (Ow.length : Int)) = false := by simp; omega
  clear h hB0 hOb hb1
  go_enter Tryz.func39, Tryz.ntmps39
  go_wp2
  rw [← hW1]
  refine region_classI (fun w' => ∃ u : BwI W1, w' = u.wo) (by kernel_rfl) (by kernel_rfl) (BwI.first W1) ?_
  haveI := BwI.some W1
  repeat (go_big_quiet_step (first | exact rfl))
  refine wpQuiet_nil ?_
  intro _ hw'
  obtain ⟨u, hu⟩ := hw'
  subst hu
  have HB0 := (show Hid (Below W1.heap.size W1 u.wo) from u.is)
  generalize u.wo = W0 at *
  clear c0 c1 hW1
  (try simp only [Exit.then])
  go_wp2_with (first
    | (go_at_call 61; refine Calls.mono (HP.out _ (HBw.out _ HB0.out)) ?_; rintro e w1 ⟨rfl, hb1⟩; have HB1 : Hid (Below W1.heap.size W1 w1) := HB0.out.trans (hb1.mono HB0.out.size); clear hb1)
    | (go_at_call 62; refine Calls.mono (HL.out _ (HBw.out _ (HB1.out.alloc HB1.out.size _))) ?_; rintro e w2 ⟨rfl, hb2⟩; have HB2 : Hid (Below W1.heap.size W1 w2) := (HB1.out.alloc HB1.out.size _).trans (hb2.mono (HB1.out.alloc HB1.out.size _).size); clear hb2))
  have k0 := fun v : BwI w2 => (HRW.out v.wo (HB2.out.trans (v.is.mono HB2.out.size))).c.1
  have k1 := fun v : BwI w2 => (HRW.out v.wo (HB2.out.trans (v.is.mono HB2.out.size))).c.2.1
  have k2 := fun v : BwI w2 => HOb.out v.wo (HB2.out.trans (v.is.mono HB2.out.size))
  have hosi : (o.start : Int) ≤ (r.at0 : Int) := by omega
  refine region_classI (fun w' => ∃ v : BwI w2, w' = v.wo) (by kernel_rfl) (by kernel_rfl) (BwI.first w2) ?_
  haveI := BwI.some w2
  repeat (go_big_quiet_step (first | exact rfl))
  refine wpQuiet_nil ?_
  intro _ hw'
  obtain ⟨v, hv⟩ := hw'
  subst hv
  have HB4 : Hid (Below W1.heap.size W1 v.wo) := HB2.out.trans (v.is.mono HB2.out.size)
  generalize v.wo = W4 at *
  clear k0 k1 k2
  (try simp only [Exit.then])
  go_wp2_with (go_at_call 62; refine Calls.mono (HM.out _ (HBw.out _ HB4.out)) ?_; rintro e w5 ⟨rfl, hb5⟩; have HB5 : Hid (Below W1.heap.size W1 w5) := HB4.out.trans (hb5.mono HB4.out.size); have y50 := (HBk.out w5 HB5.out).c.1; have y51 := (HBk.out w5 HB5.out).c.2.1; have y52 := (HBk.out w5 HB5.out).c.2.2; have z50 := (HBk.out w5 HB5.out).f 0; have z51 := (HBk.out w5 HB5.out).f 1; have z52 := (HBk.out w5 HB5.out).f 2; clear hb5)
  (try simp only [Exit.inBlock, Exit.then])
  have hB3 := (HBk.out w5 HB5.out).s (.string ⟨#[]⟩) (.string ⟨#[]⟩) (.string ⟨#[]⟩)
  have d0 := hB3.c.1
  have d1 := hB3.c.2.1
  have d2 := hB3.c.2.2
  refine bodyPost_ret (v := .tuple #[.agg #[.string ⟨#[]⟩, .string ⟨#[]⟩, .string ⟨#[]⟩], .int .i64 (0)]) ?_ rfl ⟨rfl, ?_⟩
  · rw [results_cell_tmp rfl]
    go_simp
  · exact blk.below_set (blk.below_set (blk.below_set (HBw.out _ HB5.out) (by omega)) (by omega)) (by omega)

set_option maxHeartbeats 4000000 in
set_option maxRecDepth 20000 in
theorem itg_both {G : Nat → Obj → Prop} {B m n rb : Nat} {l : Str8} {look : Str8 → Option Df8} {w : World} {vp vo : Value} {xs : List Value} {r : Rd} (h : RdR G B l m n look w rb vp vo xs r) (hl : l.length ≤ 1073741824) (o : Op) (hos : o.start ≤ r.at0) (hat : r.at0 < l.length) {Bh : Str8} (o1 : ∀ w', (Instr.slice 9 (.string ⟨l.toArray⟩) (some (.int .i64 ((r.at0 : Int) + 1))) none none).run Tryz.prog w' = .ok (.string ⟨Bh.toArray⟩) w') (HP : Hid (∀ W, Below w.heap.size w W → Calls Tryz.prog 61 #[strI Bh] W fun e w' => e = .returned (.tuple #[.agg #[.string ⟨#[]⟩, .string ⟨#[]⟩, .string ⟨#[]⟩], .int .i64 0]) ∧ Below W.heap.size W w')) (HL : Hid (∀ W, Below w.heap.size w W → Calls Tryz.prog 62 #[strI Bh] W fun e w' => e = .returned (.tuple #[.string ⟨#[]⟩, .int .i64 (0)]) ∧ Below W.heap.size W w')) {Ow : Str8} (o2 : ∀ w', (Instr.slice 9 (.string ⟨l.toArray⟩) (some (.int .i64 (o.start : Int))) (some (.int .i64 ((r.at0 : Int) + 1))) none).run Tryz.prog w' = .ok (.string ⟨Ow.toArray⟩) w') {U : Str8} {z : Nat} (HM : Hid (∀ W, Below w.heap.size w W → Calls Tryz.prog 62 #[strI Ow] W fun e w' => e = .returned (.tuple #[.string ⟨U.toArray⟩, .int .i64 ((z : Int))]) ∧ Below W.heap.size W w')) (hz : z = Ow.length) (HX : Hid (∀ W, Calls Tryz.prog 28 #[strI Bh, .string ⟨#[91, 93]⟩] W fun e w' => e = .returned (.bool true) ∧ w' = W)) {L D V : Str8} {q : Nat} (HD : Hid (∀ W, Below w.heap.size w W → Calls Tryz.prog 63 #[ptrB rb, strI U, .int .i64 (3)] W fun e w' => e = .returned (.tuple #[.agg #[.string ⟨L.toArray⟩, .string ⟨D.toArray⟩, .string ⟨V.toArray⟩], .int .i64 (q : Int)]) ∧ Below W.heap.size W w')) :
    Calls Tryz.prog 39 #[ptrB rb, opV o] w fun e w' => e = .returned (.tuple #[.agg #[.string ⟨L.toArray⟩, .string ⟨D.toArray⟩, .string ⟨V.toArray⟩], .int .i64 (q : Int)]) ∧ Below w.heap.size w w' := by
  obtain ⟨W1, hW1⟩ : ∃ W1, W1 = (w.alloc (.cells #[.int .i64 (o.kind : Int), .int .i64 (o.part : Int), .int .i64 (o.start : Int)] 71)).alloc (.cells #[.string ⟨#[]⟩, .string ⟨#[]⟩, .string ⟨#[]⟩] 35) := ⟨_, rfl⟩
  have hb1 : Below w.heap.size w W1 := by rw [hW1]; exact ((Below.refl _ _).alloc (Nat.le_refl _) _).alloc (by simp) _
  have hB0 : Blk3 W1 (w.heap.size + 1) 35 (.string ⟨#[]⟩) (.string ⟨#[]⟩) (.string ⟨#[]⟩) := by
    rw [hW1]
    have q := Blk3.new (w.alloc (.cells #[.int .i64 (o.kind : Int), .int .i64 (o.part : Int), .int .i64 (o.start : Int)] 71)) 35 (.string ⟨#[]⟩) (.string ⟨#[]⟩) (.string ⟨#[]⟩)
    simpa using q
  have hOb : W1.heap[w.heap.size]? = some (.cells #[.int .i64 (o.kind : Int), .int .i64 (o.part : Int), .int .i64 (o.start : Int)] 71 (0, 0)) := by
    rw [hW1]
    exact blk.blk_below (heap_alloc_new w _) ((Below.refl _ _).alloc (Nat.le_refl _) _)
  have HRW : Hid (∀ W, Below W1.heap.size W1 W → RdR G B l m n look W rb vp vo xs r) := fun W hW => (h.below hb1).below hW
  have HBk : Hid (∀ W, Below W1.heap.size W1 W → Blk3 W (w.heap.size + 1) 35 (.string ⟨#[]⟩) (.string ⟨#[]⟩) (.string ⟨#[]⟩)) := fun W hW => hB0.below hW
  have HOb : Hid (∀ W, Below W1.heap.size W1 W → W.cell? ⟨w.heap.size, 2, none⟩ = some (.int .i64 (o.start : Int))) := fun W hW => blk.cell_blk (blk.blk_below hOb hW) (i := 2) rfl
  have HBw : Hid (∀ W, Below W1.heap.size W1 W → Below w.heap.size w W) := fun W hW => hb1.trans (hW.mono hb1.size)
  have c0 := fun u : BwI W1 => (HRW.out u.wo u.is).c.1
  have c1 := fun u : BwI W1 => (HRW.out u.wo u.is).c.2.1
  have hli : (l.length : Int) ≤ 1073741824 := by omega
  have hati : (r.at0 : Int) + 1 ≤ (l.length : Int) := by omega
  have hzb : ((z : Int) == (Ow.length : Int)) = true := by simp; omega
  clear hz
  clear h hB0 hOb hb1
  go_enter Tryz.func39, Tryz.ntmps39
  go_wp2
  rw [← hW1]
  refine region_classI (fun w' => ∃ u : BwI W1, w' = u.wo) (by kernel_rfl) (by kernel_rfl) (BwI.first W1) ?_
  haveI := BwI.some W1
  repeat (go_big_quiet_step (first | exact rfl))
  refine wpQuiet_nil ?_
  intro _ hw'
  obtain ⟨u, hu⟩ := hw'
  subst hu
  have HB0 := (show Hid (Below W1.heap.size W1 u.wo) from u.is)
  generalize u.wo = W0 at *
  clear c0 c1 hW1
  (try simp only [Exit.then])
  go_wp2_with (first
    | (go_at_call 61; refine Calls.mono (HP.out _ (HBw.out _ HB0.out)) ?_; rintro e w1 ⟨rfl, hb1⟩; have HB1 : Hid (Below W1.heap.size W1 w1) := HB0.out.trans (hb1.mono HB0.out.size); clear hb1)
    | (go_at_call 62; refine Calls.mono (HL.out _ (HBw.out _ (HB1.out.alloc HB1.out.size _))) ?_; rintro e w2 ⟨rfl, hb2⟩; have HB2 : Hid (Below W1.heap.size W1 w2) := (HB1.out.alloc HB1.out.size _).trans (hb2.mono (HB1.out.alloc HB1.out.size _).size); clear hb2))
  have k0 := fun v : BwI w2 => (HRW.out v.wo (HB2.out.trans (v.is.mono HB2.out.size))).c.1
  have k1 := fun v : BwI w2 => (HRW.out v.wo (HB2.out.trans (v.is.mono HB2.out.size))).c.2.1
  have k2 := fun v : BwI w2 => HOb.out v.wo (HB2.out.trans (v.is.mono HB2.out.size))
  have hosi : (o.start : Int) ≤ (r.at0 : Int) := by omega
  refine region_classI (fun w' => ∃ v : BwI w2, w' = v.wo) (by kernel_rfl) (by kernel_rfl) (BwI.first w2) ?_
  haveI := BwI.some w2
  repeat (go_big_quiet_step (first | exact rfl))
  refine wpQuiet_nil ?_
  intro _ hw'
  obtain ⟨v, hv⟩ := hw'
  subst hv
  have HB4 : Hid (Below W1.heap.size W1 v.wo) := HB2.out.trans (v.is.mono HB2.out.size)
  generalize v.wo = W4 at *
  clear k0 k1 k2
  (try simp only [Exit.then])
  go_wp2_with (first
    | (go_at_call 62; refine Calls.mono (HM.out _ (HBw.out _ HB4.out)) ?_; rintro e w5 ⟨rfl, hb5⟩; have HB5 : Hid (Below W1.heap.size W1 w5) := HB4.out.trans (hb5.mono HB4.out.size); clear hb5)
    | (go_at_call 28; refine Calls.mono (HX.out _) ?_; rintro e w6 ⟨rfl, hw6⟩; subst w6)
    | (go_at_call 63; refine Calls.mono (HD.out _ (HBw.out _ HB5.out)) ?_; rintro e w7 ⟨rfl, hb7⟩; have HB7 : Hid (Below W1.heap.size W1 w7) := HB5.out.trans (hb7.mono HB5.out.size); have y70 := (HBk.out w7 HB7.out).c.1; have y71 := (HBk.out w7 HB7.out).c.2.1; have y72 := (HBk.out w7 HB7.out).c.2.2; have z70 := (HBk.out w7 HB7.out).f 0; have z71 := (HBk.out w7 HB7.out).f 1; have z72 := (HBk.out w7 HB7.out).f 2; clear hb7))
  (try simp only [Exit.inBlock, Exit.then])
  have hB3 := (HBk.out w7 HB7.out).s (.string ⟨L.toArray⟩) (.string ⟨D.toArray⟩) (.string ⟨V.toArray⟩)
  have d0 := hB3.c.1
  have d1 := hB3.c.2.1
  have d2 := hB3.c.2.2
  refine bodyPost_ret (v := .tuple #[.agg #[.string ⟨L.toArray⟩, .string ⟨D.toArray⟩, .string ⟨V.toArray⟩], .int .i64 ((q : Int))]) ?_ rfl ⟨rfl, ?_⟩
  · rw [results_cell_tmp rfl]
    go_simp
  · exact blk.below_set (blk.below_set (blk.below_set (HBw.out _ HB7.out) (by omega)) (by omega)) (by omega)

set_option maxHeartbeats 4000000 in
set_option maxRecDepth 20000 in
theorem itg_own {G : Nat → Obj → Prop} {B m n rb : Nat} {l : Str8} {look : Str8 → Option Df8} {w : World} {vp vo : Value} {xs : List Value} {r : Rd} (h : RdR G B l m n look w rb vp vo xs r) (hl : l.length ≤ 1073741824) (o : Op) (hos : o.start ≤ r.at0) (hat : r.at0 < l.length) {Bh : Str8} (o1 : ∀ w', (Instr.slice 9 (.string ⟨l.toArray⟩) (some (.int .i64 ((r.at0 : Int) + 1))) none none).run Tryz.prog w' = .ok (.string ⟨Bh.toArray⟩) w') (HP : Hid (∀ W, Below w.heap.size w W → Calls Tryz.prog 61 #[strI Bh] W fun e w' => e = .returned (.tuple #[.agg #[.string ⟨#[]⟩, .string ⟨#[]⟩, .string ⟨#[]⟩], .int .i64 0]) ∧ Below W.heap.size W w')) (HL : Hid (∀ W, Below w.heap.size w W → Calls Tryz.prog 62 #[strI Bh] W fun e w' => e = .returned (.tuple #[.string ⟨#[]⟩, .int .i64 (0)]) ∧ Below W.heap.size W w')) {Ow : Str8} (o2 : ∀ w', (Instr.slice 9 (.string ⟨l.toArray⟩) (some (.int .i64 (o.start : Int))) (some (.int .i64 ((r.at0 : Int) + 1))) none).run Tryz.prog w' = .ok (.string ⟨Ow.toArray⟩) w') {U : Str8} {z : Nat} (HM : Hid (∀ W, Below w.heap.size w W → Calls Tryz.prog 62 #[strI Ow] W fun e w' => e = .returned (.tuple #[.string ⟨U.toArray⟩, .int .i64 ((z : Int))]) ∧ Below W.heap.size W w')) (hz : z = Ow.length) (HX : Hid (∀ W, Calls Tryz.prog 28 #[strI Bh, .string ⟨#[91, 93]⟩] W fun e w' => e = .returned (.bool false) ∧ w' = W)) {L D V : Str8} {q : Nat} (HD : Hid (∀ W, Below w.heap.size w W → Calls Tryz.prog 63 #[ptrB rb, strI U, .int .i64 (1)] W fun e w' => e = .returned (.tuple #[.agg #[.string ⟨L.toArray⟩, .string ⟨D.toArray⟩, .string ⟨V.toArray⟩], .int .i64 (q : Int)]) ∧ Below W.heap.size W w')) :
    Calls Tryz.prog 39 #[ptrB rb, opV o] w fun e w' => e = .returned (.tuple #[.agg #[.string ⟨L.toArray⟩, .string ⟨D.toArray⟩, .string ⟨V.toArray⟩], .int .i64 (q : Int)]) ∧ Below w.heap.size w w' := by
  obtain ⟨W1, hW1⟩ : ∃ W1, W1 = (w.alloc (.cells #[.int .i64 (o.kind : Int), .int .i64 (o.part : Int), .int .i64 (o.start : Int)] 71)).alloc (.cells #[.string ⟨#[]⟩, .string ⟨#[]⟩, .string ⟨#[]⟩] 35) := ⟨_, rfl⟩
  have hb1 : Below w.heap.size w W1 := by rw [hW1]; exact ((Below.refl _ _).alloc (Nat.le_refl _) _).alloc (by simp) _
  have hB0 : Blk3 W1 (w.heap.size + 1) 35 (.string ⟨#[]⟩) (.string ⟨#[]⟩) (.string ⟨#[]⟩) := by
    rw [hW1]
    have q := Blk3.new (w.alloc (.cells #[.int .i64 (o.kind : Int), .int .i64 (o.part : Int), .int .i64 (o.start : Int)] 71)) 35 (.string ⟨#[]⟩) (.string ⟨#[]⟩) (.string ⟨#[]⟩)
    simpa using q
  have hOb : W1.heap[w.heap.size]? = some (.cells #[.int .i64 (o.kind : Int), .int .i64 (o.part : Int), .int .i64 (o.start : Int)] 71 (0, 0)) := by
    rw [hW1]
    exact blk.blk_below (heap_alloc_new w _) ((Below.refl _ _).alloc (Nat.le_refl _) _)
  have HRW : Hid (∀ W, Below W1.heap.size W1 W → RdR G B l m n look W rb vp vo xs r) := fun W hW => (h.below hb1).below hW
  have HBk : Hid (∀ W, Below W1.heap.size W1 W → Blk3 W (w.heap.size + 1) 35 (.string ⟨#[]⟩) (.string ⟨#[]⟩) (.string ⟨#[]⟩)) := fun W hW => hB0.below hW
  have HOb : Hid (∀ W, Below W1.heap.size W1 W → W.cell? ⟨w.heap.size, 2, none⟩ = some (.int .i64 (o.start : Int))) := fun W hW => blk.cell_blk (blk.blk_below hOb hW) (i := 2) rfl
  have HBw : Hid (∀ W, Below W1.heap.size W1 W → Below w.heap.size w W) := fun W hW => hb1.trans (hW.mono hb1.size)
  have c0 := fun u : BwI W1 => (HRW.out u.wo u.is).c.1
  have c1 := fun u : BwI W1 => (HRW.out u.wo u.is).c.2.1
  have hli : (l.length : Int) ≤ 1073741824 := by omega
  have hati : (r.at0 : Int) + 1 ≤ (l.length : Int) := by omega
  have hzb : ((z : Int) == (Ow.length : Int)) = true := by simp; omega
  clear hz
  clear h hB0 hOb hb1
  go_enter Tryz.func39, Tryz.ntmps39
  go_wp2
  rw [← hW1]
  refine region_classI (fun w' => ∃ u : BwI W1, w' = u.wo) (by kernel_rfl) (by kernel_rfl) (BwI.first W1) ?_
  haveI := BwI.some W1
  repeat (go_big_quiet_step (first | exact rfl))
  refine wpQuiet_nil ?_
  intro _ hw'
  obtain ⟨u, hu⟩ := hw'
  subst hu
  have HB0 := (show Hid (Below W1.heap.size W1 u.wo) from u.is)
  generalize u.wo = W0 at *
  clear c0 c1 hW1
  (try simp only [Exit.then])
  go_wp2_with (first
    | (go_at_call 61; refine Calls.mono (HP.out _ (HBw.out _ HB0.out)) ?_; rintro e w1 ⟨rfl, hb1⟩; have HB1 : Hid (Below W1.heap.size W1 w1) := HB0.out.trans (hb1.mono HB0.out.size); clear hb1)
    | (go_at_call 62; refine Calls.mono (HL.out _ (HBw.out _ (HB1.out.alloc HB1.out.size _))) ?_; rintro e w2 ⟨rfl, hb2⟩; have HB2 : Hid (Below W1.heap.size W1 w2) := (HB1.out.alloc HB1.out.size _).trans (hb2.mono (HB1.out.alloc HB1.out.size _).size); clear hb2))
  have k0 := fun v : BwI w2 => (HRW.out v.wo (HB2.out.trans (v.is.mono HB2.out.size))).c.1
  have k1 := fun v : BwI w2 => (HRW.out v.wo (HB2.out.trans (v.is.mono HB2.out.size))).c.2.1
  have k2 := fun v : BwI w2 => HOb.out v.wo (HB2.out.trans (v.is.mono HB2.out.size))
  have hosi : (o.start : Int) ≤ (r.at0 : Int) := by omega
  refine region_classI (fun w' => ∃ v : BwI w2, w' = v.wo) (by kernel_rfl) (by kernel_rfl) (BwI.first w2) ?_
  haveI := BwI.some w2
  repeat (go_big_quiet_step (first | exact rfl))
  refine wpQuiet_nil ?_
  intro _ hw'
  obtain ⟨v, hv⟩ := hw'
  subst hv
  have HB4 : Hid (Below W1.heap.size W1 v.wo) := HB2.out.trans (v.is.mono HB2.out.size)
  generalize v.wo = W4 at *
  clear k0 k1 k2
  (try simp only [Exit.then])
  go_wp2_with (first
    | (go_at_call 62; refine Calls.mono (HM.out _ (HBw.out _ HB4.out)) ?_; rintro e w5 ⟨rfl, hb5⟩; have HB5 : Hid (Below W1.heap.size W1 w5) := HB4.out.trans (hb5.mono HB4.out.size); clear hb5)
    | (go_at_call 28; refine Calls.mono (HX.out _) ?_; rintro e w6 ⟨rfl, hw6⟩; subst w6)
    | (go_at_call 63; refine Calls.mono (HD.out _ (HBw.out _ HB5.out)) ?_; rintro e w7 ⟨rfl, hb7⟩; have HB7 : Hid (Below W1.heap.size W1 w7) := HB5.out.trans (hb7.mono HB5.out.size); have y70 := (HBk.out w7 HB7.out).c.1; have y71 := (HBk.out w7 HB7.out).c.2.1; have y72 := (HBk.out w7 HB7.out).c.2.2; have z70 := (HBk.out w7 HB7.out).f 0; have z71 := (HBk.out w7 HB7.out).f 1; have z72 := (HBk.out w7 HB7.out).f 2; clear hb7))
  (try simp only [Exit.inBlock, Exit.then])
  have hB3 := (HBk.out w7 HB7.out).s (.string ⟨L.toArray⟩) (.string ⟨D.toArray⟩) (.string ⟨V.toArray⟩)
  have d0 := hB3.c.1
  have d1 := hB3.c.2.1
  have d2 := hB3.c.2.2
  refine bodyPost_ret (v := .tuple #[.agg #[.string ⟨L.toArray⟩, .string ⟨D.toArray⟩, .string ⟨V.toArray⟩], .int .i64 ((q : Int))]) ?_ rfl ⟨rfl, ?_⟩
  · rw [results_cell_tmp rfl]
    go_simp
  · exact blk.below_set (blk.below_set (blk.below_set (HBw.out _ HB7.out) (by omega)) (by omega)) (by omega)

end Go.Proofs.YtjdijlaoeoikhaaGreatDoor

/- Package inline: target; its contract. -/
namespace Go.Proofs.YtjdijlaoeoikhaaGreatDoor
open Go.RowKit

theorem head_lt {s : Str8} {a : Nat} {x : UInt8} (h : (s.drop a).head? = some x) : a + 1 ≤ s.length := by
  rcases Nat.lt_or_ge a s.length with q | q
  · exact q
  · rw [List.drop_of_length_le q] at h; cases h
theorem place_if {s : Str8} {a : Nat} {p d : Str8 × Str8} {z : Nat} (h : (if (s.drop a).head? = some 41 then some (p, a + 1) else none) = some (d, z)) : 0 < z ∧ z ≤ s.length := by
  split at h
  · rename_i hc
    have e : a + 1 = z := congrArg Prod.snd (Option.some.inj h)
    have := head_lt hc
    omega
  · cases h
theorem inPlace_pos {s : Str8} {d : Str8 × Str8} {z : Nat} (h : inPlace s = some (d, z)) : 0 < z ∧ z ≤ s.length := by
  unfold inPlace at h
  split at h
  · exact place_if h
  · cases h

theorem label_len {s u : Str8} {i : Nat} (h : lnk.labelL s = some (u, i)) : 0 < i ∧ i ≤ s.length ∧ u.length ≤ 999 := by
  obtain ⟨h1, _, h2, r, h3, _⟩ := lnk.label_is h
  have e := congrArg List.length h3
  simp only [List.length_append, List.length_cons, List.length_nil] at e
  omega

theorem defined_is (df : List Df8) (u : Str8) (n : Nat) : definedI df u n = (firstD df (fold u)).map (fun d => (d.2, n)) := by
  unfold definedI firstD
  cases df.find? (fun d => d.1 == fold u) <;> rfl

theorem has_both (t : Str8) (w : World) : Calls Tryz.prog 28 #[strI t, .string ⟨#[91, 93]⟩] w fun e w' => e = .returned (.bool ([91, 93].isPrefixOf t)) ∧ w' = w := by
  have := Tryz.strings_HasPrefix ⟨t.toArray⟩ ⟨#[91, 93]⟩ w
  rw [list_data] at this
  have e : Lib.hasPrefix t (ByteArray.mk #[91, 93]).data.toList = [91, 93].isPrefixOf t := by
    cases t with
    | nil => rfl
    | cons a t =>
      cases t with
      | nil => simp [Lib.hasPrefix, List.isPrefixOf]
      | cons b t =>
        rw [Bool.eq_iff_iff]
        simp [Lib.hasPrefix, List.isPrefixOf]
        try exact ⟨fun ⟨x, y⟩ => ⟨x.symm, y.symm⟩, fun ⟨x, y⟩ => ⟨x.symm, y.symm⟩⟩
  rw [e] at this
  exact this

theorem itarget_any {G : Nat → Obj → Prop} {B m n rb : Nat} {l : Str8} (df : List Df8) {w : World} {vp vo : Value} {xs : List Value} {r : Rd} (h : RdR G B l m n (firstD df) w rb vp vo xs r) (hl : l.length ≤ 1073741824) (o : Op) (hos : o.start ≤ r.at0) (hat : r.at0 < l.length) :
    ∃ (L D V : Str8) (q : Nat), (∀ W, Below w.heap.size w W → Calls Tryz.prog 39 #[ptrB rb, opV o] W fun e w' => e = .returned (.tuple #[.agg #[.string ⟨L.toArray⟩, .string ⟨D.toArray⟩, .string ⟨V.toArray⟩], .int .i64 (q : Int)]) ∧ Below W.heap.size W w') ∧ ((q = 0 ∧ r.target l df o = none) ∨ (0 < q ∧ r.at0 + q ≤ l.length ∧ r.target l df o = some ((D, V), q))) := by
  obtain ⟨Bh, hBh⟩ : ∃ Bh, Bh = l.drop (r.at0 + 1) := ⟨_, rfl⟩
  have hBl : r.at0 + 1 + Bh.length = l.length := by rw [hBh, List.length_drop]; omega
  have o1 := from_is l (r.at0 + 1) (by omega) (by omega)
  have hc1 : ((r.at0 + 1 : Nat) : Int) = (r.at0 : Int) + 1 := by omega
  rw [hc1, ← hBh] at o1
  have HPl : ∀ W, Below w.heap.size w W → Calls Tryz.prog 61 #[strI Bh] W fun e w' => e = .returned (dfV (placeV (inPlace Bh))) ∧ Below W.heap.size W w' := fun W _ => iplace_any Bh (by omega) W
  have HLa : ∀ (t : Str8) (v : Str8) (z : Nat), t.length ≤ l.length → lnk.pairL (lnk.labelL t) = (v, z) → ∀ W, Below w.heap.size w W → Calls Tryz.prog 62 #[strI t] W fun e w' => e = .returned (.tuple #[.string ⟨v.toArray⟩, .int .i64 (z : Int)]) ∧ Below W.heap.size W w' := fun t v z ht hp W _ => lnk.klabel_at ⟨t.toArray⟩ (by rw [size_list]; omega) v z (show lnk.pairL (lnk.labelL (ByteArray.mk t.toArray).data.toList) = _ from by rw [list_data]; exact hp) W
  have HDf : ∀ (u : Str8) (z : Nat), u.length ≤ 999 → ∀ W, Below w.heap.size w W → Calls Tryz.prog 63 #[ptrB rb, strI u, .int .i64 (z : Int)] W fun e w' => e = .returned (defdV z (firstD df (fold u))) ∧ Below W.heap.size W w' := fun u z hu W hW => by
    have hR := h.below hW
    exact idefd_any rb m n (rdCells l r vp vo m).toArray (firstD df) u (by omega) (by have := fold_len u; omega) z W hR.blk rfl hR.map
  -- what defined leads to
  have fin : ∀ (u : Str8) (z : Nat), u.length ≤ 999 → 0 < z → r.at0 + z ≤ l.length → r.target l df o = definedI df u z →
      ∃ (L D V : Str8) (q : Nat), (∀ W, Below w.heap.size w W → Calls Tryz.prog 63 #[ptrB rb, strI u, .int .i64 (z : Int)] W fun e w' => e = .returned (.tuple #[.agg #[.string ⟨L.toArray⟩, .string ⟨D.toArray⟩, .string ⟨V.toArray⟩], .int .i64 (q : Int)]) ∧ Below W.heap.size W w') ∧ ((q = 0 ∧ r.target l df o = none) ∨ (0 < q ∧ r.at0 + q ≤ l.length ∧ r.target l df o = some ((D, V), q))) := by
    intro u z hu hz hzl ht
    have hd := HDf u z hu
    rw [defined_is] at ht
    cases hf : firstD df (fold u) with
    | none =>
      rw [hf] at hd ht
      exact ⟨[], [], [], 0, hd, .inl ⟨rfl, ht⟩⟩
    | some d =>
      rw [hf] at hd ht
      exact ⟨d.1, d.2.1, d.2.2, z, hd, .inr ⟨hz, hzl, ht⟩⟩
  cases hp : inPlace Bh with
  | some p =>
    obtain ⟨⟨D, V⟩, z⟩ := p
    obtain ⟨hz, hzl⟩ := inPlace_pos hp
    rw [hp] at HPl
    refine ⟨[], D, V, 1 + z, fun W hW => ?_, .inr ⟨by omega, by omega, ?_⟩⟩
    · have e : ((1 + z : Nat) : Int) = 1 + (z : Int) := by omega
      rw [e]
      exact itg_place (h.below hW) hl o hos hat o1 hz (by omega) (fun W2 hW2 => HPl W2 (hW.trans (hW2.mono hW.size)))
    · unfold Rd.target
      simp only [← hBh, hp]
  | none =>
    rw [hp] at HPl
    cases hla : lnk.labelL Bh with
    | some p =>
      obtain ⟨u, z⟩ := p
      obtain ⟨hz, hzl, hu⟩ := label_len hla
      have ht : r.target l df o = definedI df u (1 + z) := by
        unfold Rd.target
        simp only [← hBh, hp, hla]
      obtain ⟨L, D, V, q, hd, hq⟩ := fin u (1 + z) hu (by omega) (by omega) ht
      have e : ((1 + z : Nat) : Int) = 1 + (z : Int) := by omega
      rw [e] at hd
      exact ⟨L, D, V, q, fun W hW => itg_label (h.below hW) hl o hos hat o1 (fun W2 hW2 => HPl W2 (hW.trans (hW2.mono hW.size))) hz (by omega) (fun W2 hW2 => HLa Bh u z (by omega) (by rw [hla]; rfl) W2 (hW.trans (hW2.mono hW.size))) (fun W2 hW2 => hd W2 (hW.trans (hW2.mono hW.size))), hq⟩
    | none =>
      obtain ⟨Ow, hOw⟩ : ∃ Ow, Ow = (l.take (r.at0 + 1)).drop o.start := ⟨_, rfl⟩
      have hOl : Ow.length = r.at0 + 1 - o.start := by rw [hOw, List.length_drop, List.length_take]; omega
      have o2 := sub_is l o.start (r.at0 + 1) (by omega) (by omega) (by omega)
      rw [hc1, ← hOw] at o2
      have hl1 := HLa Bh [] 0 (by omega) (by rw [hla]; rfl)
      cases hlo : lnk.labelL Ow with
      | none =>
        refine ⟨[], [], [], 0, fun W hW => itg_none (h.below hW) hl o hos hat o1 (fun W2 hW2 => HPl W2 (hW.trans (hW2.mono hW.size))) (fun W2 hW2 => hl1 W2 (hW.trans (hW2.mono hW.size))) o2 (fun W2 hW2 => HLa Ow [] 0 (by omega) (by rw [hlo]; rfl) W2 (hW.trans (hW2.mono hW.size))) (by omega), .inl ⟨rfl, ?_⟩⟩
        unfold Rd.target
        simp only [← hBh, hp, hla, ← hOw, hlo]
      | some p =>
        obtain ⟨u, z⟩ := p
        obtain ⟨hz, hzl, hu⟩ := label_len hlo
        have hl2 := HLa Ow u z (by omega) (by rw [hlo]; rfl)
        by_cases hne : z = Ow.length
        · have ht : r.target l df o = definedI df u (if [91, 93].isPrefixOf Bh then 3 else 1) := by
            unfold Rd.target
            simp only [← hBh, hp, hla, ← hOw, hlo]
            rw [if_neg (fun q => q hne)]
          cases hpre : [91, 93].isPrefixOf Bh with
          | true =>
            rw [hpre] at ht
            have hB2 : 2 ≤ Bh.length := by
              have := (List.isPrefixOf_iff_prefix.1 hpre).length_le
              simpa using this
            obtain ⟨L, D, V, q, hd, hq⟩ := fin u 3 hu (by omega) (by omega) ht
            exact ⟨L, D, V, q, fun W hW => itg_both (h.below hW) hl o hos hat o1 (fun W2 hW2 => HPl W2 (hW.trans (hW2.mono hW.size))) (fun W2 hW2 => hl1 W2 (hW.trans (hW2.mono hW.size))) o2 (fun W2 hW2 => hl2 W2 (hW.trans (hW2.mono hW.size))) hne (fun W2 => by have := has_both Bh W2; rw [hpre] at this; exact this) (fun W2 hW2 => hd W2 (hW.trans (hW2.mono hW.size))), hq⟩
          | false =>
            rw [hpre] at ht
            obtain ⟨L, D, V, q, hd, hq⟩ := fin u 1 hu (by omega) (by omega) ht
            exact ⟨L, D, V, q, fun W hW => itg_own (h.below hW) hl o hos hat o1 (fun W2 hW2 => HPl W2 (hW.trans (hW2.mono hW.size))) (fun W2 hW2 => hl1 W2 (hW.trans (hW2.mono hW.size))) o2 (fun W2 hW2 => hl2 W2 (hW.trans (hW2.mono hW.size))) hne (fun W2 => by have := has_both Bh W2; rw [hpre] at this; exact this) (fun W2 hW2 => hd W2 (hW.trans (hW2.mono hW.size))), hq⟩
        · refine ⟨[], [], [], 0, fun W hW => itg_none (h.below hW) hl o hos hat o1 (fun W2 hW2 => HPl W2 (hW.trans (hW2.mono hW.size))) (fun W2 hW2 => hl1 W2 (hW.trans (hW2.mono hW.size))) o2 (fun W2 hW2 => hl2 W2 (hW.trans (hW2.mono hW.size))) hne, .inl ⟨rfl, ?_⟩⟩
          unfold Rd.target
          simp only [← hBh, hp, hla, ← hOw, hlo]
          rw [if_pos hne]

end Go.Proofs.YtjdijlaoeoikhaaGreatDoor

/- Package inline: readCloser; what it leans on. -/
namespace Go.Proofs.YtjdijlaoeoikhaaGreatDoor
open Go.RowKit

theorem rows_tail {B : Nat} {w : World} {a : Option Addr} {c : Nat} {xs : List Value} {ps : List Pt} (hr : w.ownsRow B 53 9 (.slice a ps.length c) ps.length xs) (hp : PartI w (fun _ => True) ps xs) {k : Nat} (hk : k < ps.length) :
    ∃ pb X, a = some ⟨pb, 0, none⟩ ∧ ps.length ≤ c ∧ (∀ w', (Instr.slice 42 (.slice (some ⟨pb, 0, none⟩) ps.length c) (some (.int .i64 ((k : Int) + 1))) none none).run Tryz.prog w' = .ok X w') ∧ PartsAt w X (ps.drop (k + 1)) := by
  have h1 := (PartI.take ps xs (k + 1) hp).2
  have hxl : xs.length = ps.length * 9 := hr.1
  obtain ⟨u, hu⟩ : ∃ u, xs[0]? = some u := ⟨_, List.getElem?_eq_getElem (by omega)⟩
  obtain ⟨pb, rfl, _, _⟩ := row_cell hr hu
  obtain ⟨hcn, hcm⟩ := row_cap hr
  obtain ⟨X, h3, h2⟩ := part_from pb ps.length c (k + 1) (by omega) hcn hcm
  refine ⟨pb, X, rfl, hcn, h3, ?_⟩
  rcases h2 with ⟨_, rfl⟩ | ⟨hn, rfl⟩
  · refine ⟨_, _, xs.drop ((k + 1) * 9), by rw [List.length_drop], h1, fun j u hj => ?_⟩
    rw [List.getElem?_drop] at hj
    obtain ⟨g, e, _, hc⟩ := row_cell hr hj
    cases e
    exact ⟨pb, _, rfl, hc⟩
  · have hd : ps.drop (k + 1) = [] := List.drop_of_length_le (by omega)
    rw [hd]
    exact ⟨_, _, [], rfl, rfl, fun j u hj => by cases hj⟩

theorem closer_none (l : Str8) (df : List Df8) (r : Rd) (h : r.openers = []) : r.closer l df = r.pass 1 := by
  unfold Rd.closer
  rw [h]
  rfl
theorem closer_some (l : Str8) (df : List Df8) (r : Rd) {os : List Op} {o : Op} (h : r.openers = os ++ [o]) : r.closer l df =
    (let r1 := { r with openers := os, inactive := min r.inactive os.length }
     if (o.kind == 7 || decide (r.inactive ≤ os.length)) = false then r1.pass 1 else
      match r1.target l df o with
      | none => r1.pass 1
      | some (d, n) =>
        let r2 := r1.endText l
        let r3 := Rd.add l { r2 with parts := r2.parts.take o.part } { i := { kind := o.kind, dest := d.1, title := d.2 }, kids := emphI (r2.parts.drop (o.part + 1)) } n
        if o.kind = 6 then { r3 with inactive := os.length } else r3) := by
  have e1 : r.openers.getLast? = some o := by rw [h]; simp
  have e2 : r.openers.length - 1 = os.length := by rw [h]; simp
  have e3 : r.openers.dropLast = os := by rw [h]; simp
  unfold Rd.closer
  rw [e1]
  simp only [e2, e3]
  rfl
theorem target_same (l : Str8) (df : List Df8) (r : Rd) (os : List Op) (i : Nat) (o : Op) : Rd.target l df { r with openers := os, inactive := i } o = r.target l df o := rfl

set_option maxHeartbeats 4000000 in
theorem iclos_none {G : Nat → Obj → Prop} {B m n rb : Nat} {l : Str8} {df : List Df8} {w : World} {vp vo : Value} {xs : List Value} {r : Rd} (h : RdR G B l m n (firstD df) w rb vp vo xs r) (ho : r.Ok l) (hl : l.length ≤ 1073741824) (hat : r.at0 < l.length) (he : r.openers = []) :
    Calls Tryz.prog 25 #[ptrB rb] w fun e w' => LeftR G B l m n (firstD df) w rb (r.closer l df) e w' := by
  rw [closer_none l df r he]
  have hBw : B ≤ w.heap.size := Nat.le_trans h.base (Nat.le_of_lt (blk.lt_of_block h.blk))
  have hli : (l.length : Int) ≤ 1073741824 := by omega
  have hati : (r.at0 : Int) + 1 ≤ (l.length : Int) := by omega
  obtain ⟨a2, k2, hv2⟩ := row_len h.ops
  rw [he] at hv2
  have e4 := h.c.2.2.2.2.1
  rw [hv2] at e4
  have e4' : w.cell? ⟨rb, 4, none⟩ = some (.slice a2 0 k2) := e4
  have e1 := h.c.2.1
  have f1 := h.f 1
  have HF := (show Hid (RdR _ _ _ _ _ _ _ _ _ _ _ _) from h.num.1 (r.at0 + 1))
  have hsum : ((r.at0 + 1 : Nat) : Int) = (r.at0 : Int) + 1 := by omega
  rw [hsum] at HF
  have hbs := h.base
  clear e4 h hsum he
  go_enter Tryz.func25, Tryz.ntmps25
  go_wp2
  go_end0
  exact ⟨rfl, ⟨_, _, _, HF.out⟩, blk.below_set ((Below.refl _ _)) hbs⟩

end Go.Proofs.YtjdijlaoeoikhaaGreatDoor

/- Package inline: readCloser; walked. -/
namespace Go.Proofs.YtjdijlaoeoikhaaGreatDoor
open Go.RowKit

set_option maxHeartbeats 16000000 in
set_option maxRecDepth 20000 in
theorem iclos_off {G : Nat → Obj → Prop} {B m n rb : Nat} {l : Str8} {df : List Df8} {w : World} {vp vo : Value} {xs : List Value} {r : Rd} (h : RdR G B l m n (firstD df) w rb vp vo xs r) (ho : r.Ok l) (hl : l.length ≤ 1073741824) (hat : r.at0 < l.length) {os : List Op} {o : Op} (he : r.openers = os ++ [o]) (h70 : o.kind ≠ 7) (hge : ¬ r.inactive ≤ os.length) :
    Calls Tryz.prog 25 #[ptrB rb] w fun e w' => LeftR G B l m n (firstD df) w rb (r.closer l df) e w' := by
  have hBw : B ≤ w.heap.size := Nat.le_trans h.base (Nat.le_of_lt (blk.lt_of_block h.blk))
  have hli : (l.length : Int) ≤ 1073741824 := by omega
  have hati : (r.at0 : Int) + 1 ≤ (l.length : Int) := by omega
  have hbs := h.base
  have hop := ho.ops o (by rw [he]; exact List.mem_append_right _ List.mem_cons_self)
  have hpl := ho.len
  have hfr := ho.frm
  have hina := ho.ina
  obtain ⟨k, hk⟩ : ∃ k, k = os.length := ⟨_, rfl⟩
  have hlen : r.openers.length = k + 1 := by rw [he, List.length_append, hk]; rfl
  obtain ⟨a2, k2, hv2⟩ := row_len h.ops
  have hnth : r.openers[k]? = some o := by rw [he, hk]; simp
  have hcs := oCells_nth r.openers k o hnth
  rw [hv2] at h
  obtain ⟨og, hog, _, x0⟩ := row_cell h.ops hcs.1
  subst hog
  have x1 : w.cell? ⟨og, k * 3 + 1, none⟩ = some (.int .i64 (o.part : Int)) := by obtain ⟨g, e, _, q⟩ := row_cell h.ops hcs.2.1; cases e; exact q
  have x2 : w.cell? ⟨og, k * 3 + 2, none⟩ = some (.int .i64 (o.start : Int)) := by obtain ⟨g, e, _, q⟩ := row_cell h.ops hcs.2.2; cases e; exact q
  have hkc := (row_cap h.ops).1
  rw [hlen] at hkc
  have e4 : w.cell? ⟨rb, 4, none⟩ = some (.slice (some ⟨og, 0, none⟩) (k + 1) k2) := by rw [← hlen]; exact h.c.2.2.2.2.1
  have hkk : k ≤ k2 := by omega
  have hki : (k : Int) ≤ 4294967296 := by have := ho.at0; omega
  -- behind the opener's copy
  have hG := h.guest #[.int .i64 (o.kind : Int), .int .i64 (o.part : Int), .int .i64 (o.start : Int)] 71
  have hG1 : RdR (GstR G w.heap.size (.cells #[.int .i64 (o.kind : Int), .int .i64 (o.part : Int), .int .i64 (o.start : Int)] 71 (0, 0))) B l m n (firstD df) ((w.alloc (.cells #[.int .i64 (o.kind : Int), .int .i64 (o.part : Int), .int .i64 (o.start : Int)] 71)).setCell ⟨rb, 4, none⟩ (.slice (some ⟨og, 0, none⟩) k k2)) rb vp (.slice (some ⟨og, 0, none⟩) k k2) xs { r with openers := os } := by
    refine hG.reset (blk.set_blk hG.blk 4 _) (fun g hg => set1_other hg) hG.row hG.part ?_ rfl rfl
    have hq := hG.ops
    rw [hlen] at hq
    have hcut := row_cut hq (m := k) (by omega)
    rw [oCells_take, he, show k = os.length from hk, List.take_left' rfl] at hcut
    rw [← hk] at hcut
    show World.ownsRow _ _ _ _ _ os.length (oCells os)
    rw [← hk]
    exact hcut
  have HG2 := (show Hid (RdR _ _ _ _ _ _ _ _ _ _ _ _) from hG1.num.2.2 (min r.inactive k))
  have hmi : ((min r.inactive k : Nat) : Int) = min (r.inactive : Int) (k : Int) := by omega
  rw [hmi] at HG2
  have y4 := fun o => (h.below (w' := w.alloc o) ((Below.refl _ _).alloc (Nat.le_refl _) o)).c.2.2.2.2.1
  have y4f := fun o => (h.below (w' := w.alloc o) ((Below.refl _ _).alloc (Nat.le_refl _) o)).f 4
  rw [hlen] at y4
  have y5 : ((w.alloc (.cells #[.int .i64 (o.kind : Int), .int .i64 (o.part : Int), .int .i64 (o.start : Int)] 71)).setCell ⟨rb, 4, none⟩ (.slice (some ⟨og, 0, none⟩) k k2)).cell? ⟨rb, 5, none⟩ = some (.int .i64 (r.inactive : Int)) := hG1.c.2.2.2.2.2.1
  have y5f := hG1.f 5
  have y0 : ((w.alloc (.cells #[.int .i64 (o.kind : Int), .int .i64 (o.part : Int), .int .i64 (o.start : Int)] 71)).setCell ⟨rb, 4, none⟩ (.slice (some ⟨og, 0, none⟩) k k2)).cell? ⟨w.heap.size, 0, none⟩ = some (.int .i64 (o.kind : Int)) := blk.cell_blk hG1.own (i := 0) rfl
  have hgei : ¬ (r.inactive : Int) ≤ (k : Int) := by omega
  have hgel : (k : Int) < (r.inactive : Int) := by omega
  have HBw2 : Hid (Below B w (((w.alloc (.cells #[.int .i64 (o.kind : Int), .int .i64 (o.part : Int), .int .i64 (o.start : Int)] 71)).setCell ⟨rb, 4, none⟩ (.slice (some ⟨og, 0, none⟩) k k2)).setCell ⟨rb, 5, none⟩ (.int .i64 (min (r.inactive : Int) (k : Int))))) := blk.below_set (blk.below_set ((Below.refl _ _).alloc hBw _) hbs) hbs
  have HOb := (show Hid _ from HG2.out.own)
  have h7 : ((o.kind : Int) == 7) = false := by simp; omega
  have HE : Hid (r.closer l df = { r with openers := os, inactive := min r.inactive k, at0 := r.at0 + 1 }) := by
    show _ = _
    rw [closer_some l df r he, ← hk]
    have : (o.kind == 7 || decide (r.inactive ≤ k)) = false := by simp; omega
    simp only [this]
    rfl
  have z1 := HG2.out.c.2.1
  have z1f := HG2.out.f 1
  have HF := (show Hid (RdR _ _ _ _ _ _ _ _ _ _ _ _) from (HG2.out.num.1 (r.at0 + 1)).alone)
  have hsum : ((r.at0 + 1 : Nat) : Int) = (r.at0 : Int) + 1 := by omega
  rw [hsum] at HF
  have hk0 : ¬ (k : Int) < 0 := by omega
  clear h hG hG1 he hcs hnth hsum hop hlen hk hmi hge
  go_enter Tryz.func25, Tryz.ntmps25
  go_wp2
  go_end0
  exact ⟨rfl, ⟨_, _, _, by rw [HE.out]; exact HF.out⟩, blk.below_set HBw2.out hbs⟩

end Go.Proofs.YtjdijlaoeoikhaaGreatDoor

/- Package inline: readCloser; walked. -/
namespace Go.Proofs.YtjdijlaoeoikhaaGreatDoor
open Go.RowKit

set_option maxHeartbeats 16000000 in
set_option maxRecDepth 20000 in
theorem iclos_no7 {G : Nat → Obj → Prop} {B m n rb : Nat} {l : Str8} {df : List Df8} {w : World} {vp vo : Value} {xs : List Value} {r : Rd} (h : RdR G B l m n (firstD df) w rb vp vo xs r) (ho : r.Ok l) (hl : l.length ≤ 1073741824) (hat : r.at0 < l.length) {os : List Op} {o : Op} (he : r.openers = os ++ [o]) (hkind : o.kind = 7) (ht : r.target l df o = none) :
    Calls Tryz.prog 25 #[ptrB rb] w fun e w' => LeftR G B l m n (firstD df) w rb (r.closer l df) e w' := by
  have hBw : B ≤ w.heap.size := Nat.le_trans h.base (Nat.le_of_lt (blk.lt_of_block h.blk))
  have hli : (l.length : Int) ≤ 1073741824 := by omega
  have hati : (r.at0 : Int) + 1 ≤ (l.length : Int) := by omega
  have hbs := h.base
  have hop := ho.ops o (by rw [he]; exact List.mem_append_right _ List.mem_cons_self)
  have hpl := ho.len
  have hfr := ho.frm
  have hina := ho.ina
  obtain ⟨k, hk⟩ : ∃ k, k = os.length := ⟨_, rfl⟩
  have hlen : r.openers.length = k + 1 := by rw [he, List.length_append, hk]; rfl
  obtain ⟨a2, k2, hv2⟩ := row_len h.ops
  have hnth : r.openers[k]? = some o := by rw [he, hk]; simp
  have hcs := oCells_nth r.openers k o hnth
  rw [hv2] at h
  obtain ⟨og, hog, _, x0⟩ := row_cell h.ops hcs.1
  subst hog
  have x1 : w.cell? ⟨og, k * 3 + 1, none⟩ = some (.int .i64 (o.part : Int)) := by obtain ⟨g, e, _, q⟩ := row_cell h.ops hcs.2.1; cases e; exact q
  have x2 : w.cell? ⟨og, k * 3 + 2, none⟩ = some (.int .i64 (o.start : Int)) := by obtain ⟨g, e, _, q⟩ := row_cell h.ops hcs.2.2; cases e; exact q
  have hkc := (row_cap h.ops).1
  rw [hlen] at hkc
  have e4 : w.cell? ⟨rb, 4, none⟩ = some (.slice (some ⟨og, 0, none⟩) (k + 1) k2) := by rw [← hlen]; exact h.c.2.2.2.2.1
  have hkk : k ≤ k2 := by omega
  have hki : (k : Int) ≤ 4294967296 := by have := ho.at0; omega
  -- behind the opener's copy
  have hG := h.guest #[.int .i64 (o.kind : Int), .int .i64 (o.part : Int), .int .i64 (o.start : Int)] 71
  have hG1 : RdR (GstR G w.heap.size (.cells #[.int .i64 (o.kind : Int), .int .i64 (o.part : Int), .int .i64 (o.start : Int)] 71 (0, 0))) B l m n (firstD df) ((w.alloc (.cells #[.int .i64 (o.kind : Int), .int .i64 (o.part : Int), .int .i64 (o.start : Int)] 71)).setCell ⟨rb, 4, none⟩ (.slice (some ⟨og, 0, none⟩) k k2)) rb vp (.slice (some ⟨og, 0, none⟩) k k2) xs { r with openers := os } := by
    refine hG.reset (blk.set_blk hG.blk 4 _) (fun g hg => set1_other hg) hG.row hG.part ?_ rfl rfl
    have hq := hG.ops
    rw [hlen] at hq
    have hcut := row_cut hq (m := k) (by omega)
    rw [oCells_take, he, show k = os.length from hk, List.take_left' rfl] at hcut
    rw [← hk] at hcut
    show World.ownsRow _ _ _ _ _ os.length (oCells os)
    rw [← hk]
    exact hcut
  have HG2 := (show Hid (RdR _ _ _ _ _ _ _ _ _ _ _ _) from hG1.num.2.2 (min r.inactive k))
  have hmi : ((min r.inactive k : Nat) : Int) = min (r.inactive : Int) (k : Int) := by omega
  rw [hmi] at HG2
  have y4 := fun o => (h.below (w' := w.alloc o) ((Below.refl _ _).alloc (Nat.le_refl _) o)).c.2.2.2.2.1
  have y4f := fun o => (h.below (w' := w.alloc o) ((Below.refl _ _).alloc (Nat.le_refl _) o)).f 4
  rw [hlen] at y4
  have y5 : ((w.alloc (.cells #[.int .i64 (o.kind : Int), .int .i64 (o.part : Int), .int .i64 (o.start : Int)] 71)).setCell ⟨rb, 4, none⟩ (.slice (some ⟨og, 0, none⟩) k k2)).cell? ⟨rb, 5, none⟩ = some (.int .i64 (r.inactive : Int)) := hG1.c.2.2.2.2.2.1
  have y5f := hG1.f 5
  have y0 : ((w.alloc (.cells #[.int .i64 (o.kind : Int), .int .i64 (o.part : Int), .int .i64 (o.start : Int)] 71)).setCell ⟨rb, 4, none⟩ (.slice (some ⟨og, 0, none⟩) k k2)).cell? ⟨w.heap.size, 0, none⟩ = some (.int .i64 (o.kind : Int)) := blk.cell_blk hG1.own (i := 0) rfl
  have HBw2 : Hid (Below B w (((w.alloc (.cells #[.int .i64 (o.kind : Int), .int .i64 (o.part : Int), .int .i64 (o.start : Int)] 71)).setCell ⟨rb, 4, none⟩ (.slice (some ⟨og, 0, none⟩) k k2)).setCell ⟨rb, 5, none⟩ (.int .i64 (min (r.inactive : Int) (k : Int))))) := blk.below_set (blk.below_set ((Below.refl _ _).alloc hBw _) hbs) hbs
  have HOb := (show Hid _ from HG2.out.own)
  have h7 : ((o.kind : Int) == 7) = true := by rw [hkind]; rfl
  have HBw2x : B ≤ (((w.alloc (.cells #[.int .i64 (o.kind : Int), .int .i64 (o.part : Int), .int .i64 (o.start : Int)] 71)).setCell ⟨rb, 4, none⟩ (.slice (some ⟨og, 0, none⟩) k k2)).setCell ⟨rb, 5, none⟩ (.int .i64 (min (r.inactive : Int) (k : Int)))).heap.size := Nat.le_trans hBw HBw2.out.size
  have hact : (o.kind == 7 || decide (r.inactive ≤ k)) = true := by simp; omega
  obtain ⟨L, D, V, q, hTg, hq⟩ := itarget_any df HG2.out hl o (by show o.start ≤ r.at0; omega) hat
  have HTg : Hid (Calls Tryz.prog 39 #[ptrB rb, .agg #[.int .i64 (o.kind : Int), .int .i64 (o.part : Int), .int .i64 (o.start : Int)]] (((w.alloc (.cells #[.int .i64 (o.kind : Int), .int .i64 (o.part : Int), .int .i64 (o.start : Int)] 71)).setCell ⟨rb, 4, none⟩ (.slice (some ⟨og, 0, none⟩) k k2)).setCell ⟨rb, 5, none⟩ (.int .i64 (min (r.inactive : Int) (k : Int)))) _) := hTg _ (Below.refl _ _)
  have hq0 : q = 0 := by
    rcases hq with hq | hq
    · exact hq.1
    · have h1 := hq.2.2
      have h2 : r.target l df o = none := ht
      have h3 : Rd.target l df { r with openers := os, inactive := min r.inactive k } o = r.target l df o := rfl
      rw [h3, h2] at h1
      cases h1
  subst hq0
  have HE : Hid (r.closer l df = { r with openers := os, inactive := min r.inactive k, at0 := r.at0 + 1 }) := by
    show _ = _
    rw [closer_some l df r he, ← hk]
    simp only [hact]
    have h3 : Rd.target l df { r with openers := os, inactive := min r.inactive k } o = none := ht
    rw [h3]
    rfl
  have hsum : ((r.at0 + 1 : Nat) : Int) = (r.at0 : Int) + 1 := by omega
  have hk0 : ¬ (k : Int) < 0 := by omega
  have j0 := blk.cell_blk HOb.out (i := 0) rfl
  have j1 := blk.cell_blk HOb.out (i := 1) rfl
  have j2 := blk.cell_blk HOb.out (i := 2) rfl
  have HRa : Hid (∀ w3, Below (((w.alloc (.cells #[.int .i64 (o.kind : Int), .int .i64 (o.part : Int), .int .i64 (o.start : Int)] 71)).setCell ⟨rb, 4, none⟩ (.slice (some ⟨og, 0, none⟩) k k2)).setCell ⟨rb, 5, none⟩ (.int .i64 (min (r.inactive : Int) (k : Int)))).heap.size (((w.alloc (.cells #[.int .i64 (o.kind : Int), .int .i64 (o.part : Int), .int .i64 (o.start : Int)] 71)).setCell ⟨rb, 4, none⟩ (.slice (some ⟨og, 0, none⟩) k k2)).setCell ⟨rb, 5, none⟩ (.int .i64 (min (r.inactive : Int) (k : Int)))) w3 → ∀ x, RdR G B l m n (firstD df) (w3.alloc x) rb vp (.slice (some ⟨og, 0, none⟩) k k2) xs { r with openers := os, inactive := min r.inactive k }) := fun w3 hb x => (HG2.out.below (hb.trans ((Below.refl w3.heap.size w3).alloc (Nat.le_refl _) x |>.mono hb.size))).alone
  have HBa : Hid (∀ w3, Below (((w.alloc (.cells #[.int .i64 (o.kind : Int), .int .i64 (o.part : Int), .int .i64 (o.start : Int)] 71)).setCell ⟨rb, 4, none⟩ (.slice (some ⟨og, 0, none⟩) k k2)).setCell ⟨rb, 5, none⟩ (.int .i64 (min (r.inactive : Int) (k : Int)))).heap.size (((w.alloc (.cells #[.int .i64 (o.kind : Int), .int .i64 (o.part : Int), .int .i64 (o.start : Int)] 71)).setCell ⟨rb, 4, none⟩ (.slice (some ⟨og, 0, none⟩) k k2)).setCell ⟨rb, 5, none⟩ (.int .i64 (min (r.inactive : Int) (k : Int)))) w3 → ∀ x, Below B w (w3.alloc x)) := fun w3 hb x => (HBw2.out.trans (hb.mono HBw2x)).alloc (Nat.le_trans HBw2x hb.size) x
  clear h hG hG1 he hcs hnth hop hlen hk hmi hkind hq hTg ht hact
  go_enter Tryz.func25, Tryz.ntmps25
  go_wp2_with (go_at_call 39; refine Calls.mono HTg.out ?_; rintro e w3 ⟨rfl, hb3⟩; have z1 := fun x => (HRa.out w3 hb3 x).c.2.1; have z1f := fun x => (HRa.out w3 hb3 x).f 1; have HF := (show Hid _ from fun x => (HRa.out w3 hb3 x).num.1 (r.at0 + 1)); have HB3 := (show Hid _ from HBa.out w3 hb3); rw [hsum] at HF; clear hb3)
  go_end0
  exact ⟨rfl, ⟨_, _, _, by rw [HE.out]; exact HF.out _⟩, blk.below_set (HB3.out _) hbs⟩

set_option maxHeartbeats 16000000 in
set_option maxRecDepth 20000 in
theorem iclos_no6 {G : Nat → Obj → Prop} {B m n rb : Nat} {l : Str8} {df : List Df8} {w : World} {vp vo : Value} {xs : List Value} {r : Rd} (h : RdR G B l m n (firstD df) w rb vp vo xs r) (ho : r.Ok l) (hl : l.length ≤ 1073741824) (hat : r.at0 < l.length) {os : List Op} {o : Op} (he : r.openers = os ++ [o]) (hkind : o.kind = 6) (hge : r.inactive ≤ os.length) (ht : r.target l df o = none) :
    Calls Tryz.prog 25 #[ptrB rb] w fun e w' => LeftR G B l m n (firstD df) w rb (r.closer l df) e w' := by
  have hBw : B ≤ w.heap.size := Nat.le_trans h.base (Nat.le_of_lt (blk.lt_of_block h.blk))
  have hli : (l.length : Int) ≤ 1073741824 := by omega
  have hati : (r.at0 : Int) + 1 ≤ (l.length : Int) := by omega
  have hbs := h.base
  have hop := ho.ops o (by rw [he]; exact List.mem_append_right _ List.mem_cons_self)
  have hpl := ho.len
  have hfr := ho.frm
  have hina := ho.ina
  obtain ⟨k, hk⟩ : ∃ k, k = os.length := ⟨_, rfl⟩
  have hlen : r.openers.length = k + 1 := by rw [he, List.length_append, hk]; rfl
  obtain ⟨a2, k2, hv2⟩ := row_len h.ops
  have hnth : r.openers[k]? = some o := by rw [he, hk]; simp
  have hcs := oCells_nth r.openers k o hnth
  rw [hv2] at h
  obtain ⟨og, hog, _, x0⟩ := row_cell h.ops hcs.1
  subst hog
  have x1 : w.cell? ⟨og, k * 3 + 1, none⟩ = some (.int .i64 (o.part : Int)) := by obtain ⟨g, e, _, q⟩ := row_cell h.ops hcs.2.1; cases e; exact q
  have x2 : w.cell? ⟨og, k * 3 + 2, none⟩ = some (.int .i64 (o.start : Int)) := by obtain ⟨g, e, _, q⟩ := row_cell h.ops hcs.2.2; cases e; exact q
  have hkc := (row_cap h.ops).1
  rw [hlen] at hkc
  have e4 : w.cell? ⟨rb, 4, none⟩ = some (.slice (some ⟨og, 0, none⟩) (k + 1) k2) := by rw [← hlen]; exact h.c.2.2.2.2.1
  have hkk : k ≤ k2 := by omega
  have hki : (k : Int) ≤ 4294967296 := by have := ho.at0; omega
  -- behind the opener's copy
  have hG := h.guest #[.int .i64 (o.kind : Int), .int .i64 (o.part : Int), .int .i64 (o.start : Int)] 71
  have hG1 : RdR (GstR G w.heap.size (.cells #[.int .i64 (o.kind : Int), .int .i64 (o.part : Int), .int .i64 (o.start : Int)] 71 (0, 0))) B l m n (firstD df) ((w.alloc (.cells #[.int .i64 (o.kind : Int), .int .i64 (o.part : Int), .int .i64 (o.start : Int)] 71)).setCell ⟨rb, 4, none⟩ (.slice (some ⟨og, 0, none⟩) k k2)) rb vp (.slice (some ⟨og, 0, none⟩) k k2) xs { r with openers := os } := by
    refine hG.reset (blk.set_blk hG.blk 4 _) (fun g hg => set1_other hg) hG.row hG.part ?_ rfl rfl
    have hq := hG.ops
    rw [hlen] at hq
    have hcut := row_cut hq (m := k) (by omega)
    rw [oCells_take, he, show k = os.length from hk, List.take_left' rfl] at hcut
    rw [← hk] at hcut
    show World.ownsRow _ _ _ _ _ os.length (oCells os)
    rw [← hk]
    exact hcut
  have HG2 := (show Hid (RdR _ _ _ _ _ _ _ _ _ _ _ _) from hG1.num.2.2 (min r.inactive k))
  have hmi : ((min r.inactive k : Nat) : Int) = min (r.inactive : Int) (k : Int) := by omega
  rw [hmi] at HG2
  have y4 := fun o => (h.below (w' := w.alloc o) ((Below.refl _ _).alloc (Nat.le_refl _) o)).c.2.2.2.2.1
  have y4f := fun o => (h.below (w' := w.alloc o) ((Below.refl _ _).alloc (Nat.le_refl _) o)).f 4
  rw [hlen] at y4
  have y5 : ((w.alloc (.cells #[.int .i64 (o.kind : Int), .int .i64 (o.part : Int), .int .i64 (o.start : Int)] 71)).setCell ⟨rb, 4, none⟩ (.slice (some ⟨og, 0, none⟩) k k2)).cell? ⟨rb, 5, none⟩ = some (.int .i64 (r.inactive : Int)) := hG1.c.2.2.2.2.2.1
  have y5f := hG1.f 5
  have y0 : ((w.alloc (.cells #[.int .i64 (o.kind : Int), .int .i64 (o.part : Int), .int .i64 (o.start : Int)] 71)).setCell ⟨rb, 4, none⟩ (.slice (some ⟨og, 0, none⟩) k k2)).cell? ⟨w.heap.size, 0, none⟩ = some (.int .i64 (o.kind : Int)) := blk.cell_blk hG1.own (i := 0) rfl
  have hgei : (r.inactive : Int) ≤ (k : Int) := by omega
  have hgel : ¬ (k : Int) < (r.inactive : Int) := by omega
  have HBw2 : Hid (Below B w (((w.alloc (.cells #[.int .i64 (o.kind : Int), .int .i64 (o.part : Int), .int .i64 (o.start : Int)] 71)).setCell ⟨rb, 4, none⟩ (.slice (some ⟨og, 0, none⟩) k k2)).setCell ⟨rb, 5, none⟩ (.int .i64 (min (r.inactive : Int) (k : Int))))) := blk.below_set (blk.below_set ((Below.refl _ _).alloc hBw _) hbs) hbs
  have HOb := (show Hid _ from HG2.out.own)
  have h7 : ((o.kind : Int) == 7) = false := by simp; omega
  have HBw2x : B ≤ (((w.alloc (.cells #[.int .i64 (o.kind : Int), .int .i64 (o.part : Int), .int .i64 (o.start : Int)] 71)).setCell ⟨rb, 4, none⟩ (.slice (some ⟨og, 0, none⟩) k k2)).setCell ⟨rb, 5, none⟩ (.int .i64 (min (r.inactive : Int) (k : Int)))).heap.size := Nat.le_trans hBw HBw2.out.size
  have hact : (o.kind == 7 || decide (r.inactive ≤ k)) = true := by simp; omega
  obtain ⟨L, D, V, q, hTg, hq⟩ := itarget_any df HG2.out hl o (by show o.start ≤ r.at0; omega) hat
  have HTg : Hid (Calls Tryz.prog 39 #[ptrB rb, .agg #[.int .i64 (o.kind : Int), .int .i64 (o.part : Int), .int .i64 (o.start : Int)]] (((w.alloc (.cells #[.int .i64 (o.kind : Int), .int .i64 (o.part : Int), .int .i64 (o.start : Int)] 71)).setCell ⟨rb, 4, none⟩ (.slice (some ⟨og, 0, none⟩) k k2)).setCell ⟨rb, 5, none⟩ (.int .i64 (min (r.inactive : Int) (k : Int)))) _) := hTg _ (Below.refl _ _)
  have hq0 : q = 0 := by
    rcases hq with hq | hq
    · exact hq.1
    · have h1 := hq.2.2
      have h2 : r.target l df o = none := ht
      have h3 : Rd.target l df { r with openers := os, inactive := min r.inactive k } o = r.target l df o := rfl
      rw [h3, h2] at h1
      cases h1
  subst hq0
  have HE : Hid (r.closer l df = { r with openers := os, inactive := min r.inactive k, at0 := r.at0 + 1 }) := by
    show _ = _
    rw [closer_some l df r he, ← hk]
    simp only [hact]
    have h3 : Rd.target l df { r with openers := os, inactive := min r.inactive k } o = none := ht
    rw [h3]
    rfl
  have hsum : ((r.at0 + 1 : Nat) : Int) = (r.at0 : Int) + 1 := by omega
  have hk0 : ¬ (k : Int) < 0 := by omega
  have j0 := blk.cell_blk HOb.out (i := 0) rfl
  have j1 := blk.cell_blk HOb.out (i := 1) rfl
  have j2 := blk.cell_blk HOb.out (i := 2) rfl
  have HRa : Hid (∀ w3, Below (((w.alloc (.cells #[.int .i64 (o.kind : Int), .int .i64 (o.part : Int), .int .i64 (o.start : Int)] 71)).setCell ⟨rb, 4, none⟩ (.slice (some ⟨og, 0, none⟩) k k2)).setCell ⟨rb, 5, none⟩ (.int .i64 (min (r.inactive : Int) (k : Int)))).heap.size (((w.alloc (.cells #[.int .i64 (o.kind : Int), .int .i64 (o.part : Int), .int .i64 (o.start : Int)] 71)).setCell ⟨rb, 4, none⟩ (.slice (some ⟨og, 0, none⟩) k k2)).setCell ⟨rb, 5, none⟩ (.int .i64 (min (r.inactive : Int) (k : Int)))) w3 → ∀ x, RdR G B l m n (firstD df) (w3.alloc x) rb vp (.slice (some ⟨og, 0, none⟩) k k2) xs { r with openers := os, inactive := min r.inactive k }) := fun w3 hb x => (HG2.out.below (hb.trans ((Below.refl w3.heap.size w3).alloc (Nat.le_refl _) x |>.mono hb.size))).alone
  have HBa : Hid (∀ w3, Below (((w.alloc (.cells #[.int .i64 (o.kind : Int), .int .i64 (o.part : Int), .int .i64 (o.start : Int)] 71)).setCell ⟨rb, 4, none⟩ (.slice (some ⟨og, 0, none⟩) k k2)).setCell ⟨rb, 5, none⟩ (.int .i64 (min (r.inactive : Int) (k : Int)))).heap.size (((w.alloc (.cells #[.int .i64 (o.kind : Int), .int .i64 (o.part : Int), .int .i64 (o.start : Int)] 71)).setCell ⟨rb, 4, none⟩ (.slice (some ⟨og, 0, none⟩) k k2)).setCell ⟨rb, 5, none⟩ (.int .i64 (min (r.inactive : Int) (k : Int)))) w3 → ∀ x, Below B w (w3.alloc x)) := fun w3 hb x => (HBw2.out.trans (hb.mono HBw2x)).alloc (Nat.le_trans HBw2x hb.size) x
  clear h hG hG1 he hcs hnth hop hlen hk hmi hge hkind hq hTg ht hact
  go_enter Tryz.func25, Tryz.ntmps25
  go_wp2_with (go_at_call 39; refine Calls.mono HTg.out ?_; rintro e w3 ⟨rfl, hb3⟩; have z1 := fun x => (HRa.out w3 hb3 x).c.2.1; have z1f := fun x => (HRa.out w3 hb3 x).f 1; have HF := (show Hid _ from fun x => (HRa.out w3 hb3 x).num.1 (r.at0 + 1)); have HB3 := (show Hid _ from HBa.out w3 hb3); rw [hsum] at HF; clear hb3)
  go_end0
  exact ⟨rfl, ⟨_, _, _, by rw [HE.out]; exact HF.out _⟩, blk.below_set (HB3.out _) hbs⟩

end Go.Proofs.YtjdijlaoeoikhaaGreatDoor

/- Package inline: readCloser; walked. -/
namespace Go.Proofs.YtjdijlaoeoikhaaGreatDoor
open Go.RowKit

set_option maxHeartbeats 16000000 in
set_option maxRecDepth 20000 in
theorem iclos_yes7 {G : Nat → Obj → Prop} {B m n rb : Nat} {l : Str8} {df : List Df8} {w : World} {vp vo : Value} {xs : List Value} {r : Rd} (h : RdR G B l m n (firstD df) w rb vp vo xs r) (ho : r.Ok l) (hl : l.length ≤ 1073741824) (hat : r.at0 < l.length) {os : List Op} {o : Op} (he : r.openers = os ++ [o]) (hkind : o.kind = 7) (ht : ¬ r.target l df o = none) :
    Calls Tryz.prog 25 #[ptrB rb] w fun e w' => LeftR G B l m n (firstD df) w rb (r.closer l df) e w' := by
  have hBw : B ≤ w.heap.size := Nat.le_trans h.base (Nat.le_of_lt (blk.lt_of_block h.blk))
  have hli : (l.length : Int) ≤ 1073741824 := by omega
  have hati : (r.at0 : Int) + 1 ≤ (l.length : Int) := by omega
  have hbs := h.base
  have hop := ho.ops o (by rw [he]; exact List.mem_append_right _ List.mem_cons_self)
  have hpl := ho.len
  have hfr := ho.frm
  have hina := ho.ina
  obtain ⟨k, hk⟩ : ∃ k, k = os.length := ⟨_, rfl⟩
  have hlen : r.openers.length = k + 1 := by rw [he, List.length_append, hk]; rfl
  obtain ⟨a2, k2, hv2⟩ := row_len h.ops
  have hnth : r.openers[k]? = some o := by rw [he, hk]; simp
  have hcs := oCells_nth r.openers k o hnth
  rw [hv2] at h
  obtain ⟨og, hog, _, x0⟩ := row_cell h.ops hcs.1
  subst hog
  have x1 : w.cell? ⟨og, k * 3 + 1, none⟩ = some (.int .i64 (o.part : Int)) := by obtain ⟨g, e, _, q⟩ := row_cell h.ops hcs.2.1; cases e; exact q
  have x2 : w.cell? ⟨og, k * 3 + 2, none⟩ = some (.int .i64 (o.start : Int)) := by obtain ⟨g, e, _, q⟩ := row_cell h.ops hcs.2.2; cases e; exact q
  have hkc := (row_cap h.ops).1
  rw [hlen] at hkc
  have e4 : w.cell? ⟨rb, 4, none⟩ = some (.slice (some ⟨og, 0, none⟩) (k + 1) k2) := by rw [← hlen]; exact h.c.2.2.2.2.1
  have hkk : k ≤ k2 := by omega
  have hki : (k : Int) ≤ 4294967296 := by have := ho.at0; omega
  -- behind the opener's copy
  have hG := h.guest #[.int .i64 (o.kind : Int), .int .i64 (o.part : Int), .int .i64 (o.start : Int)] 71
  have hG1 : RdR (GstR G w.heap.size (.cells #[.int .i64 (o.kind : Int), .int .i64 (o.part : Int), .int .i64 (o.start : Int)] 71 (0, 0))) B l m n (firstD df) ((w.alloc (.cells #[.int .i64 (o.kind : Int), .int .i64 (o.part : Int), .int .i64 (o.start : Int)] 71)).setCell ⟨rb, 4, none⟩ (.slice (some ⟨og, 0, none⟩) k k2)) rb vp (.slice (some ⟨og, 0, none⟩) k k2) xs { r with openers := os } := by
    refine hG.reset (blk.set_blk hG.blk 4 _) (fun g hg => set1_other hg) hG.row hG.part ?_ rfl rfl
    have hq := hG.ops
    rw [hlen] at hq
    have hcut := row_cut hq (m := k) (by omega)
    rw [oCells_take, he, show k = os.length from hk, List.take_left' rfl] at hcut
    rw [← hk] at hcut
    show World.ownsRow _ _ _ _ _ os.length (oCells os)
    rw [← hk]
    exact hcut
  have HG2 := (show Hid (RdR _ _ _ _ _ _ _ _ _ _ _ _) from hG1.num.2.2 (min r.inactive k))
  have hmi : ((min r.inactive k : Nat) : Int) = min (r.inactive : Int) (k : Int) := by omega
  rw [hmi] at HG2
  have y4 := fun o => (h.below (w' := w.alloc o) ((Below.refl _ _).alloc (Nat.le_refl _) o)).c.2.2.2.2.1
  have y4f := fun o => (h.below (w' := w.alloc o) ((Below.refl _ _).alloc (Nat.le_refl _) o)).f 4
  rw [hlen] at y4
  have y5 : ((w.alloc (.cells #[.int .i64 (o.kind : Int), .int .i64 (o.part : Int), .int .i64 (o.start : Int)] 71)).setCell ⟨rb, 4, none⟩ (.slice (some ⟨og, 0, none⟩) k k2)).cell? ⟨rb, 5, none⟩ = some (.int .i64 (r.inactive : Int)) := hG1.c.2.2.2.2.2.1
  have y5f := hG1.f 5
  have y0 : ((w.alloc (.cells #[.int .i64 (o.kind : Int), .int .i64 (o.part : Int), .int .i64 (o.start : Int)] 71)).setCell ⟨rb, 4, none⟩ (.slice (some ⟨og, 0, none⟩) k k2)).cell? ⟨w.heap.size, 0, none⟩ = some (.int .i64 (o.kind : Int)) := blk.cell_blk hG1.own (i := 0) rfl
  have HBw2 : Hid (Below B w (((w.alloc (.cells #[.int .i64 (o.kind : Int), .int .i64 (o.part : Int), .int .i64 (o.start : Int)] 71)).setCell ⟨rb, 4, none⟩ (.slice (some ⟨og, 0, none⟩) k k2)).setCell ⟨rb, 5, none⟩ (.int .i64 (min (r.inactive : Int) (k : Int))))) := blk.below_set (blk.below_set ((Below.refl _ _).alloc hBw _) hbs) hbs
  have HOb := (show Hid _ from HG2.out.own)
  have h7 : ((o.kind : Int) == 7) = true := by rw [hkind]; rfl
  have HBw2x : B ≤ (((w.alloc (.cells #[.int .i64 (o.kind : Int), .int .i64 (o.part : Int), .int .i64 (o.start : Int)] 71)).setCell ⟨rb, 4, none⟩ (.slice (some ⟨og, 0, none⟩) k k2)).setCell ⟨rb, 5, none⟩ (.int .i64 (min (r.inactive : Int) (k : Int)))).heap.size := Nat.le_trans hBw HBw2.out.size
  have h6 : ((o.kind : Int) == 6) = false := by simp; omega
  have hact : (o.kind == 7 || decide (r.inactive ≤ k)) = true := by simp; omega
  obtain ⟨L, D, V, q, hTg, hq⟩ := itarget_any df HG2.out hl o (by show o.start ≤ r.at0; omega) hat
  have HTg : Hid (Calls Tryz.prog 39 #[ptrB rb, .agg #[.int .i64 (o.kind : Int), .int .i64 (o.part : Int), .int .i64 (o.start : Int)]] (((w.alloc (.cells #[.int .i64 (o.kind : Int), .int .i64 (o.part : Int), .int .i64 (o.start : Int)] 71)).setCell ⟨rb, 4, none⟩ (.slice (some ⟨og, 0, none⟩) k k2)).setCell ⟨rb, 5, none⟩ (.int .i64 (min (r.inactive : Int) (k : Int)))) _) := hTg _ (Below.refl _ _)
  obtain ⟨hq0, hql, hts⟩ : 0 < q ∧ r.at0 + q ≤ l.length ∧ r.target l df o = some ((D, V), q) := by
    rcases hq with hq | hq
    · exact absurd hq.2 ht
    · exact hq
  have HE : Hid (r.closer l df = (Rd.add l { (Rd.endText l { r with openers := os, inactive := min r.inactive k }) with parts := (Rd.endText l { r with openers := os, inactive := min r.inactive k }).parts.take o.part } { i := { kind := o.kind, dest := D, title := V }, kids := emphI ((Rd.endText l { r with openers := os, inactive := min r.inactive k }).parts.drop (o.part + 1)) } q)) := by
    show _ = _
    rw [closer_some l df r he, ← hk]
    simp only [hact]
    have h3 : Rd.target l df { r with openers := os, inactive := min r.inactive k } o = some ((D, V), q) := hts
    rw [h3]
    show (if o.kind = 6 then _ else _) = _
    rw [if_neg (by omega)]
  have hO1 : Rd.Ok l { r with openers := os, inactive := min r.inactive k } := ho.drop he _ (by omega)
  have hO2 := hO1.endText
  have hO6 : Rd.Ok l { (Rd.endText l { r with openers := os, inactive := min r.inactive k }) with parts := (Rd.endText l { r with openers := os, inactive := min r.inactive k }).parts.take o.part } := by
    have q6 := ho.endText.cutBack (os := os) (o := o) he (min r.inactive k) (by omega)
    exact q6
  have hp2 : o.part < (Rd.endText l { r with openers := os, inactive := min r.inactive k }).parts.length := by
    show o.part < (r.parts ++ _).length
    rw [List.length_append]
    omega
  have hw2l := hO2.wt
  have hf2 : (Rd.endText l { r with openers := os, inactive := min r.inactive k }).frm = r.at0 := rfl
  have hn2 := hO2.num
  have hk0 : ¬ (k : Int) < 0 := by omega
  have j0 := blk.cell_blk HOb.out (i := 0) rfl
  have j1 := blk.cell_blk HOb.out (i := 1) rfl
  have j2 := blk.cell_blk HOb.out (i := 2) rfl
  have hqi : (q : Int) ≤ (l.length : Int) := by omega
  have hqb : ((q : Int) == 0) = false := by simp; omega
  have HO6 := (show Hid (Rd.Ok _ _) from hO6)
  have HO1 := (show Hid (Rd.Ok _ _) from hO1)
  obtain ⟨R2, hR2⟩ : ∃ R2, R2 = (Rd.endText l { r with openers := os, inactive := min r.inactive k }) := ⟨_, rfl⟩
  have hat2 : R2.at0 = r.at0 := by rw [hR2]; rfl
  have hop2 : R2.openers = os := by rw [hR2]; rfl
  rw [← hR2] at HE HO6 hp2 hw2l hf2 hn2
  have HEn : Hid (∀ w3, Below (((w.alloc (.cells #[.int .i64 (o.kind : Int), .int .i64 (o.part : Int), .int .i64 (o.start : Int)] 71)).setCell ⟨rb, 4, none⟩ (.slice (some ⟨og, 0, none⟩) k k2)).setCell ⟨rb, 5, none⟩ (.int .i64 (min (r.inactive : Int) (k : Int)))).heap.size (((w.alloc (.cells #[.int .i64 (o.kind : Int), .int .i64 (o.part : Int), .int .i64 (o.start : Int)] 71)).setCell ⟨rb, 4, none⟩ (.slice (some ⟨og, 0, none⟩) k k2)).setCell ⟨rb, 5, none⟩ (.int .i64 (min (r.inactive : Int) (k : Int)))) w3 → Calls Tryz.prog 16 #[ptrB rb] (w3.alloc (.cells #[.string ⟨L.toArray⟩, .string ⟨D.toArray⟩, .string ⟨V.toArray⟩] 35)) fun e w' => e = .returned (.tuple #[]) ∧ (∃ vp' xs', RdR (GstR (GstR G w.heap.size (.cells #[.int .i64 (o.kind : Int), .int .i64 (o.part : Int), .int .i64 (o.start : Int)] 71 (0, 0))) w3.heap.size (.cells #[.string ⟨L.toArray⟩, .string ⟨D.toArray⟩, .string ⟨V.toArray⟩] 35 (0, 0))) B l m n (firstD df) w' rb vp' (.slice (some ⟨og, 0, none⟩) k k2) xs' R2) ∧ Below B (w3.alloc (.cells #[.string ⟨L.toArray⟩, .string ⟨D.toArray⟩, .string ⟨V.toArray⟩] 35)) w' ∧ KeepI (w3.alloc (.cells #[.string ⟨L.toArray⟩, .string ⟨D.toArray⟩, .string ⟨V.toArray⟩] 35)) w') := fun w3 hb => by
    rw [hR2]
    exact iend_any ((HG2.out.below hb).guest #[.string ⟨L.toArray⟩, .string ⟨D.toArray⟩, .string ⟨V.toArray⟩] 35) HO1.out hl
  have HBa : Hid (∀ w3, Below (((w.alloc (.cells #[.int .i64 (o.kind : Int), .int .i64 (o.part : Int), .int .i64 (o.start : Int)] 71)).setCell ⟨rb, 4, none⟩ (.slice (some ⟨og, 0, none⟩) k k2)).setCell ⟨rb, 5, none⟩ (.int .i64 (min (r.inactive : Int) (k : Int)))).heap.size (((w.alloc (.cells #[.int .i64 (o.kind : Int), .int .i64 (o.part : Int), .int .i64 (o.start : Int)] 71)).setCell ⟨rb, 4, none⟩ (.slice (some ⟨og, 0, none⟩) k k2)).setCell ⟨rb, 5, none⟩ (.int .i64 (min (r.inactive : Int) (k : Int)))) w3 → ∀ x, Below B w (w3.alloc x)) := fun w3 hb x => (HBw2.out.trans (hb.mono HBw2x)).alloc (Nat.le_trans HBw2x hb.size) x
  clear h hG hG1 he hcs hnth hop hlen hk hmi hkind hq hTg ht hts hact hO1 hO2 hO6 hR2
  go_enter Tryz.func25, Tryz.ntmps25
  go_wp2_with (first
    | (go_at_call 39; refine Calls.mono HTg.out ?_; rintro e w3 ⟨rfl, hb3⟩; have HE3 := (show Hid _ from HEn.out w3 hb3); have HB3 := (show Hid _ from HBa.out w3 hb3); clear hb3)
    | (go_at_call 16; refine Calls.mono HE3.out ?_; rintro e w4 ⟨rfl, ⟨vp4, xs4, hR4⟩, hb4, _⟩; have HR4 := (show Hid (RdR _ _ _ _ _ _ _ _ _ _ _ _) from hR4); have HB4 : Hid (Below B w w4) := (HB3.out _).trans hb4; clear hR4 hb4))
  obtain ⟨a1, k1, hv4⟩ := row_len HR4.out.row
  rw [hv4] at HR4
  obtain ⟨pb, X, hpb, hcap, o3, hPA⟩ := rows_tail HR4.out.row HR4.out.part hp2
  subst hpb
  have HEm : Hid (∀ u : BwI w4, Calls Tryz.prog 17 #[X] u.wo fun e w' => ∃ v', e = .returned v' ∧ (∃ ys, w'.ownsRow 0 32 5 v' (emphI (R2.parts.drop (o.part + 1))).len ys ∧ KidI w' (fun _ => True) (emphI (R2.parts.drop (o.part + 1))) ys) ∧ Below u.wo.heap.size u.wo w') := fun u => iemph_any _ l.length (by have := wtL_split R2.parts (o.part + 1); omega) (by omega) (fun p hp => hn2 p (List.mem_of_mem_drop hp)) X u.wo (hPA.below u.is)
  have g3 := fun u : BwI w4 => (HR4.out.below u.is).c.2.2.2.1
  have g1 : ∀ u : BwI w4, u.wo.cell? ⟨w.heap.size, 1, none⟩ = some (.int .i64 (o.part : Int)) := fun u => blk.cell_blk (blk.blk_below (HR4.out.alone.own) u.is) (i := 1) rfl
  have hpi : (o.part : Int) + 1 ≤ 4294967296 := by have := len_wt R2.parts; omega
  have hB4w : B ≤ w4.heap.size := Nat.le_trans hBw HB4.out.size
  refine region_tail (fun w' => ∃ u : BwI w4, w' = u.wo) 8 (by kernel_rfl) (by kernel_rfl) (BwI.first w4) ?_
  haveI := BwI.some w4
  simp only [List.take_succ_cons, List.take_zero]
  repeat (go_big_quiet_step (first | exact rfl))
  refine wpQuiet_nil ?_
  intro w5 hw5
  obtain ⟨u, hu⟩ := hw5
  subst hu
  simp only [List.drop_succ_cons, List.drop_zero]
  go_wp2_with (go_at_call 17; refine Calls.mono (HEm.out u) ?_; rintro e w6 ⟨v', rfl, ⟨ys, hr6, hk6⟩, hb6⟩; obtain ⟨ka, kn, kc, hv6⟩ := row_slice hr6; subst hv6; have hbw : Below w4.heap.size w4 w6 := u.is.trans (hb6.mono u.is.size); have HR6 := (show Hid (RdR _ _ _ _ _ _ _ _ _ _ _ _) from HR4.out.below hbw); have HB6 : Hid (Below B w w6) := HB4.out.trans (hbw.mono hB4w); have HK6 : Hid (w6.ownsRow 0 32 5 (.slice ka kn kc) (emphI (R2.parts.drop (o.part + 1))).len ys ∧ KidI w6 (fun _ => True) (emphI (R2.parts.drop (o.part + 1))) ys) := ⟨hr6, hk6⟩; clear hr6 hk6 hb6 hbw)
  clear g3 g1
  have s3 : w6.drew.cell? ⟨rb, 3, none⟩ = some (.slice (some ⟨pb, 0, none⟩) R2.parts.length k1) := HR6.out.c.2.2.2.1
  have s3f : w6.drew.frozen? ⟨rb, 3, none⟩ = false := HR6.out.f 3
  have s1 : w6.drew.cell? ⟨w.heap.size, 1, none⟩ = some (.int .i64 (o.part : Int)) := blk.cell_blk (w := w6.drew) HR6.out.alone.own (i := 1) rfl
  have hpc : o.part ≤ k1 := by omega
  (try simp only [Exit.then])
  go_region
  have HR7 : Hid (RdR (GstR (GstR G w.heap.size (.cells #[.int .i64 (o.kind : Int), .int .i64 (o.part : Int), .int .i64 (o.start : Int)] 71 (0, 0))) w3.heap.size (.cells #[.string ⟨L.toArray⟩, .string ⟨D.toArray⟩, .string ⟨V.toArray⟩] 35 (0, 0))) B l m n (firstD df) (w6.setCell ⟨rb, 3, none⟩ (.slice (some ⟨pb, 0, none⟩) o.part k1)).drew rb (.slice (some ⟨pb, 0, none⟩) o.part k1) (.slice (some ⟨og, 0, none⟩) k k2) (xs4.take (o.part * 9)) { R2 with parts := R2.parts.take o.part }) := by
    refine HR6.out.reset (w' := (w6.setCell ⟨rb, 3, none⟩ (.slice (some ⟨pb, 0, none⟩) o.part k1)).drew) (blk.set_blk HR6.out.blk 3 _) (fun g hg => set1_other hg) ?_ (PartI.take _ _ o.part HR6.out.part).1 HR6.out.ops rfl rfl
    show World.ownsRow _ _ _ _ _ (R2.parts.take o.part).length _
    rw [List.length_take, Nat.min_eq_left (by omega)]
    exact row_cut HR6.out.row (by omega)
  have hK7 : KeepI w6 (w6.setCell ⟨rb, 3, none⟩ (.slice (some ⟨pb, 0, none⟩) o.part k1)).drew := (KeepI.refl w6).set HR6.out.blk (by decide) 3 (.slice (some ⟨pb, 0, none⟩) o.part k1)
  have HB7 : Hid (Below B w (w6.setCell ⟨rb, 3, none⟩ (.slice (some ⟨pb, 0, none⟩) o.part k1)).drew) := Below.drew (blk.below_set HB6.out hbs)
  have HAd : Hid (Calls Tryz.prog 33 #[ptrB rb, .agg #[.int .i64 (o.kind : Int), .string ⟨#[]⟩, .string ⟨D.toArray⟩, .string ⟨V.toArray⟩, .slice ka kn kc, .int .u8 0, .int .i64 0, .bool false, .bool false], .int .i64 (q : Int)] (w6.setCell ⟨rb, 3, none⟩ (.slice (some ⟨pb, 0, none⟩) o.part k1)).drew _) := iadd_any HR7.out HO6.out hl { i := { kind := o.kind, dest := D, title := V }, kids := emphI (R2.parts.drop (o.part + 1)) } q (by show R2.at0 + q ≤ _; omega) ka kn kc (irow_keepI HK6.out.1 hK7) (KidI.stay (fun _ _ => trivial) hK7 _ _ HK6.out.2)
  have t0 := blk.cell_blk HR7.out.alone.own (i := 0) rfl
  have t1 := blk.cell_blk HR7.out.own (i := 1) rfl
  have t2 := blk.cell_blk HR7.out.own (i := 2) rfl
  clear s3 s3f s1 hK7
  generalize (w6.setCell ⟨rb, 3, none⟩ (.slice (some ⟨pb, 0, none⟩) o.part k1)).drew = W7 at *
  (try simp only [Exit.then])
  go_wp2_with (go_at_call 33; refine Calls.mono HAd.out ?_; rintro e w8 ⟨rfl, ⟨vp8, xs8, hR8⟩, hb8⟩; have v0 := blk.cell_blk hR8.alone.own (i := 0) rfl; have v5 := hR8.c.2.2.2.2.2.1; have v5f := hR8.f 5; have HR8 := (show Hid (RdR _ _ _ _ _ _ _ _ _ _ _ _) from hR8.alone.alone); have HB8 : Hid (Below B w w8) := HB7.out.trans hb8; clear hR8 hb8)
  go_end0
  exact ⟨rfl, ⟨_, _, _, by rw [HE.out]; exact HR8.out⟩, HB8.out⟩

end Go.Proofs.YtjdijlaoeoikhaaGreatDoor
