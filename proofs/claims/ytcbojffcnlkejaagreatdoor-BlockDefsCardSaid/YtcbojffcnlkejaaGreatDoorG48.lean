/- Several texts in one. -/
import Derived.Test.YtcbojffcnlkejaaGreatDoorG47
import Derived.Test.YtcbojffcnlkejaaGreatDoorG29
import Derived.Test.YtcbojffcnlkejaaGreatDoorG31
import Derived.Test.YtcbojffcnlkejaaGreatDoorG45
set_option linter.unusedVariables false
/- What begins at a place: an Item. -/
namespace Go.Proofs.YtcbojffcnlkejaaGreatDoor
open Go.RowKit
open cur (cell_blk free_blk set_blk blk_below Cur cptr Oth)

set_option maxHeartbeats 32000000 in
theorem bbeg_item {w : World} {r c n K ht : Nat} {own : Nat → Nat} {B : Nat} {s : St} {σ : Pl} (h : Good w r own B s) (hB : B + K ≤ 549755813888) (hon : 1 ≤ s.on) (hl : LeafLeft s) (hC : Cur w c σ) (hc : own c = 0) (hn : n ≤ B) (hK : 2 ≤ K) (hi : ¬ 3 < indR σ) (hq : (beh σ.1).headD 0 ≠ 62 ∨ s.room = false)
    (hH : ∀ u, Below w.heap.size w u → Calls Tryz.prog 45 #[.string ⟨(beh σ.1).toArray⟩] u fun e w' => e = .returned (.int .i64 (ht : Int)) ∧ Below u.heap.size u w') (hlen : (beh σ.1).length ≤ 549755813888) (hhd : (headL (beh σ.1)).1 = 0) (hfe : (fenceL (beh σ.1)).2.1 = 0) (hht : ht = 0 ∨ (ht = 7 ∧ s.hasPara = true)) (hun : underL (beh σ.1) = 0 ∨ s.isClose = false) (hru : ruleL (beh σ.1) = false) (hsz : 0 < (St.markOf (beh σ.1)).size) (hroom : s.room = true) (hpar : (St.markOf (beh σ.1)).parts = true ∨ s.isClose = false) :
    Calls Tryz.prog 28 #[ptrV r, lnV c n] w fun e w' => e = .returned (.int .i64 0) ∧ LeftC w r own c (B + K) (s.beginItem n σ (St.markOf (beh σ.1))).1 (s.beginItem n σ (St.markOf (beh σ.1))).2 w' := by
  have hli := line_blk c n w
  have HB1 : Hid (Below w.heap.size w (w.alloc (.cells #[cptr c, .int .i64 (n : Int)] 63))) := (Below.refl _ _).alloc (Nat.le_refl _) _
  generalize hW : w.alloc (.cells #[cptr c, .int .i64 (n : Int)] 63) = W1 at hli HB1
  have hBU : ∀ u : BwW W1, Below w.heap.size w u.wo := fun u => HB1.out.trans (u.is.mono HB1.out.size)
  have a0 := cell_blk hli (i := 0) rfl
  have l0 := fun u : BwW W1 => cell_blk (u.blk hli) (i := 0) rfl
  have l1 := fun u : BwW W1 => cell_blk (u.blk hli) (i := 1) rfl
  simp only [List.getElem_toArray, List.getElem_cons_zero, List.getElem_cons_succ] at a0 l0 l1
  have HI0 : Hid (Calls Tryz.prog 34 #[cptr c] W1 fun e w' => e = .returned (.int .i64 (indR σ : Int)) ∧ ∃ u : BwW W1, w' = u.wo) := (cur.indent_any (hC.below HB1.out)).mono fun _ w' q => ⟨q.1, BwW.of (Below.refl _ _), q.2⟩
  have HNx : Hid (∀ u : BwW W1, Calls Tryz.prog 36 #[cptr c] u.wo fun e w' => e = .returned (.int .u8 (((beh σ.1).headD 0).toNat : Int)) ∧ ∃ u : BwW W1, w' = u.wo) := fun u => (cur.next_any (hC.below (hBU u))).mono fun _ w' q => ⟨q.1, u, q.2⟩
  have HRm : Hid (∀ u : BwW W1, Calls Tryz.prog 37 #[ptrV r] u.wo fun e w' => e = .returned (.bool s.room) ∧ ∃ u : BwW W1, w' = u.wo) := fun u => (broom_good ((h.clip).below (hBU u)) (by omega)).mono fun _ w' q => ⟨q.1, BwW.of (u.is.trans (q.2.mono u.is.size)), rfl⟩
  have hbz : (beh σ.1).length ≤ 35184372088832 := by have q := hC.wt; unfold wt at q; have q2 := (endC_le σ.1 0).2; omega
  have low : ∀ {f : FuncId} {args : Array Value} {v : Value}, (∀ u, Calls Tryz.prog f args u fun e w' => e = .returned v ∧ Below u.heap.size u w') → ∀ u : BwW W1, Calls Tryz.prog f args u.wo fun e w' => e = .returned v ∧ ∃ u : BwW W1, w' = u.wo := fun q u => (q u.wo).mono fun _ w' q => ⟨q.1, BwW.of (u.is.trans (q.2.mono u.is.size)), rfl⟩
  have HBe : Hid (∀ u : BwW W1, Calls Tryz.prog 39 #[cptr c] u.wo fun e w' => e = .returned (.string ⟨(beh σ.1).toArray⟩) ∧ ∃ u : BwW W1, w' = u.wo) := fun u => (cur.behind_any (hC.below (hBU u))).mono fun _ w' q => ⟨q.1, by obtain ⟨m, e⟩ := q.2; exact ⟨BwW.of (w := u.wo.drewN m) (u.is.trans ⟨rfl, rfl, rfl, Nat.le_refl _, fun _ _ => rfl⟩), e⟩⟩
  have HHd : Hid (∀ u : BwW W1, Calls Tryz.prog 40 #[.string ⟨(beh σ.1).toArray⟩] u.wo fun e w' => e = .returned (headV (headL (beh σ.1))) ∧ ∃ u : BwW W1, w' = u.wo) := fun u => low (fun u => by have q := lheading_any ⟨(beh σ.1).toArray⟩ (by rw [size_list]; omega) u; rw [list_data] at q; exact q) u
  have HFe : Hid (∀ u : BwW W1, Calls Tryz.prog 42 #[.string ⟨(beh σ.1).toArray⟩] u.wo fun e w' => e = .returned (fenceV (fenceL (beh σ.1))) ∧ ∃ u : BwW W1, w' = u.wo) := fun u => low (fun u => by have q := lfence_any ⟨(beh σ.1).toArray⟩ (by rw [size_list]; omega) u; rw [list_data] at q; exact q) u
  have HHt : Hid (∀ u : BwW W1, Calls Tryz.prog 45 #[.string ⟨(beh σ.1).toArray⟩] u.wo fun e w' => e = .returned (.int .i64 (ht : Int)) ∧ ∃ u : BwW W1, w' = u.wo) := fun u => (hH u.wo (hBU u)).mono fun _ w' q => ⟨q.1, BwW.of (u.is.trans (q.2.mono u.is.size)), rfl⟩
  have HUn : Hid (∀ u : BwW W1, Calls Tryz.prog 48 #[.string ⟨(beh σ.1).toArray⟩] u.wo fun e w' => e = .returned (.int .i64 (underL (beh σ.1) : Int)) ∧ ∃ u : BwW W1, w' = u.wo) := fun u => low (fun u => by have q := lunder_any ⟨(beh σ.1).toArray⟩ (by rw [size_list]; omega) u; rw [list_data] at q; exact q) u
  have HRu : Hid (∀ u : BwW W1, Calls Tryz.prog 51 #[.string ⟨(beh σ.1).toArray⟩] u.wo fun e w' => e = .returned (.bool (ruleL (beh σ.1))) ∧ ∃ u : BwW W1, w' = u.wo) := fun u => low (fun u => by have q := lrule_any ⟨(beh σ.1).toArray⟩ (by rw [size_list]; omega) u; rw [list_data] at q; exact q) u
  have HHp : Hid (∀ u : BwW W1, Calls Tryz.prog 46 #[ptrV r] u.wo fun e w' => e = .returned (.bool s.hasPara) ∧ ∃ u : BwW W1, w' = u.wo) := fun u => (bhasPara_good ((h.clip).below (hBU u)) (by omega)).mono fun _ w' q => ⟨q.1, by obtain ⟨m, e⟩ := q.2; exact ⟨BwW.of (w := u.wo.drewN m) (u.is.trans ⟨rfl, rfl, rfl, Nat.le_refl _, fun _ _ => rfl⟩), e⟩⟩
  have HIc : Hid (∀ u : BwW W1, Calls Tryz.prog 49 #[ptrV r] u.wo fun e w' => e = .returned (.bool s.isClose) ∧ ∃ u : BwW W1, w' = u.wo) := fun u => (bisClose_good ((h.clip).below (hBU u)) (by omega)).mono fun _ w' q => ⟨q.1, BwW.of (u.is.trans (q.2.mono u.is.size)), rfl⟩
  have HMk : Hid (∀ u : BwW W1, Calls Tryz.prog 52 #[.string ⟨(beh σ.1).toArray⟩] u.wo fun e w' => e = .returned (mkV (St.markOf (beh σ.1))) ∧ ∃ u : BwW W1, w' = u.wo) := fun u => low (fun u => bmarker_any (beh σ.1) (by omega) u) u
  have HRm2 : Hid (∀ W2, Below w.heap.size w W2 → Calls Tryz.prog 37 #[ptrV r] W2 fun e w' => e = .returned (.bool s.room) ∧ ∃ u : BwW W2, w' = u.wo) := fun W2 q => (broom_good ((h.clip).below q) (by omega)).mono fun _ w' q => ⟨q.1, BwW.of q.2, rfl⟩
  have HIc2 : Hid (∀ W2, Below w.heap.size w W2 → ∀ u : BwW W2, Calls Tryz.prog 49 #[ptrV r] u.wo fun e w' => e = .returned (.bool s.isClose) ∧ ∃ u : BwW W2, w' = u.wo) := fun W2 q u => (bisClose_good ((h.clip).below (q.trans (u.is.mono q.size))) (by omega)).mono fun _ w' q => ⟨q.1, BwW.of (u.is.trans (q.2.mono u.is.size)), rfl⟩
  have hmz : (St.markOf (beh σ.1)).size ≤ 549755813888 := by have := mark_len (beh σ.1); show (markL (beh σ.1)).2.1 ≤ _; omega
  have HX : Hid (∀ W2, Below w.heap.size w W2 → ∀ u : BwW W2, Calls Tryz.prog 53 #[ptrV r, lnV c n, mkV (St.markOf (beh σ.1))] u.wo fun e w' => e = .returned (.int .i64 0) ∧ LeftC w r own c (B + K) (s.beginItem n σ (St.markOf (beh σ.1))).1 (s.beginItem n σ (St.markOf (beh σ.1))).2 w') := fun W2 q u => by
    have q2 := q.trans (u.is.mono q.size)
    obtain ⟨g, cu, hcc⟩ := good_grown h hC hc q2
    refine (bbeginItem_any g (by omega) hon hl cu hcc hn hmz).mono ?_
    rintro e w' ⟨rfl, q⟩
    obtain ⟨own', q1, q2, q3⟩ := q.back q2
    exact ⟨rfl, own', q1.more (by omega), q2, q3⟩
  have HLn := (show Hid _ from hli)
  have HBU := (show Hid _ from hBU)
  have hi' : ¬ 3 < (indR σ : Int) := by omega
  clear hli h hl hC hBU low hH
  generalize indR σ = ind at *
  have hhd' : ¬ 0 < ((headL (beh σ.1)).1 : Int) := by omega
  generalize headL (beh σ.1) = hd at *
  obtain ⟨lv, tx⟩ := hd
  simp only [headV] at hhd hhd' HHd
  have hfe' : ¬ 0 < ((fenceL (beh σ.1)).2.1 : Int) := by omega
  generalize fenceL (beh σ.1) = fe at *
  obtain ⟨fs, fz, fi⟩ := fe
  simp only [fenceV] at hfe hfe' HFe
  generalize fs.toNat = fsn at *
  have hsp0 : (¬ 0 < (ht : Int)) ∨ ((ht : Int) = 7 ∧ s.hasPara = true) := by
    rcases hht with q | ⟨q, q2⟩
    · left; omega
    · right; exact ⟨by omega, q2⟩
  clear hht
  have hsp1 : (¬ 0 < (underL (beh σ.1) : Int)) ∨ (0 < (underL (beh σ.1) : Int) ∧ s.isClose = false) := by
    rcases Nat.eq_zero_or_pos (underL (beh σ.1)) with q | q
    · left; omega
    · right
      refine ⟨by omega, ?_⟩
      rcases hun with q2 | q2
      · omega
      · exact q2
  clear hun
  generalize underL (beh σ.1) = ul at *
  rw [hru] at HRu
  have hsz' : 0 < ((St.markOf (beh σ.1)).size : Int) := by omega
  rw [hroom] at HRm2
  have hmp : (St.markOf (beh σ.1)).parts = true ∨ ((St.markOf (beh σ.1)).parts = false ∧ s.isClose = false) := by
    rcases hpar with q | q
    · exact .inl q
    · cases q2 : (St.markOf (beh σ.1)).parts
      · exact .inr ⟨rfl, q⟩
      · exact .inl rfl
  clear hpar
  generalize s.beginItem n σ (St.markOf (beh σ.1)) = R at *
  generalize St.markOf (beh σ.1) = mk at *
  obtain ⟨ms, mz, mn, mp⟩ := mk
  simp only [mkV] at *
  generalize hlbe : w.heap.size = lb at *
  have hnx : (beh σ.1).headD 0 = 62 ∨ ((((beh σ.1).headD 0).toNat : Int) == 62) = false := by
    rcases Decidable.em ((beh σ.1).headD 0 = 62) with q | q
    · exact .inl q
    · right
      have : ((beh σ.1).headD 0).toNat ≠ 62 := fun e => q (UInt8.toNat_inj.1 e)
      exact beq_eq_false_iff_ne.2 (by omega)
  rcases hnx with hnx | hnx
  · have hrm : s.room = false := by
      rcases hq with q | q
      · exact absurd hnx q
      · exact q
    rw [hroom] at hrm
    cases hrm
  · generalize ((beh σ.1).headD 0).toNat = nx at *
    rcases hmp with hpt | ⟨hpt, hic2⟩
    · subst hpt
      rcases hsp0 with h70 | ⟨h70, hpa⟩
      all_goals try (rw [hpa] at HHp; rw [h70] at HHt; clear h70)
      all_goals rcases hsp1 with hu0 | ⟨hu0, hic⟩
      all_goals try (rw [hic] at HIc)
      all_goals
        go_enter Tryz.func28, Tryz.ntmps28
        go_wp2_with (first
          | (go_at_call 52; refine (HMk.out _).mono ?_; rintro e w' ⟨rfl, u, rfl⟩; have hmb := new_blk u.wo #[.int .u8 (ms.toNat : Int), .int .i64 (mz : Int), .int .i64 (mn : Int), .bool true] 108; have HB2 : Hid (Below u.wo.heap.size u.wo (u.wo.alloc (.cells #[.int .u8 (ms.toNat : Int), .int .i64 (mz : Int), .int .i64 (mn : Int), .bool true] 108))) := (Below.refl _ _).alloc (Nat.le_refl _) _; have hl2 := blk_below (u.blk HLn.out) HB2.out; have HW2 : Hid (Below lb w (u.wo.alloc (.cells #[.int .u8 (ms.toNat : Int), .int .i64 (mz : Int), .int .i64 (mn : Int), .bool true] 108))) := (HBU.out u).trans (HB2.out.mono (by have q := (HBU.out u).size; rw [hlbe] at q; exact q)); have k1 := cell_blk hmb (i := 1) rfl; have km0 := fun v : BwW (u.wo.alloc (.cells #[.int .u8 (ms.toNat : Int), .int .i64 (mz : Int), .int .i64 (mn : Int), .bool true] 108)) => cell_blk (v.blk hmb) (i := 0) rfl; have km1 := fun v : BwW (u.wo.alloc (.cells #[.int .u8 (ms.toNat : Int), .int .i64 (mz : Int), .int .i64 (mn : Int), .bool true] 108)) => cell_blk (v.blk hmb) (i := 1) rfl; have km2 := fun v : BwW (u.wo.alloc (.cells #[.int .u8 (ms.toNat : Int), .int .i64 (mz : Int), .int .i64 (mn : Int), .bool true] 108)) => cell_blk (v.blk hmb) (i := 2) rfl; have km3 := fun v : BwW (u.wo.alloc (.cells #[.int .u8 (ms.toNat : Int), .int .i64 (mz : Int), .int .i64 (mn : Int), .bool true] 108)) => cell_blk (v.blk hmb) (i := 3) rfl; have lm0 := fun v : BwW (u.wo.alloc (.cells #[.int .u8 (ms.toNat : Int), .int .i64 (mz : Int), .int .i64 (mn : Int), .bool true] 108)) => cell_blk (v.blk hl2) (i := 0) rfl; have lm1 := fun v : BwW (u.wo.alloc (.cells #[.int .u8 (ms.toNat : Int), .int .i64 (mz : Int), .int .i64 (mn : Int), .bool true] 108)) => cell_blk (v.blk hl2) (i := 1) rfl; simp only [List.getElem_toArray, List.getElem_cons_zero, List.getElem_cons_succ] at k1 km0 km1 km2 km3 lm0 lm1; clear hmb hl2)
          | (go_at_call 37; refine (HRm2.out _ HW2.out).mono ?_; rintro e w' ⟨rfl, v, rfl⟩)
          | (go_at_call 49; refine (HIc2.out _ HW2.out v).mono ?_; rintro e w' ⟨rfl, v, rfl⟩)
          | (go_at_call 53; refine (HX.out _ HW2.out _).mono ?_; rintro e w' ⟨rfl, hL⟩)
          | (go_at_call 34; refine HI0.out.mono ?_; rintro e w' ⟨rfl, u, rfl⟩)
          | (go_at_call 36; refine (HNx.out _).mono ?_; rintro e w' ⟨rfl, u, rfl⟩)
          | (go_at_call 37; refine (HRm.out _).mono ?_; rintro e w' ⟨rfl, u, rfl⟩)
          | (go_at_call 39; refine (HBe.out _).mono ?_; rintro e w' ⟨rfl, u, rfl⟩)
          | (go_at_call 40; refine (HHd.out _).mono ?_; rintro e w' ⟨rfl, u, rfl⟩)
          | (go_at_call 42; refine (HFe.out _).mono ?_; rintro e w' ⟨rfl, u, rfl⟩)
          | (go_at_call 45; refine (HHt.out _).mono ?_; rintro e w' ⟨rfl, u, rfl⟩)
          | (go_at_call 48; refine (HUn.out _).mono ?_; rintro e w' ⟨rfl, u, rfl⟩)
          | (go_at_call 51; refine (HRu.out _).mono ?_; rintro e w' ⟨rfl, u, rfl⟩)
          | (go_at_call 46; refine (HHp.out _).mono ?_; rintro e w' ⟨rfl, u, rfl⟩)
          | (go_at_call 49; refine (HIc.out _).mono ?_; rintro e w' ⟨rfl, u, rfl⟩))
        go_ret
        exact ⟨rfl, hL⟩
    · subst hpt
      rw [hic2] at HIc2
      rcases hsp0 with h70 | ⟨h70, hpa⟩
      all_goals try (rw [hpa] at HHp; rw [h70] at HHt; clear h70)
      all_goals rcases hsp1 with hu0 | ⟨hu0, hic⟩
      all_goals try (rw [hic] at HIc)
      all_goals
        go_enter Tryz.func28, Tryz.ntmps28
        go_wp2_with (first
          | (go_at_call 52; refine (HMk.out _).mono ?_; rintro e w' ⟨rfl, u, rfl⟩; have hmb := new_blk u.wo #[.int .u8 (ms.toNat : Int), .int .i64 (mz : Int), .int .i64 (mn : Int), .bool false] 108; have HB2 : Hid (Below u.wo.heap.size u.wo (u.wo.alloc (.cells #[.int .u8 (ms.toNat : Int), .int .i64 (mz : Int), .int .i64 (mn : Int), .bool false] 108))) := (Below.refl _ _).alloc (Nat.le_refl _) _; have hl2 := blk_below (u.blk HLn.out) HB2.out; have HW2 : Hid (Below lb w (u.wo.alloc (.cells #[.int .u8 (ms.toNat : Int), .int .i64 (mz : Int), .int .i64 (mn : Int), .bool false] 108))) := (HBU.out u).trans (HB2.out.mono (by have q := (HBU.out u).size; rw [hlbe] at q; exact q)); have k1 := cell_blk hmb (i := 1) rfl; have km0 := fun v : BwW (u.wo.alloc (.cells #[.int .u8 (ms.toNat : Int), .int .i64 (mz : Int), .int .i64 (mn : Int), .bool false] 108)) => cell_blk (v.blk hmb) (i := 0) rfl; have km1 := fun v : BwW (u.wo.alloc (.cells #[.int .u8 (ms.toNat : Int), .int .i64 (mz : Int), .int .i64 (mn : Int), .bool false] 108)) => cell_blk (v.blk hmb) (i := 1) rfl; have km2 := fun v : BwW (u.wo.alloc (.cells #[.int .u8 (ms.toNat : Int), .int .i64 (mz : Int), .int .i64 (mn : Int), .bool false] 108)) => cell_blk (v.blk hmb) (i := 2) rfl; have km3 := fun v : BwW (u.wo.alloc (.cells #[.int .u8 (ms.toNat : Int), .int .i64 (mz : Int), .int .i64 (mn : Int), .bool false] 108)) => cell_blk (v.blk hmb) (i := 3) rfl; have lm0 := fun v : BwW (u.wo.alloc (.cells #[.int .u8 (ms.toNat : Int), .int .i64 (mz : Int), .int .i64 (mn : Int), .bool false] 108)) => cell_blk (v.blk hl2) (i := 0) rfl; have lm1 := fun v : BwW (u.wo.alloc (.cells #[.int .u8 (ms.toNat : Int), .int .i64 (mz : Int), .int .i64 (mn : Int), .bool false] 108)) => cell_blk (v.blk hl2) (i := 1) rfl; simp only [List.getElem_toArray, List.getElem_cons_zero, List.getElem_cons_succ] at k1 km0 km1 km2 km3 lm0 lm1; clear hmb hl2)
          | (go_at_call 37; refine (HRm2.out _ HW2.out).mono ?_; rintro e w' ⟨rfl, v, rfl⟩)
          | (go_at_call 49; refine (HIc2.out _ HW2.out v).mono ?_; rintro e w' ⟨rfl, v, rfl⟩)
          | (go_at_call 53; refine (HX.out _ HW2.out _).mono ?_; rintro e w' ⟨rfl, hL⟩)
          | (go_at_call 34; refine HI0.out.mono ?_; rintro e w' ⟨rfl, u, rfl⟩)
          | (go_at_call 36; refine (HNx.out _).mono ?_; rintro e w' ⟨rfl, u, rfl⟩)
          | (go_at_call 37; refine (HRm.out _).mono ?_; rintro e w' ⟨rfl, u, rfl⟩)
          | (go_at_call 39; refine (HBe.out _).mono ?_; rintro e w' ⟨rfl, u, rfl⟩)
          | (go_at_call 40; refine (HHd.out _).mono ?_; rintro e w' ⟨rfl, u, rfl⟩)
          | (go_at_call 42; refine (HFe.out _).mono ?_; rintro e w' ⟨rfl, u, rfl⟩)
          | (go_at_call 45; refine (HHt.out _).mono ?_; rintro e w' ⟨rfl, u, rfl⟩)
          | (go_at_call 48; refine (HUn.out _).mono ?_; rintro e w' ⟨rfl, u, rfl⟩)
          | (go_at_call 51; refine (HRu.out _).mono ?_; rintro e w' ⟨rfl, u, rfl⟩)
          | (go_at_call 46; refine (HHp.out _).mono ?_; rintro e w' ⟨rfl, u, rfl⟩)
          | (go_at_call 49; refine (HIc.out _).mono ?_; rintro e w' ⟨rfl, u, rfl⟩))
        go_ret
        exact ⟨rfl, hL⟩

end Go.Proofs.YtcbojffcnlkejaaGreatDoor

/- What begins at a place: nothing, without a marker. -/
namespace Go.Proofs.YtcbojffcnlkejaaGreatDoor
open Go.RowKit
open cur (cell_blk free_blk set_blk blk_below Cur cptr Oth)

set_option maxHeartbeats 32000000 in
theorem bbeg_none0 {w : World} {r c n K ht : Nat} {own : Nat → Nat} {B : Nat} {s : St} {σ : Pl} (h : Good w r own B s) (hB : B + K ≤ 549755813888) (hon : 1 ≤ s.on) (hl : LeafLeft s) (hC : Cur w c σ) (hc : own c = 0) (hn : n ≤ B) (hK : 2 ≤ K) (hi : ¬ 3 < indR σ) (hq : (beh σ.1).headD 0 ≠ 62 ∨ s.room = false)
    (hH : ∀ u, Below w.heap.size w u → Calls Tryz.prog 45 #[.string ⟨(beh σ.1).toArray⟩] u fun e w' => e = .returned (.int .i64 (ht : Int)) ∧ Below u.heap.size u w') (hlen : (beh σ.1).length ≤ 549755813888) (hhd : (headL (beh σ.1)).1 = 0) (hfe : (fenceL (beh σ.1)).2.1 = 0) (hht : ht = 0 ∨ (ht = 7 ∧ s.hasPara = true)) (hun : underL (beh σ.1) = 0 ∨ s.isClose = false) (hru : ruleL (beh σ.1) = false) (hsz : (St.markOf (beh σ.1)).size = 0) :
    Calls Tryz.prog 28 #[ptrV r, lnV c n] w fun e w' => e = .returned (.int .i64 1) ∧ LeftC w r own c (B + K) s σ w' := by
  have hli := line_blk c n w
  have HB1 : Hid (Below w.heap.size w (w.alloc (.cells #[cptr c, .int .i64 (n : Int)] 63))) := (Below.refl _ _).alloc (Nat.le_refl _) _
  generalize hW : w.alloc (.cells #[cptr c, .int .i64 (n : Int)] 63) = W1 at hli HB1
  have hBU : ∀ u : BwW W1, Below w.heap.size w u.wo := fun u => HB1.out.trans (u.is.mono HB1.out.size)
  have a0 := cell_blk hli (i := 0) rfl
  have l0 := fun u : BwW W1 => cell_blk (u.blk hli) (i := 0) rfl
  have l1 := fun u : BwW W1 => cell_blk (u.blk hli) (i := 1) rfl
  simp only [List.getElem_toArray, List.getElem_cons_zero, List.getElem_cons_succ] at a0 l0 l1
  have HI0 : Hid (Calls Tryz.prog 34 #[cptr c] W1 fun e w' => e = .returned (.int .i64 (indR σ : Int)) ∧ ∃ u : BwW W1, w' = u.wo) := (cur.indent_any (hC.below HB1.out)).mono fun _ w' q => ⟨q.1, BwW.of (Below.refl _ _), q.2⟩
  have HNx : Hid (∀ u : BwW W1, Calls Tryz.prog 36 #[cptr c] u.wo fun e w' => e = .returned (.int .u8 (((beh σ.1).headD 0).toNat : Int)) ∧ ∃ u : BwW W1, w' = u.wo) := fun u => (cur.next_any (hC.below (hBU u))).mono fun _ w' q => ⟨q.1, u, q.2⟩
  have HRm : Hid (∀ u : BwW W1, Calls Tryz.prog 37 #[ptrV r] u.wo fun e w' => e = .returned (.bool s.room) ∧ ∃ u : BwW W1, w' = u.wo) := fun u => (broom_good ((h.clip).below (hBU u)) (by omega)).mono fun _ w' q => ⟨q.1, BwW.of (u.is.trans (q.2.mono u.is.size)), rfl⟩
  have hbz : (beh σ.1).length ≤ 35184372088832 := by have q := hC.wt; unfold wt at q; have q2 := (endC_le σ.1 0).2; omega
  have low : ∀ {f : FuncId} {args : Array Value} {v : Value}, (∀ u, Calls Tryz.prog f args u fun e w' => e = .returned v ∧ Below u.heap.size u w') → ∀ u : BwW W1, Calls Tryz.prog f args u.wo fun e w' => e = .returned v ∧ ∃ u : BwW W1, w' = u.wo := fun q u => (q u.wo).mono fun _ w' q => ⟨q.1, BwW.of (u.is.trans (q.2.mono u.is.size)), rfl⟩
  have HBe : Hid (∀ u : BwW W1, Calls Tryz.prog 39 #[cptr c] u.wo fun e w' => e = .returned (.string ⟨(beh σ.1).toArray⟩) ∧ ∃ u : BwW W1, w' = u.wo) := fun u => (cur.behind_any (hC.below (hBU u))).mono fun _ w' q => ⟨q.1, by obtain ⟨m, e⟩ := q.2; exact ⟨BwW.of (w := u.wo.drewN m) (u.is.trans ⟨rfl, rfl, rfl, Nat.le_refl _, fun _ _ => rfl⟩), e⟩⟩
  have HHd : Hid (∀ u : BwW W1, Calls Tryz.prog 40 #[.string ⟨(beh σ.1).toArray⟩] u.wo fun e w' => e = .returned (headV (headL (beh σ.1))) ∧ ∃ u : BwW W1, w' = u.wo) := fun u => low (fun u => by have q := lheading_any ⟨(beh σ.1).toArray⟩ (by rw [size_list]; omega) u; rw [list_data] at q; exact q) u
  have HFe : Hid (∀ u : BwW W1, Calls Tryz.prog 42 #[.string ⟨(beh σ.1).toArray⟩] u.wo fun e w' => e = .returned (fenceV (fenceL (beh σ.1))) ∧ ∃ u : BwW W1, w' = u.wo) := fun u => low (fun u => by have q := lfence_any ⟨(beh σ.1).toArray⟩ (by rw [size_list]; omega) u; rw [list_data] at q; exact q) u
  have HHt : Hid (∀ u : BwW W1, Calls Tryz.prog 45 #[.string ⟨(beh σ.1).toArray⟩] u.wo fun e w' => e = .returned (.int .i64 (ht : Int)) ∧ ∃ u : BwW W1, w' = u.wo) := fun u => (hH u.wo (hBU u)).mono fun _ w' q => ⟨q.1, BwW.of (u.is.trans (q.2.mono u.is.size)), rfl⟩
  have HUn : Hid (∀ u : BwW W1, Calls Tryz.prog 48 #[.string ⟨(beh σ.1).toArray⟩] u.wo fun e w' => e = .returned (.int .i64 (underL (beh σ.1) : Int)) ∧ ∃ u : BwW W1, w' = u.wo) := fun u => low (fun u => by have q := lunder_any ⟨(beh σ.1).toArray⟩ (by rw [size_list]; omega) u; rw [list_data] at q; exact q) u
  have HRu : Hid (∀ u : BwW W1, Calls Tryz.prog 51 #[.string ⟨(beh σ.1).toArray⟩] u.wo fun e w' => e = .returned (.bool (ruleL (beh σ.1))) ∧ ∃ u : BwW W1, w' = u.wo) := fun u => low (fun u => by have q := lrule_any ⟨(beh σ.1).toArray⟩ (by rw [size_list]; omega) u; rw [list_data] at q; exact q) u
  have HHp : Hid (∀ u : BwW W1, Calls Tryz.prog 46 #[ptrV r] u.wo fun e w' => e = .returned (.bool s.hasPara) ∧ ∃ u : BwW W1, w' = u.wo) := fun u => (bhasPara_good ((h.clip).below (hBU u)) (by omega)).mono fun _ w' q => ⟨q.1, by obtain ⟨m, e⟩ := q.2; exact ⟨BwW.of (w := u.wo.drewN m) (u.is.trans ⟨rfl, rfl, rfl, Nat.le_refl _, fun _ _ => rfl⟩), e⟩⟩
  have HIc : Hid (∀ u : BwW W1, Calls Tryz.prog 49 #[ptrV r] u.wo fun e w' => e = .returned (.bool s.isClose) ∧ ∃ u : BwW W1, w' = u.wo) := fun u => (bisClose_good ((h.clip).below (hBU u)) (by omega)).mono fun _ w' q => ⟨q.1, BwW.of (u.is.trans (q.2.mono u.is.size)), rfl⟩
  have HMk : Hid (∀ u : BwW W1, Calls Tryz.prog 52 #[.string ⟨(beh σ.1).toArray⟩] u.wo fun e w' => e = .returned (mkV (St.markOf (beh σ.1))) ∧ ∃ u : BwW W1, w' = u.wo) := fun u => low (fun u => bmarker_any (beh σ.1) (by omega) u) u
  have HRm2 : Hid (∀ W2, Below w.heap.size w W2 → Calls Tryz.prog 37 #[ptrV r] W2 fun e w' => e = .returned (.bool s.room) ∧ ∃ u : BwW W2, w' = u.wo) := fun W2 q => (broom_good ((h.clip).below q) (by omega)).mono fun _ w' q => ⟨q.1, BwW.of q.2, rfl⟩
  have HIc2 : Hid (∀ W2, Below w.heap.size w W2 → ∀ u : BwW W2, Calls Tryz.prog 49 #[ptrV r] u.wo fun e w' => e = .returned (.bool s.isClose) ∧ ∃ u : BwW W2, w' = u.wo) := fun W2 q u => (bisClose_good ((h.clip).below (q.trans (u.is.mono q.size))) (by omega)).mono fun _ w' q => ⟨q.1, BwW.of (u.is.trans (q.2.mono u.is.size)), rfl⟩
  have hmz : (St.markOf (beh σ.1)).size ≤ 549755813888 := by have := mark_len (beh σ.1); show (markL (beh σ.1)).2.1 ≤ _; omega
  have HTx : Hid (∀ u : BwW W1, ∀ o : Obj, LeftC w r own c (B + K) s σ (u.wo.alloc o)) := fun u o => by
    have q2 := (hBU u).alloc (hBU u).size o
    exact ⟨own, (h.below q2).more (Nat.le_add_right _ _), hC.below q2, Fr.of_below q2, fun _ _ q => q⟩
  have HTv : Hid (∀ W2, Below w.heap.size w W2 → ∀ u : BwW W2, LeftC w r own c (B + K) s σ u.wo) := fun W2 q u => by
    have q2 := q.trans (u.is.mono q.size)
    exact ⟨own, (h.below q2).more (Nat.le_add_right _ _), hC.below q2, Fr.of_below q2, fun _ _ q => q⟩
  have HLn := (show Hid _ from hli)
  have HBU := (show Hid _ from hBU)
  have hi' : ¬ 3 < (indR σ : Int) := by omega
  clear hli h hl hC hBU low hH
  generalize indR σ = ind at *
  have hhd' : ¬ 0 < ((headL (beh σ.1)).1 : Int) := by omega
  generalize headL (beh σ.1) = hd at *
  obtain ⟨lv, tx⟩ := hd
  simp only [headV] at hhd hhd' HHd
  have hfe' : ¬ 0 < ((fenceL (beh σ.1)).2.1 : Int) := by omega
  generalize fenceL (beh σ.1) = fe at *
  obtain ⟨fs, fz, fi⟩ := fe
  simp only [fenceV] at hfe hfe' HFe
  generalize fs.toNat = fsn at *
  have hsp0 : (¬ 0 < (ht : Int)) ∨ ((ht : Int) = 7 ∧ s.hasPara = true) := by
    rcases hht with q | ⟨q, q2⟩
    · left; omega
    · right; exact ⟨by omega, q2⟩
  clear hht
  have hsp1 : (¬ 0 < (underL (beh σ.1) : Int)) ∨ (0 < (underL (beh σ.1) : Int) ∧ s.isClose = false) := by
    rcases Nat.eq_zero_or_pos (underL (beh σ.1)) with q | q
    · left; omega
    · right
      refine ⟨by omega, ?_⟩
      rcases hun with q2 | q2
      · omega
      · exact q2
  clear hun
  generalize underL (beh σ.1) = ul at *
  rw [hru] at HRu
  have hsz' : ¬ 0 < ((St.markOf (beh σ.1)).size : Int) := by omega
  generalize St.markOf (beh σ.1) = mk at *
  obtain ⟨ms, mz, mn, mp⟩ := mk
  simp only [mkV] at *
  generalize hlbe : w.heap.size = lb at *
  have hnx : (beh σ.1).headD 0 = 62 ∨ ((((beh σ.1).headD 0).toNat : Int) == 62) = false := by
    rcases Decidable.em ((beh σ.1).headD 0 = 62) with q | q
    · exact .inl q
    · right
      have : ((beh σ.1).headD 0).toNat ≠ 62 := fun e => q (UInt8.toNat_inj.1 e)
      exact beq_eq_false_iff_ne.2 (by omega)
  rcases hnx with hnx | hnx
  · have hrm : s.room = false := by
      rcases hq with q | q
      · exact absurd hnx q
      · exact q
    rw [hnx] at HNx
    rw [hrm] at HRm HRm2
    rcases hsp0 with h70 | ⟨h70, hpa⟩
    all_goals try (rw [hpa] at HHp; rw [h70] at HHt; clear h70)
    all_goals rcases hsp1 with hu0 | ⟨hu0, hic⟩
    all_goals try (rw [hic] at HIc)
    all_goals
      go_enter Tryz.func28, Tryz.ntmps28
      go_wp2_with (first
        | (go_at_call 52; refine (HMk.out _).mono ?_; rintro e w' ⟨rfl, u, rfl⟩; have hmb := new_blk u.wo #[.int .u8 (ms.toNat : Int), .int .i64 (mz : Int), .int .i64 (mn : Int), .bool mp] 108; have HB2 : Hid (Below u.wo.heap.size u.wo (u.wo.alloc (.cells #[.int .u8 (ms.toNat : Int), .int .i64 (mz : Int), .int .i64 (mn : Int), .bool mp] 108))) := (Below.refl _ _).alloc (Nat.le_refl _) _; have hl2 := blk_below (u.blk HLn.out) HB2.out; have HW2 : Hid (Below lb w (u.wo.alloc (.cells #[.int .u8 (ms.toNat : Int), .int .i64 (mz : Int), .int .i64 (mn : Int), .bool mp] 108))) := (HBU.out u).trans (HB2.out.mono (by have q := (HBU.out u).size; rw [hlbe] at q; exact q)); have k1 := cell_blk hmb (i := 1) rfl; have km0 := fun v : BwW (u.wo.alloc (.cells #[.int .u8 (ms.toNat : Int), .int .i64 (mz : Int), .int .i64 (mn : Int), .bool mp] 108)) => cell_blk (v.blk hmb) (i := 0) rfl; have km1 := fun v : BwW (u.wo.alloc (.cells #[.int .u8 (ms.toNat : Int), .int .i64 (mz : Int), .int .i64 (mn : Int), .bool mp] 108)) => cell_blk (v.blk hmb) (i := 1) rfl; have km2 := fun v : BwW (u.wo.alloc (.cells #[.int .u8 (ms.toNat : Int), .int .i64 (mz : Int), .int .i64 (mn : Int), .bool mp] 108)) => cell_blk (v.blk hmb) (i := 2) rfl; have km3 := fun v : BwW (u.wo.alloc (.cells #[.int .u8 (ms.toNat : Int), .int .i64 (mz : Int), .int .i64 (mn : Int), .bool mp] 108)) => cell_blk (v.blk hmb) (i := 3) rfl; have lm0 := fun v : BwW (u.wo.alloc (.cells #[.int .u8 (ms.toNat : Int), .int .i64 (mz : Int), .int .i64 (mn : Int), .bool mp] 108)) => cell_blk (v.blk hl2) (i := 0) rfl; have lm1 := fun v : BwW (u.wo.alloc (.cells #[.int .u8 (ms.toNat : Int), .int .i64 (mz : Int), .int .i64 (mn : Int), .bool mp] 108)) => cell_blk (v.blk hl2) (i := 1) rfl; simp only [List.getElem_toArray, List.getElem_cons_zero, List.getElem_cons_succ] at k1 km0 km1 km2 km3 lm0 lm1; clear hmb hl2)
        | (go_at_call 37; refine (HRm2.out _ HW2.out).mono ?_; rintro e w' ⟨rfl, v, rfl⟩)
        | (go_at_call 49; refine (HIc2.out _ HW2.out v).mono ?_; rintro e w' ⟨rfl, v, rfl⟩)
        | (go_at_call 34; refine HI0.out.mono ?_; rintro e w' ⟨rfl, u, rfl⟩)
        | (go_at_call 36; refine (HNx.out _).mono ?_; rintro e w' ⟨rfl, u, rfl⟩)
        | (go_at_call 37; refine (HRm.out _).mono ?_; rintro e w' ⟨rfl, u, rfl⟩)
        | (go_at_call 39; refine (HBe.out _).mono ?_; rintro e w' ⟨rfl, u, rfl⟩)
        | (go_at_call 40; refine (HHd.out _).mono ?_; rintro e w' ⟨rfl, u, rfl⟩)
        | (go_at_call 42; refine (HFe.out _).mono ?_; rintro e w' ⟨rfl, u, rfl⟩)
        | (go_at_call 45; refine (HHt.out _).mono ?_; rintro e w' ⟨rfl, u, rfl⟩)
        | (go_at_call 48; refine (HUn.out _).mono ?_; rintro e w' ⟨rfl, u, rfl⟩)
        | (go_at_call 51; refine (HRu.out _).mono ?_; rintro e w' ⟨rfl, u, rfl⟩)
        | (go_at_call 46; refine (HHp.out _).mono ?_; rintro e w' ⟨rfl, u, rfl⟩)
        | (go_at_call 49; refine (HIc.out _).mono ?_; rintro e w' ⟨rfl, u, rfl⟩))
      go_ret
      exact ⟨rfl, HTx.out _ _⟩
  · generalize ((beh σ.1).headD 0).toNat = nx at *
    rcases hsp0 with h70 | ⟨h70, hpa⟩
    all_goals try (rw [hpa] at HHp; rw [h70] at HHt; clear h70)
    all_goals rcases hsp1 with hu0 | ⟨hu0, hic⟩
    all_goals try (rw [hic] at HIc)
    all_goals
      go_enter Tryz.func28, Tryz.ntmps28
      go_wp2_with (first
        | (go_at_call 52; refine (HMk.out _).mono ?_; rintro e w' ⟨rfl, u, rfl⟩; have hmb := new_blk u.wo #[.int .u8 (ms.toNat : Int), .int .i64 (mz : Int), .int .i64 (mn : Int), .bool mp] 108; have HB2 : Hid (Below u.wo.heap.size u.wo (u.wo.alloc (.cells #[.int .u8 (ms.toNat : Int), .int .i64 (mz : Int), .int .i64 (mn : Int), .bool mp] 108))) := (Below.refl _ _).alloc (Nat.le_refl _) _; have hl2 := blk_below (u.blk HLn.out) HB2.out; have HW2 : Hid (Below lb w (u.wo.alloc (.cells #[.int .u8 (ms.toNat : Int), .int .i64 (mz : Int), .int .i64 (mn : Int), .bool mp] 108))) := (HBU.out u).trans (HB2.out.mono (by have q := (HBU.out u).size; rw [hlbe] at q; exact q)); have k1 := cell_blk hmb (i := 1) rfl; have km0 := fun v : BwW (u.wo.alloc (.cells #[.int .u8 (ms.toNat : Int), .int .i64 (mz : Int), .int .i64 (mn : Int), .bool mp] 108)) => cell_blk (v.blk hmb) (i := 0) rfl; have km1 := fun v : BwW (u.wo.alloc (.cells #[.int .u8 (ms.toNat : Int), .int .i64 (mz : Int), .int .i64 (mn : Int), .bool mp] 108)) => cell_blk (v.blk hmb) (i := 1) rfl; have km2 := fun v : BwW (u.wo.alloc (.cells #[.int .u8 (ms.toNat : Int), .int .i64 (mz : Int), .int .i64 (mn : Int), .bool mp] 108)) => cell_blk (v.blk hmb) (i := 2) rfl; have km3 := fun v : BwW (u.wo.alloc (.cells #[.int .u8 (ms.toNat : Int), .int .i64 (mz : Int), .int .i64 (mn : Int), .bool mp] 108)) => cell_blk (v.blk hmb) (i := 3) rfl; have lm0 := fun v : BwW (u.wo.alloc (.cells #[.int .u8 (ms.toNat : Int), .int .i64 (mz : Int), .int .i64 (mn : Int), .bool mp] 108)) => cell_blk (v.blk hl2) (i := 0) rfl; have lm1 := fun v : BwW (u.wo.alloc (.cells #[.int .u8 (ms.toNat : Int), .int .i64 (mz : Int), .int .i64 (mn : Int), .bool mp] 108)) => cell_blk (v.blk hl2) (i := 1) rfl; simp only [List.getElem_toArray, List.getElem_cons_zero, List.getElem_cons_succ] at k1 km0 km1 km2 km3 lm0 lm1; clear hmb hl2)
        | (go_at_call 37; refine (HRm2.out _ HW2.out).mono ?_; rintro e w' ⟨rfl, v, rfl⟩)
        | (go_at_call 49; refine (HIc2.out _ HW2.out v).mono ?_; rintro e w' ⟨rfl, v, rfl⟩)
        | (go_at_call 34; refine HI0.out.mono ?_; rintro e w' ⟨rfl, u, rfl⟩)
        | (go_at_call 36; refine (HNx.out _).mono ?_; rintro e w' ⟨rfl, u, rfl⟩)
        | (go_at_call 37; refine (HRm.out _).mono ?_; rintro e w' ⟨rfl, u, rfl⟩)
        | (go_at_call 39; refine (HBe.out _).mono ?_; rintro e w' ⟨rfl, u, rfl⟩)
        | (go_at_call 40; refine (HHd.out _).mono ?_; rintro e w' ⟨rfl, u, rfl⟩)
        | (go_at_call 42; refine (HFe.out _).mono ?_; rintro e w' ⟨rfl, u, rfl⟩)
        | (go_at_call 45; refine (HHt.out _).mono ?_; rintro e w' ⟨rfl, u, rfl⟩)
        | (go_at_call 48; refine (HUn.out _).mono ?_; rintro e w' ⟨rfl, u, rfl⟩)
        | (go_at_call 51; refine (HRu.out _).mono ?_; rintro e w' ⟨rfl, u, rfl⟩)
        | (go_at_call 46; refine (HHp.out _).mono ?_; rintro e w' ⟨rfl, u, rfl⟩)
        | (go_at_call 49; refine (HIc.out _).mono ?_; rintro e w' ⟨rfl, u, rfl⟩))
      go_ret
      exact ⟨rfl, HTx.out _ _⟩

end Go.Proofs.YtcbojffcnlkejaaGreatDoor

/- What begins at a place: nothing, with a marker. -/
namespace Go.Proofs.YtcbojffcnlkejaaGreatDoor
open Go.RowKit
open cur (cell_blk free_blk set_blk blk_below Cur cptr Oth)

set_option maxHeartbeats 32000000 in
theorem bbeg_none1 {w : World} {r c n K ht : Nat} {own : Nat → Nat} {B : Nat} {s : St} {σ : Pl} (h : Good w r own B s) (hB : B + K ≤ 549755813888) (hon : 1 ≤ s.on) (hl : LeafLeft s) (hC : Cur w c σ) (hc : own c = 0) (hn : n ≤ B) (hK : 2 ≤ K) (hi : ¬ 3 < indR σ) (hq : (beh σ.1).headD 0 ≠ 62 ∨ s.room = false)
    (hH : ∀ u, Below w.heap.size w u → Calls Tryz.prog 45 #[.string ⟨(beh σ.1).toArray⟩] u fun e w' => e = .returned (.int .i64 (ht : Int)) ∧ Below u.heap.size u w') (hlen : (beh σ.1).length ≤ 549755813888) (hhd : (headL (beh σ.1)).1 = 0) (hfe : (fenceL (beh σ.1)).2.1 = 0) (hht : ht = 0 ∨ (ht = 7 ∧ s.hasPara = true)) (hun : underL (beh σ.1) = 0 ∨ s.isClose = false) (hru : ruleL (beh σ.1) = false) (hsz : 0 < (St.markOf (beh σ.1)).size) (hroom : s.room = false) :
    Calls Tryz.prog 28 #[ptrV r, lnV c n] w fun e w' => e = .returned (.int .i64 1) ∧ LeftC w r own c (B + K) s σ w' := by
  have hli := line_blk c n w
  have HB1 : Hid (Below w.heap.size w (w.alloc (.cells #[cptr c, .int .i64 (n : Int)] 63))) := (Below.refl _ _).alloc (Nat.le_refl _) _
  generalize hW : w.alloc (.cells #[cptr c, .int .i64 (n : Int)] 63) = W1 at hli HB1
  have hBU : ∀ u : BwW W1, Below w.heap.size w u.wo := fun u => HB1.out.trans (u.is.mono HB1.out.size)
  have a0 := cell_blk hli (i := 0) rfl
  have l0 := fun u : BwW W1 => cell_blk (u.blk hli) (i := 0) rfl
  have l1 := fun u : BwW W1 => cell_blk (u.blk hli) (i := 1) rfl
  simp only [List.getElem_toArray, List.getElem_cons_zero, List.getElem_cons_succ] at a0 l0 l1
  have HI0 : Hid (Calls Tryz.prog 34 #[cptr c] W1 fun e w' => e = .returned (.int .i64 (indR σ : Int)) ∧ ∃ u : BwW W1, w' = u.wo) := (cur.indent_any (hC.below HB1.out)).mono fun _ w' q => ⟨q.1, BwW.of (Below.refl _ _), q.2⟩
  have HNx : Hid (∀ u : BwW W1, Calls Tryz.prog 36 #[cptr c] u.wo fun e w' => e = .returned (.int .u8 (((beh σ.1).headD 0).toNat : Int)) ∧ ∃ u : BwW W1, w' = u.wo) := fun u => (cur.next_any (hC.below (hBU u))).mono fun _ w' q => ⟨q.1, u, q.2⟩
  have HRm : Hid (∀ u : BwW W1, Calls Tryz.prog 37 #[ptrV r] u.wo fun e w' => e = .returned (.bool s.room) ∧ ∃ u : BwW W1, w' = u.wo) := fun u => (broom_good ((h.clip).below (hBU u)) (by omega)).mono fun _ w' q => ⟨q.1, BwW.of (u.is.trans (q.2.mono u.is.size)), rfl⟩
  have hbz : (beh σ.1).length ≤ 35184372088832 := by have q := hC.wt; unfold wt at q; have q2 := (endC_le σ.1 0).2; omega
  have low : ∀ {f : FuncId} {args : Array Value} {v : Value}, (∀ u, Calls Tryz.prog f args u fun e w' => e = .returned v ∧ Below u.heap.size u w') → ∀ u : BwW W1, Calls Tryz.prog f args u.wo fun e w' => e = .returned v ∧ ∃ u : BwW W1, w' = u.wo := fun q u => (q u.wo).mono fun _ w' q => ⟨q.1, BwW.of (u.is.trans (q.2.mono u.is.size)), rfl⟩
  have HBe : Hid (∀ u : BwW W1, Calls Tryz.prog 39 #[cptr c] u.wo fun e w' => e = .returned (.string ⟨(beh σ.1).toArray⟩) ∧ ∃ u : BwW W1, w' = u.wo) := fun u => (cur.behind_any (hC.below (hBU u))).mono fun _ w' q => ⟨q.1, by obtain ⟨m, e⟩ := q.2; exact ⟨BwW.of (w := u.wo.drewN m) (u.is.trans ⟨rfl, rfl, rfl, Nat.le_refl _, fun _ _ => rfl⟩), e⟩⟩
  have HHd : Hid (∀ u : BwW W1, Calls Tryz.prog 40 #[.string ⟨(beh σ.1).toArray⟩] u.wo fun e w' => e = .returned (headV (headL (beh σ.1))) ∧ ∃ u : BwW W1, w' = u.wo) := fun u => low (fun u => by have q := lheading_any ⟨(beh σ.1).toArray⟩ (by rw [size_list]; omega) u; rw [list_data] at q; exact q) u
  have HFe : Hid (∀ u : BwW W1, Calls Tryz.prog 42 #[.string ⟨(beh σ.1).toArray⟩] u.wo fun e w' => e = .returned (fenceV (fenceL (beh σ.1))) ∧ ∃ u : BwW W1, w' = u.wo) := fun u => low (fun u => by have q := lfence_any ⟨(beh σ.1).toArray⟩ (by rw [size_list]; omega) u; rw [list_data] at q; exact q) u
  have HHt : Hid (∀ u : BwW W1, Calls Tryz.prog 45 #[.string ⟨(beh σ.1).toArray⟩] u.wo fun e w' => e = .returned (.int .i64 (ht : Int)) ∧ ∃ u : BwW W1, w' = u.wo) := fun u => (hH u.wo (hBU u)).mono fun _ w' q => ⟨q.1, BwW.of (u.is.trans (q.2.mono u.is.size)), rfl⟩
  have HUn : Hid (∀ u : BwW W1, Calls Tryz.prog 48 #[.string ⟨(beh σ.1).toArray⟩] u.wo fun e w' => e = .returned (.int .i64 (underL (beh σ.1) : Int)) ∧ ∃ u : BwW W1, w' = u.wo) := fun u => low (fun u => by have q := lunder_any ⟨(beh σ.1).toArray⟩ (by rw [size_list]; omega) u; rw [list_data] at q; exact q) u
  have HRu : Hid (∀ u : BwW W1, Calls Tryz.prog 51 #[.string ⟨(beh σ.1).toArray⟩] u.wo fun e w' => e = .returned (.bool (ruleL (beh σ.1))) ∧ ∃ u : BwW W1, w' = u.wo) := fun u => low (fun u => by have q := lrule_any ⟨(beh σ.1).toArray⟩ (by rw [size_list]; omega) u; rw [list_data] at q; exact q) u
  have HHp : Hid (∀ u : BwW W1, Calls Tryz.prog 46 #[ptrV r] u.wo fun e w' => e = .returned (.bool s.hasPara) ∧ ∃ u : BwW W1, w' = u.wo) := fun u => (bhasPara_good ((h.clip).below (hBU u)) (by omega)).mono fun _ w' q => ⟨q.1, by obtain ⟨m, e⟩ := q.2; exact ⟨BwW.of (w := u.wo.drewN m) (u.is.trans ⟨rfl, rfl, rfl, Nat.le_refl _, fun _ _ => rfl⟩), e⟩⟩
  have HIc : Hid (∀ u : BwW W1, Calls Tryz.prog 49 #[ptrV r] u.wo fun e w' => e = .returned (.bool s.isClose) ∧ ∃ u : BwW W1, w' = u.wo) := fun u => (bisClose_good ((h.clip).below (hBU u)) (by omega)).mono fun _ w' q => ⟨q.1, BwW.of (u.is.trans (q.2.mono u.is.size)), rfl⟩
  have HMk : Hid (∀ u : BwW W1, Calls Tryz.prog 52 #[.string ⟨(beh σ.1).toArray⟩] u.wo fun e w' => e = .returned (mkV (St.markOf (beh σ.1))) ∧ ∃ u : BwW W1, w' = u.wo) := fun u => low (fun u => bmarker_any (beh σ.1) (by omega) u) u
  have HRm2 : Hid (∀ W2, Below w.heap.size w W2 → Calls Tryz.prog 37 #[ptrV r] W2 fun e w' => e = .returned (.bool s.room) ∧ ∃ u : BwW W2, w' = u.wo) := fun W2 q => (broom_good ((h.clip).below q) (by omega)).mono fun _ w' q => ⟨q.1, BwW.of q.2, rfl⟩
  have HIc2 : Hid (∀ W2, Below w.heap.size w W2 → ∀ u : BwW W2, Calls Tryz.prog 49 #[ptrV r] u.wo fun e w' => e = .returned (.bool s.isClose) ∧ ∃ u : BwW W2, w' = u.wo) := fun W2 q u => (bisClose_good ((h.clip).below (q.trans (u.is.mono q.size))) (by omega)).mono fun _ w' q => ⟨q.1, BwW.of (u.is.trans (q.2.mono u.is.size)), rfl⟩
  have hmz : (St.markOf (beh σ.1)).size ≤ 549755813888 := by have := mark_len (beh σ.1); show (markL (beh σ.1)).2.1 ≤ _; omega
  have HTx : Hid (∀ u : BwW W1, ∀ o : Obj, LeftC w r own c (B + K) s σ (u.wo.alloc o)) := fun u o => by
    have q2 := (hBU u).alloc (hBU u).size o
    exact ⟨own, (h.below q2).more (Nat.le_add_right _ _), hC.below q2, Fr.of_below q2, fun _ _ q => q⟩
  have HTv : Hid (∀ W2, Below w.heap.size w W2 → ∀ u : BwW W2, LeftC w r own c (B + K) s σ u.wo) := fun W2 q u => by
    have q2 := q.trans (u.is.mono q.size)
    exact ⟨own, (h.below q2).more (Nat.le_add_right _ _), hC.below q2, Fr.of_below q2, fun _ _ q => q⟩
  have HLn := (show Hid _ from hli)
  have HBU := (show Hid _ from hBU)
  have hi' : ¬ 3 < (indR σ : Int) := by omega
  clear hli h hl hC hBU low hH
  generalize indR σ = ind at *
  have hhd' : ¬ 0 < ((headL (beh σ.1)).1 : Int) := by omega
  generalize headL (beh σ.1) = hd at *
  obtain ⟨lv, tx⟩ := hd
  simp only [headV] at hhd hhd' HHd
  have hfe' : ¬ 0 < ((fenceL (beh σ.1)).2.1 : Int) := by omega
  generalize fenceL (beh σ.1) = fe at *
  obtain ⟨fs, fz, fi⟩ := fe
  simp only [fenceV] at hfe hfe' HFe
  generalize fs.toNat = fsn at *
  have hsp0 : (¬ 0 < (ht : Int)) ∨ ((ht : Int) = 7 ∧ s.hasPara = true) := by
    rcases hht with q | ⟨q, q2⟩
    · left; omega
    · right; exact ⟨by omega, q2⟩
  clear hht
  have hsp1 : (¬ 0 < (underL (beh σ.1) : Int)) ∨ (0 < (underL (beh σ.1) : Int) ∧ s.isClose = false) := by
    rcases Nat.eq_zero_or_pos (underL (beh σ.1)) with q | q
    · left; omega
    · right
      refine ⟨by omega, ?_⟩
      rcases hun with q2 | q2
      · omega
      · exact q2
  clear hun
  generalize underL (beh σ.1) = ul at *
  rw [hru] at HRu
  have hsz' : 0 < ((St.markOf (beh σ.1)).size : Int) := by omega
  rw [hroom] at HRm2
  generalize St.markOf (beh σ.1) = mk at *
  obtain ⟨ms, mz, mn, mp⟩ := mk
  simp only [mkV] at *
  generalize hlbe : w.heap.size = lb at *
  have hnx : (beh σ.1).headD 0 = 62 ∨ ((((beh σ.1).headD 0).toNat : Int) == 62) = false := by
    rcases Decidable.em ((beh σ.1).headD 0 = 62) with q | q
    · exact .inl q
    · right
      have : ((beh σ.1).headD 0).toNat ≠ 62 := fun e => q (UInt8.toNat_inj.1 e)
      exact beq_eq_false_iff_ne.2 (by omega)
  rcases hnx with hnx | hnx
  · have hrm : s.room = false := by
      rcases hq with q | q
      · exact absurd hnx q
      · exact q
    rw [hnx] at HNx
    rw [hrm] at HRm
    rcases hsp0 with h70 | ⟨h70, hpa⟩
    all_goals try (rw [hpa] at HHp; rw [h70] at HHt; clear h70)
    all_goals rcases hsp1 with hu0 | ⟨hu0, hic⟩
    all_goals try (rw [hic] at HIc)
    all_goals
      go_enter Tryz.func28, Tryz.ntmps28
      go_wp2_with (first
        | (go_at_call 52; refine (HMk.out _).mono ?_; rintro e w' ⟨rfl, u, rfl⟩; have hmb := new_blk u.wo #[.int .u8 (ms.toNat : Int), .int .i64 (mz : Int), .int .i64 (mn : Int), .bool mp] 108; have HB2 : Hid (Below u.wo.heap.size u.wo (u.wo.alloc (.cells #[.int .u8 (ms.toNat : Int), .int .i64 (mz : Int), .int .i64 (mn : Int), .bool mp] 108))) := (Below.refl _ _).alloc (Nat.le_refl _) _; have hl2 := blk_below (u.blk HLn.out) HB2.out; have HW2 : Hid (Below lb w (u.wo.alloc (.cells #[.int .u8 (ms.toNat : Int), .int .i64 (mz : Int), .int .i64 (mn : Int), .bool mp] 108))) := (HBU.out u).trans (HB2.out.mono (by have q := (HBU.out u).size; rw [hlbe] at q; exact q)); have k1 := cell_blk hmb (i := 1) rfl; have km0 := fun v : BwW (u.wo.alloc (.cells #[.int .u8 (ms.toNat : Int), .int .i64 (mz : Int), .int .i64 (mn : Int), .bool mp] 108)) => cell_blk (v.blk hmb) (i := 0) rfl; have km1 := fun v : BwW (u.wo.alloc (.cells #[.int .u8 (ms.toNat : Int), .int .i64 (mz : Int), .int .i64 (mn : Int), .bool mp] 108)) => cell_blk (v.blk hmb) (i := 1) rfl; have km2 := fun v : BwW (u.wo.alloc (.cells #[.int .u8 (ms.toNat : Int), .int .i64 (mz : Int), .int .i64 (mn : Int), .bool mp] 108)) => cell_blk (v.blk hmb) (i := 2) rfl; have km3 := fun v : BwW (u.wo.alloc (.cells #[.int .u8 (ms.toNat : Int), .int .i64 (mz : Int), .int .i64 (mn : Int), .bool mp] 108)) => cell_blk (v.blk hmb) (i := 3) rfl; have lm0 := fun v : BwW (u.wo.alloc (.cells #[.int .u8 (ms.toNat : Int), .int .i64 (mz : Int), .int .i64 (mn : Int), .bool mp] 108)) => cell_blk (v.blk hl2) (i := 0) rfl; have lm1 := fun v : BwW (u.wo.alloc (.cells #[.int .u8 (ms.toNat : Int), .int .i64 (mz : Int), .int .i64 (mn : Int), .bool mp] 108)) => cell_blk (v.blk hl2) (i := 1) rfl; simp only [List.getElem_toArray, List.getElem_cons_zero, List.getElem_cons_succ] at k1 km0 km1 km2 km3 lm0 lm1; clear hmb hl2)
        | (go_at_call 37; refine (HRm2.out _ HW2.out).mono ?_; rintro e w' ⟨rfl, v, rfl⟩)
        | (go_at_call 49; refine (HIc2.out _ HW2.out v).mono ?_; rintro e w' ⟨rfl, v, rfl⟩)
        | (go_at_call 34; refine HI0.out.mono ?_; rintro e w' ⟨rfl, u, rfl⟩)
        | (go_at_call 36; refine (HNx.out _).mono ?_; rintro e w' ⟨rfl, u, rfl⟩)
        | (go_at_call 37; refine (HRm.out _).mono ?_; rintro e w' ⟨rfl, u, rfl⟩)
        | (go_at_call 39; refine (HBe.out _).mono ?_; rintro e w' ⟨rfl, u, rfl⟩)
        | (go_at_call 40; refine (HHd.out _).mono ?_; rintro e w' ⟨rfl, u, rfl⟩)
        | (go_at_call 42; refine (HFe.out _).mono ?_; rintro e w' ⟨rfl, u, rfl⟩)
        | (go_at_call 45; refine (HHt.out _).mono ?_; rintro e w' ⟨rfl, u, rfl⟩)
        | (go_at_call 48; refine (HUn.out _).mono ?_; rintro e w' ⟨rfl, u, rfl⟩)
        | (go_at_call 51; refine (HRu.out _).mono ?_; rintro e w' ⟨rfl, u, rfl⟩)
        | (go_at_call 46; refine (HHp.out _).mono ?_; rintro e w' ⟨rfl, u, rfl⟩)
        | (go_at_call 49; refine (HIc.out _).mono ?_; rintro e w' ⟨rfl, u, rfl⟩))
      go_ret
      exact ⟨rfl, HTv.out _ HW2.out _⟩
  · generalize ((beh σ.1).headD 0).toNat = nx at *
    rcases hsp0 with h70 | ⟨h70, hpa⟩
    all_goals try (rw [hpa] at HHp; rw [h70] at HHt; clear h70)
    all_goals rcases hsp1 with hu0 | ⟨hu0, hic⟩
    all_goals try (rw [hic] at HIc)
    all_goals
      go_enter Tryz.func28, Tryz.ntmps28
      go_wp2_with (first
        | (go_at_call 52; refine (HMk.out _).mono ?_; rintro e w' ⟨rfl, u, rfl⟩; have hmb := new_blk u.wo #[.int .u8 (ms.toNat : Int), .int .i64 (mz : Int), .int .i64 (mn : Int), .bool mp] 108; have HB2 : Hid (Below u.wo.heap.size u.wo (u.wo.alloc (.cells #[.int .u8 (ms.toNat : Int), .int .i64 (mz : Int), .int .i64 (mn : Int), .bool mp] 108))) := (Below.refl _ _).alloc (Nat.le_refl _) _; have hl2 := blk_below (u.blk HLn.out) HB2.out; have HW2 : Hid (Below lb w (u.wo.alloc (.cells #[.int .u8 (ms.toNat : Int), .int .i64 (mz : Int), .int .i64 (mn : Int), .bool mp] 108))) := (HBU.out u).trans (HB2.out.mono (by have q := (HBU.out u).size; rw [hlbe] at q; exact q)); have k1 := cell_blk hmb (i := 1) rfl; have km0 := fun v : BwW (u.wo.alloc (.cells #[.int .u8 (ms.toNat : Int), .int .i64 (mz : Int), .int .i64 (mn : Int), .bool mp] 108)) => cell_blk (v.blk hmb) (i := 0) rfl; have km1 := fun v : BwW (u.wo.alloc (.cells #[.int .u8 (ms.toNat : Int), .int .i64 (mz : Int), .int .i64 (mn : Int), .bool mp] 108)) => cell_blk (v.blk hmb) (i := 1) rfl; have km2 := fun v : BwW (u.wo.alloc (.cells #[.int .u8 (ms.toNat : Int), .int .i64 (mz : Int), .int .i64 (mn : Int), .bool mp] 108)) => cell_blk (v.blk hmb) (i := 2) rfl; have km3 := fun v : BwW (u.wo.alloc (.cells #[.int .u8 (ms.toNat : Int), .int .i64 (mz : Int), .int .i64 (mn : Int), .bool mp] 108)) => cell_blk (v.blk hmb) (i := 3) rfl; have lm0 := fun v : BwW (u.wo.alloc (.cells #[.int .u8 (ms.toNat : Int), .int .i64 (mz : Int), .int .i64 (mn : Int), .bool mp] 108)) => cell_blk (v.blk hl2) (i := 0) rfl; have lm1 := fun v : BwW (u.wo.alloc (.cells #[.int .u8 (ms.toNat : Int), .int .i64 (mz : Int), .int .i64 (mn : Int), .bool mp] 108)) => cell_blk (v.blk hl2) (i := 1) rfl; simp only [List.getElem_toArray, List.getElem_cons_zero, List.getElem_cons_succ] at k1 km0 km1 km2 km3 lm0 lm1; clear hmb hl2)
        | (go_at_call 37; refine (HRm2.out _ HW2.out).mono ?_; rintro e w' ⟨rfl, v, rfl⟩)
        | (go_at_call 49; refine (HIc2.out _ HW2.out v).mono ?_; rintro e w' ⟨rfl, v, rfl⟩)
        | (go_at_call 34; refine HI0.out.mono ?_; rintro e w' ⟨rfl, u, rfl⟩)
        | (go_at_call 36; refine (HNx.out _).mono ?_; rintro e w' ⟨rfl, u, rfl⟩)
        | (go_at_call 37; refine (HRm.out _).mono ?_; rintro e w' ⟨rfl, u, rfl⟩)
        | (go_at_call 39; refine (HBe.out _).mono ?_; rintro e w' ⟨rfl, u, rfl⟩)
        | (go_at_call 40; refine (HHd.out _).mono ?_; rintro e w' ⟨rfl, u, rfl⟩)
        | (go_at_call 42; refine (HFe.out _).mono ?_; rintro e w' ⟨rfl, u, rfl⟩)
        | (go_at_call 45; refine (HHt.out _).mono ?_; rintro e w' ⟨rfl, u, rfl⟩)
        | (go_at_call 48; refine (HUn.out _).mono ?_; rintro e w' ⟨rfl, u, rfl⟩)
        | (go_at_call 51; refine (HRu.out _).mono ?_; rintro e w' ⟨rfl, u, rfl⟩)
        | (go_at_call 46; refine (HHp.out _).mono ?_; rintro e w' ⟨rfl, u, rfl⟩)
        | (go_at_call 49; refine (HIc.out _).mono ?_; rintro e w' ⟨rfl, u, rfl⟩))
      go_ret
      exact ⟨rfl, HTv.out _ HW2.out _⟩

set_option maxHeartbeats 32000000 in
theorem bbeg_none2 {w : World} {r c n K ht : Nat} {own : Nat → Nat} {B : Nat} {s : St} {σ : Pl} (h : Good w r own B s) (hB : B + K ≤ 549755813888) (hon : 1 ≤ s.on) (hl : LeafLeft s) (hC : Cur w c σ) (hc : own c = 0) (hn : n ≤ B) (hK : 2 ≤ K) (hi : ¬ 3 < indR σ) (hq : (beh σ.1).headD 0 ≠ 62 ∨ s.room = false)
    (hH : ∀ u, Below w.heap.size w u → Calls Tryz.prog 45 #[.string ⟨(beh σ.1).toArray⟩] u fun e w' => e = .returned (.int .i64 (ht : Int)) ∧ Below u.heap.size u w') (hlen : (beh σ.1).length ≤ 549755813888) (hhd : (headL (beh σ.1)).1 = 0) (hfe : (fenceL (beh σ.1)).2.1 = 0) (hht : ht = 0 ∨ (ht = 7 ∧ s.hasPara = true)) (hun : underL (beh σ.1) = 0) (hru : ruleL (beh σ.1) = false) (hsz : 0 < (St.markOf (beh σ.1)).size) (hroom : s.room = true) (hpar : (St.markOf (beh σ.1)).parts = false) (hcl : s.isClose = true) :
    Calls Tryz.prog 28 #[ptrV r, lnV c n] w fun e w' => e = .returned (.int .i64 1) ∧ LeftC w r own c (B + K) s σ w' := by
  have hli := line_blk c n w
  have HB1 : Hid (Below w.heap.size w (w.alloc (.cells #[cptr c, .int .i64 (n : Int)] 63))) := (Below.refl _ _).alloc (Nat.le_refl _) _
  generalize hW : w.alloc (.cells #[cptr c, .int .i64 (n : Int)] 63) = W1 at hli HB1
  have hBU : ∀ u : BwW W1, Below w.heap.size w u.wo := fun u => HB1.out.trans (u.is.mono HB1.out.size)
  have a0 := cell_blk hli (i := 0) rfl
  have l0 := fun u : BwW W1 => cell_blk (u.blk hli) (i := 0) rfl
  have l1 := fun u : BwW W1 => cell_blk (u.blk hli) (i := 1) rfl
  simp only [List.getElem_toArray, List.getElem_cons_zero, List.getElem_cons_succ] at a0 l0 l1
  have HI0 : Hid (Calls Tryz.prog 34 #[cptr c] W1 fun e w' => e = .returned (.int .i64 (indR σ : Int)) ∧ ∃ u : BwW W1, w' = u.wo) := (cur.indent_any (hC.below HB1.out)).mono fun _ w' q => ⟨q.1, BwW.of (Below.refl _ _), q.2⟩
  have HNx : Hid (∀ u : BwW W1, Calls Tryz.prog 36 #[cptr c] u.wo fun e w' => e = .returned (.int .u8 (((beh σ.1).headD 0).toNat : Int)) ∧ ∃ u : BwW W1, w' = u.wo) := fun u => (cur.next_any (hC.below (hBU u))).mono fun _ w' q => ⟨q.1, u, q.2⟩
  have HRm : Hid (∀ u : BwW W1, Calls Tryz.prog 37 #[ptrV r] u.wo fun e w' => e = .returned (.bool s.room) ∧ ∃ u : BwW W1, w' = u.wo) := fun u => (broom_good ((h.clip).below (hBU u)) (by omega)).mono fun _ w' q => ⟨q.1, BwW.of (u.is.trans (q.2.mono u.is.size)), rfl⟩
  have hbz : (beh σ.1).length ≤ 35184372088832 := by have q := hC.wt; unfold wt at q; have q2 := (endC_le σ.1 0).2; omega
  have low : ∀ {f : FuncId} {args : Array Value} {v : Value}, (∀ u, Calls Tryz.prog f args u fun e w' => e = .returned v ∧ Below u.heap.size u w') → ∀ u : BwW W1, Calls Tryz.prog f args u.wo fun e w' => e = .returned v ∧ ∃ u : BwW W1, w' = u.wo := fun q u => (q u.wo).mono fun _ w' q => ⟨q.1, BwW.of (u.is.trans (q.2.mono u.is.size)), rfl⟩
  have HBe : Hid (∀ u : BwW W1, Calls Tryz.prog 39 #[cptr c] u.wo fun e w' => e = .returned (.string ⟨(beh σ.1).toArray⟩) ∧ ∃ u : BwW W1, w' = u.wo) := fun u => (cur.behind_any (hC.below (hBU u))).mono fun _ w' q => ⟨q.1, by obtain ⟨m, e⟩ := q.2; exact ⟨BwW.of (w := u.wo.drewN m) (u.is.trans ⟨rfl, rfl, rfl, Nat.le_refl _, fun _ _ => rfl⟩), e⟩⟩
  have HHd : Hid (∀ u : BwW W1, Calls Tryz.prog 40 #[.string ⟨(beh σ.1).toArray⟩] u.wo fun e w' => e = .returned (headV (headL (beh σ.1))) ∧ ∃ u : BwW W1, w' = u.wo) := fun u => low (fun u => by have q := lheading_any ⟨(beh σ.1).toArray⟩ (by rw [size_list]; omega) u; rw [list_data] at q; exact q) u
  have HFe : Hid (∀ u : BwW W1, Calls Tryz.prog 42 #[.string ⟨(beh σ.1).toArray⟩] u.wo fun e w' => e = .returned (fenceV (fenceL (beh σ.1))) ∧ ∃ u : BwW W1, w' = u.wo) := fun u => low (fun u => by have q := lfence_any ⟨(beh σ.1).toArray⟩ (by rw [size_list]; omega) u; rw [list_data] at q; exact q) u
  have HHt : Hid (∀ u : BwW W1, Calls Tryz.prog 45 #[.string ⟨(beh σ.1).toArray⟩] u.wo fun e w' => e = .returned (.int .i64 (ht : Int)) ∧ ∃ u : BwW W1, w' = u.wo) := fun u => (hH u.wo (hBU u)).mono fun _ w' q => ⟨q.1, BwW.of (u.is.trans (q.2.mono u.is.size)), rfl⟩
  have HUn : Hid (∀ u : BwW W1, Calls Tryz.prog 48 #[.string ⟨(beh σ.1).toArray⟩] u.wo fun e w' => e = .returned (.int .i64 (underL (beh σ.1) : Int)) ∧ ∃ u : BwW W1, w' = u.wo) := fun u => low (fun u => by have q := lunder_any ⟨(beh σ.1).toArray⟩ (by rw [size_list]; omega) u; rw [list_data] at q; exact q) u
  have HRu : Hid (∀ u : BwW W1, Calls Tryz.prog 51 #[.string ⟨(beh σ.1).toArray⟩] u.wo fun e w' => e = .returned (.bool (ruleL (beh σ.1))) ∧ ∃ u : BwW W1, w' = u.wo) := fun u => low (fun u => by have q := lrule_any ⟨(beh σ.1).toArray⟩ (by rw [size_list]; omega) u; rw [list_data] at q; exact q) u
  have HHp : Hid (∀ u : BwW W1, Calls Tryz.prog 46 #[ptrV r] u.wo fun e w' => e = .returned (.bool s.hasPara) ∧ ∃ u : BwW W1, w' = u.wo) := fun u => (bhasPara_good ((h.clip).below (hBU u)) (by omega)).mono fun _ w' q => ⟨q.1, by obtain ⟨m, e⟩ := q.2; exact ⟨BwW.of (w := u.wo.drewN m) (u.is.trans ⟨rfl, rfl, rfl, Nat.le_refl _, fun _ _ => rfl⟩), e⟩⟩
  have HIc : Hid (∀ u : BwW W1, Calls Tryz.prog 49 #[ptrV r] u.wo fun e w' => e = .returned (.bool s.isClose) ∧ ∃ u : BwW W1, w' = u.wo) := fun u => (bisClose_good ((h.clip).below (hBU u)) (by omega)).mono fun _ w' q => ⟨q.1, BwW.of (u.is.trans (q.2.mono u.is.size)), rfl⟩
  have HMk : Hid (∀ u : BwW W1, Calls Tryz.prog 52 #[.string ⟨(beh σ.1).toArray⟩] u.wo fun e w' => e = .returned (mkV (St.markOf (beh σ.1))) ∧ ∃ u : BwW W1, w' = u.wo) := fun u => low (fun u => bmarker_any (beh σ.1) (by omega) u) u
  have HRm2 : Hid (∀ W2, Below w.heap.size w W2 → Calls Tryz.prog 37 #[ptrV r] W2 fun e w' => e = .returned (.bool s.room) ∧ ∃ u : BwW W2, w' = u.wo) := fun W2 q => (broom_good ((h.clip).below q) (by omega)).mono fun _ w' q => ⟨q.1, BwW.of q.2, rfl⟩
  have HIc2 : Hid (∀ W2, Below w.heap.size w W2 → ∀ u : BwW W2, Calls Tryz.prog 49 #[ptrV r] u.wo fun e w' => e = .returned (.bool s.isClose) ∧ ∃ u : BwW W2, w' = u.wo) := fun W2 q u => (bisClose_good ((h.clip).below (q.trans (u.is.mono q.size))) (by omega)).mono fun _ w' q => ⟨q.1, BwW.of (u.is.trans (q.2.mono u.is.size)), rfl⟩
  have hmz : (St.markOf (beh σ.1)).size ≤ 549755813888 := by have := mark_len (beh σ.1); show (markL (beh σ.1)).2.1 ≤ _; omega
  have HTx : Hid (∀ u : BwW W1, ∀ o : Obj, LeftC w r own c (B + K) s σ (u.wo.alloc o)) := fun u o => by
    have q2 := (hBU u).alloc (hBU u).size o
    exact ⟨own, (h.below q2).more (Nat.le_add_right _ _), hC.below q2, Fr.of_below q2, fun _ _ q => q⟩
  have HTv : Hid (∀ W2, Below w.heap.size w W2 → ∀ u : BwW W2, LeftC w r own c (B + K) s σ u.wo) := fun W2 q u => by
    have q2 := q.trans (u.is.mono q.size)
    exact ⟨own, (h.below q2).more (Nat.le_add_right _ _), hC.below q2, Fr.of_below q2, fun _ _ q => q⟩
  have HLn := (show Hid _ from hli)
  have HBU := (show Hid _ from hBU)
  have hi' : ¬ 3 < (indR σ : Int) := by omega
  clear hli h hl hC hBU low hH
  generalize indR σ = ind at *
  have hhd' : ¬ 0 < ((headL (beh σ.1)).1 : Int) := by omega
  generalize headL (beh σ.1) = hd at *
  obtain ⟨lv, tx⟩ := hd
  simp only [headV] at hhd hhd' HHd
  have hfe' : ¬ 0 < ((fenceL (beh σ.1)).2.1 : Int) := by omega
  generalize fenceL (beh σ.1) = fe at *
  obtain ⟨fs, fz, fi⟩ := fe
  simp only [fenceV] at hfe hfe' HFe
  generalize fs.toNat = fsn at *
  have hsp0 : (¬ 0 < (ht : Int)) ∨ ((ht : Int) = 7 ∧ s.hasPara = true) := by
    rcases hht with q | ⟨q, q2⟩
    · left; omega
    · right; exact ⟨by omega, q2⟩
  clear hht
  have hu0 : ¬ 0 < (underL (beh σ.1) : Int) := by omega
  clear hun
  generalize underL (beh σ.1) = ul at *
  rw [hru] at HRu
  have hsz' : 0 < ((St.markOf (beh σ.1)).size : Int) := by omega
  rw [hroom] at HRm2
  rw [hcl] at HIc2
  generalize St.markOf (beh σ.1) = mk at *
  obtain ⟨ms, mz, mn, mp⟩ := mk
  simp only [mkV] at *
  subst hpar
  generalize hlbe : w.heap.size = lb at *
  have hnx : (beh σ.1).headD 0 = 62 ∨ ((((beh σ.1).headD 0).toNat : Int) == 62) = false := by
    rcases Decidable.em ((beh σ.1).headD 0 = 62) with q | q
    · exact .inl q
    · right
      have : ((beh σ.1).headD 0).toNat ≠ 62 := fun e => q (UInt8.toNat_inj.1 e)
      exact beq_eq_false_iff_ne.2 (by omega)
  rcases hnx with hnx | hnx
  · have hrm : s.room = false := by
      rcases hq with q | q
      · exact absurd hnx q
      · exact q
    rw [hroom] at hrm
    cases hrm
  · generalize ((beh σ.1).headD 0).toNat = nx at *
    rcases hsp0 with h70 | ⟨h70, hpa⟩
    all_goals try (rw [hpa] at HHp; rw [h70] at HHt; clear h70)
    all_goals
      go_enter Tryz.func28, Tryz.ntmps28
      go_wp2_with (first
        | (go_at_call 52; refine (HMk.out _).mono ?_; rintro e w' ⟨rfl, u, rfl⟩; have hmb := new_blk u.wo #[.int .u8 (ms.toNat : Int), .int .i64 (mz : Int), .int .i64 (mn : Int), .bool false] 108; have HB2 : Hid (Below u.wo.heap.size u.wo (u.wo.alloc (.cells #[.int .u8 (ms.toNat : Int), .int .i64 (mz : Int), .int .i64 (mn : Int), .bool false] 108))) := (Below.refl _ _).alloc (Nat.le_refl _) _; have hl2 := blk_below (u.blk HLn.out) HB2.out; have HW2 : Hid (Below lb w (u.wo.alloc (.cells #[.int .u8 (ms.toNat : Int), .int .i64 (mz : Int), .int .i64 (mn : Int), .bool false] 108))) := (HBU.out u).trans (HB2.out.mono (by have q := (HBU.out u).size; rw [hlbe] at q; exact q)); have k1 := cell_blk hmb (i := 1) rfl; have km0 := fun v : BwW (u.wo.alloc (.cells #[.int .u8 (ms.toNat : Int), .int .i64 (mz : Int), .int .i64 (mn : Int), .bool false] 108)) => cell_blk (v.blk hmb) (i := 0) rfl; have km1 := fun v : BwW (u.wo.alloc (.cells #[.int .u8 (ms.toNat : Int), .int .i64 (mz : Int), .int .i64 (mn : Int), .bool false] 108)) => cell_blk (v.blk hmb) (i := 1) rfl; have km2 := fun v : BwW (u.wo.alloc (.cells #[.int .u8 (ms.toNat : Int), .int .i64 (mz : Int), .int .i64 (mn : Int), .bool false] 108)) => cell_blk (v.blk hmb) (i := 2) rfl; have km3 := fun v : BwW (u.wo.alloc (.cells #[.int .u8 (ms.toNat : Int), .int .i64 (mz : Int), .int .i64 (mn : Int), .bool false] 108)) => cell_blk (v.blk hmb) (i := 3) rfl; have lm0 := fun v : BwW (u.wo.alloc (.cells #[.int .u8 (ms.toNat : Int), .int .i64 (mz : Int), .int .i64 (mn : Int), .bool false] 108)) => cell_blk (v.blk hl2) (i := 0) rfl; have lm1 := fun v : BwW (u.wo.alloc (.cells #[.int .u8 (ms.toNat : Int), .int .i64 (mz : Int), .int .i64 (mn : Int), .bool false] 108)) => cell_blk (v.blk hl2) (i := 1) rfl; simp only [List.getElem_toArray, List.getElem_cons_zero, List.getElem_cons_succ] at k1 km0 km1 km2 km3 lm0 lm1; clear hmb hl2)
        | (go_at_call 37; refine (HRm2.out _ HW2.out).mono ?_; rintro e w' ⟨rfl, v, rfl⟩)
        | (go_at_call 49; refine (HIc2.out _ HW2.out v).mono ?_; rintro e w' ⟨rfl, v, rfl⟩)
        | (go_at_call 34; refine HI0.out.mono ?_; rintro e w' ⟨rfl, u, rfl⟩)
        | (go_at_call 36; refine (HNx.out _).mono ?_; rintro e w' ⟨rfl, u, rfl⟩)
        | (go_at_call 37; refine (HRm.out _).mono ?_; rintro e w' ⟨rfl, u, rfl⟩)
        | (go_at_call 39; refine (HBe.out _).mono ?_; rintro e w' ⟨rfl, u, rfl⟩)
        | (go_at_call 40; refine (HHd.out _).mono ?_; rintro e w' ⟨rfl, u, rfl⟩)
        | (go_at_call 42; refine (HFe.out _).mono ?_; rintro e w' ⟨rfl, u, rfl⟩)
        | (go_at_call 45; refine (HHt.out _).mono ?_; rintro e w' ⟨rfl, u, rfl⟩)
        | (go_at_call 48; refine (HUn.out _).mono ?_; rintro e w' ⟨rfl, u, rfl⟩)
        | (go_at_call 51; refine (HRu.out _).mono ?_; rintro e w' ⟨rfl, u, rfl⟩)
        | (go_at_call 46; refine (HHp.out _).mono ?_; rintro e w' ⟨rfl, u, rfl⟩)
        | (go_at_call 49; refine (HIc.out _).mono ?_; rintro e w' ⟨rfl, u, rfl⟩))
      go_ret
      exact ⟨rfl, HTv.out _ HW2.out _⟩

end Go.Proofs.YtcbojffcnlkejaaGreatDoor
