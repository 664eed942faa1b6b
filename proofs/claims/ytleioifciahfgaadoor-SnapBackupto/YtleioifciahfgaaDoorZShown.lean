/- What must be in any case: scriptoriumlaw13's shown is true. -/
import Derived.Test.YtleioifciahfgaaDoorZStep
import Derived.Test.YtleioifciahfgaaDoorZDec
import Derived.Test.YtleioifciahfgaaDoorZGetS
import Derived.Test.YtleioifciahfgaaDoorZAs
set_option linter.unusedVariables false
namespace Go.Proofs.YtleioifciahfgaaDoor
open Go.RowKit

set_option maxRecDepth 100000 in
theorem aclRight_none (w : World) : Calls Tryd.prog 27 #[.slice none 0 0] w fun e w' => e = .returned (.bool true) ∧ w' = w := by
  go_enter Tryd.func27, Tryd.ntmps27
  go_wp2
  refine wp_loop_rounds 1 ?_
  rw [rounds_succ]
  go_wp2
  go_ret
  exact ⟨rfl, rfl⟩

set_option maxHeartbeats 1000000 in
set_option maxRecDepth 100000 in
theorem right_none (w : World) : Calls Tryd.prog 21 #[.agg #[.slice none 0 0, .slice none 0 0]] w fun e w' => e = .returned (.bool true) ∧ Below w.heap.size w w' := by
  have hr := aclRight_none
  go_enter Tryd.func21, Tryd.ntmps21
  go_wp2_with (go_at_call 27; refine (hr _).mono ?_; rintro e w' ⟨rfl, rfl⟩)
  refine wp_loop_rounds 1 ?_
  rw [rounds_succ]
  go_wp2
  refine wp_loop_rounds 1 ?_
  rw [rounds_succ]
  go_wp2
  go_ret
  exact ⟨rfl, (Below.refl _ _).alloc (Nat.le_refl _) _⟩

set_option maxHeartbeats 1000000 in
set_option maxRecDepth 100000 in
theorem encode_none (w : World) : Calls Tryd.prog 14 #[.agg #[.slice none 0 0, .slice none 0 0]] w fun e w' => ∃ v, e = .returned (.tuple #[v, .int .i64 0]) ∧ OwnB w' w.heap.size v [83, 0, 0] ∧ Below w.heap.size w w' := by
  have hba : Below w.heap.size w (w.alloc (.cells #[.slice none 0 0, .slice none 0 0] 39)) := (Below.refl _ _).alloc (Nat.le_refl _) _
  have hsa : (w.alloc (.cells #[.slice none 0 0, .slice none 0 0] 39)).heap[w.heap.size]? = some (.cells #[.slice none 0 0, .slice none 0 0] 39 (0, 0)) := new_blk _ _ _
  go_enter Tryd.func14, Tryd.ntmps14
  go_wp2_with (go_at_call 21; refine (right_none _).mono ?_)
  rintro e w1 ⟨rfl, hb1⟩
  have hs1 := blk_below hsa hb1
  have h0 := cell_blk hs1 (i := 0) rfl
  have h1 := cell_blk hs1 (i := 1) rfl
  have hb01 := hba.trans (hb1.mono hba.size)
  have hcs := appendStore_none w1
  go_wp2_with (go_at_call 22; refine hcs.mono ?_)
  rintro e w2 ⟨v, rfl, hown, hb2⟩
  go_wp2
  go_ret2
  exact ⟨_, rfl, own_lower hown hb01.size, hb01.trans (hb2.mono hb01.size)⟩

/-- The library's variable that holds the type error. -/
def EType (w : World) : Prop := w.cell? ⟨0, 0, none⟩ = some (.iface 104 (.agg #[.pointer (some ⟨2, 41, none⟩)]))
theorem EType.pos {w : World} (h : EType w) : 0 < w.heap.size := World.block_lt_of_cell? w _ h
theorem EType.below {w w' : World} (h : EType w) (hb : Below w.heap.size w w') : EType w' := by
  have := hb.cell (p := ⟨0, 0, none⟩) h.pos
  exact this.trans h

set_option maxHeartbeats 1000000 in
set_option maxRecDepth 100000 in
theorem lfault_any (p g : Nat) (w : World) (hG : EType w) (hf : w.heap[g]? = some (.cells #[.int .i64 (p : Int), .int .i64 12] 45 (0, 0))) :
    Calls Tryd.prog 16 #[.iface 52 (.pointer (some ⟨g, 0, none⟩))] w fun e w' => e = .returned (.agg #[.int .i64 (p : Int), .int .i64 12]) ∧ Below w.heap.size w w' := by
  obtain ⟨wa, hwa⟩ : ∃ wa, (w.alloc (.cells #[.int .i64 0, .int .i64 0] 45)).alloc (.cells #[.pointer none] 52) = wa := ⟨_, rfl⟩
  have hba : Below w.heap.size w wa := by rw [← hwa]; exact ((Below.refl _ _).alloc (Nat.le_refl _) _).alloc (by simp) _
  have hGa := hG.below hba
  have hsz : wa.heap.size = w.heap.size + 2 := by rw [← hwa]; simp
  have hra : wa.heap[w.heap.size]? = some (.cells #[.int .i64 0, .int .i64 0] 45 (0, 0)) := by
    have h1 := new_blk w #[.int .i64 0, .int .i64 0] 45
    rw [← hwa]
    exact blk_below h1 ((Below.refl _ _).alloc (Nat.le_refl _) _)
  have hta : wa.heap[w.heap.size + 1]? = some (.cells #[.pointer none] 52 (0, 0)) := by
    have := new_blk (w.alloc (.cells #[.int .i64 0, .int .i64 0] 45)) #[.pointer none] 52
    rw [World.size_alloc] at this
    rw [← hwa]
    exact this
  have hc := as_hit ⟨g, 0, none⟩ ⟨w.heap.size + 1, 0, none⟩ (.pointer none) wa hGa (cell_blk hta (i := 0) rfl) (free_blk hta 0)
  obtain ⟨wb, hwb⟩ : ∃ wb, (((wa.alloc (.cells #[.pointer (some ⟨w.heap.size + 1, 0, none⟩)] 54)).alloc (.cells #[.pointer (some ⟨2, 54, none⟩), .pointer (some ⟨wa.heap.size, 0, none⟩), .int .u64 150] 78)).alloc (.cells #[.pointer (some ⟨2, 54, none⟩), .pointer (some ⟨wa.heap.size, 0, none⟩), .int .u64 150] 78)).alloc (.cells #[.pointer (some ⟨g, 0, none⟩)] 52) = wb := ⟨_, rfl⟩
  have hbb : Below wa.heap.size wa wb := by
    rw [← hwb]
    exact ((((Below.refl _ _).alloc (Nat.le_refl _) _).alloc (by simp) _).alloc (by simp; omega) _).alloc (by simp; omega) _
  rw [hwb] at hc
  have hfa := blk_below (blk_below hf hba) hbb
  have hrb := blk_below hra hbb
  have htb := blk_below hta hbb
  have hglt := lt_of_block hf
  obtain ⟨wc, hwc⟩ : ∃ wc, wb.setCell ⟨w.heap.size + 1, 0, none⟩ (.pointer (some ⟨g, 0, none⟩)) = wc := ⟨_, rfl⟩
  rw [hwc] at hc
  have hfc : wc.heap[g]? = some (.cells #[.int .i64 (p : Int), .int .i64 12] 45 (0, 0)) := by
    rw [← hwc, Below.heap_setCell _ _ _ _ (by simp; omega)]; exact hfa
  have hrc : wc.heap[w.heap.size]? = some (.cells #[.int .i64 0, .int .i64 0] 45 (0, 0)) := by
    rw [← hwc, Below.heap_setCell _ _ _ _ (by simp)]; exact hrb
  have htc : wc.heap[w.heap.size + 1]? = some (.cells #[.pointer (some ⟨g, 0, none⟩)] 52 (0, 0)) := by
    rw [← hwc]
    exact set_blk htb 0 _
  have hbc : Below w.heap.size w wc := by rw [← hwc]; exact below_set (hba.trans (hbb.mono (by omega))) (by omega)
  have f0 := cell_blk hfc (i := 0) rfl
  have f1 := cell_blk hfc (i := 1) rfl
  have r0 := cell_blk hrc (i := 0) rfl
  have r1 := cell_blk hrc (i := 1) rfl
  have t0 := cell_blk htc (i := 0) rfl
  have z0 := free_blk hrc 0
  have z1 := free_blk hrc 1
  clear hwc hwb hfa hrb htb hbb hta hra hGa
  subst hwa
  go_enter Tryd.func16, Tryd.ntmps16
  go_wp2_with (go_at_call 26; refine hc.mono ?_; rintro e w' ⟨rfl, rfl⟩)
  have hs1 := set_blk (set_blk hrc 0 (.int .i64 (p : Int))) 1 (.int .i64 12)
  have s0 := cell_blk hs1 (i := 0) rfl
  have s1 := cell_blk hs1 (i := 1) rfl
  refine bodyPost_ret (v := .agg #[.int .i64 (p : Int), .int .i64 12]) ?_ rfl ⟨rfl, below_set (below_set hbc (Nat.le_refl _)) (Nat.le_refl _)⟩
  simp [results, Tryd.results16, go_sem, s0, s1]

set_option maxHeartbeats 2000000 in
set_option maxRecDepth 100000 in
theorem shown_any (w : World) (hG : EType w) : Calls Tryd.prog 5 #[] w fun e w' => e = .returned (.bool true) ∧ Below w.heap.size w w' := by
  go_enter Tryd.func5, Tryd.ntmps5
  go_wp2_with (go_at_call 14; refine (encode_none w).mono ?_)
  rintro e w1 ⟨v1, rfl, hown1, hb1⟩
  obtain ⟨a1, c1, rfl⟩ := own_slice hown1
  have hbr1 : BRow w1 a1 3 c1 [83, 0, 0] := own_brow hown1
  obtain ⟨wa, hwa⟩ : ∃ wa, w1.alloc (.cells #[.int .u8 83, .int .u8 0] 5) = wa := ⟨_, rfl⟩
  have hba : Below w1.heap.size w1 wa := by rw [← hwa]; exact (Below.refl _ _).alloc (Nat.le_refl _) _
  have hra : BRow wa (some ⟨w1.heap.size, 0, none⟩) 2 2 [83, 0] := by
    refine ⟨rfl, .inr ⟨_, rfl, fun j hj => ?_⟩⟩
    rw [← hwa]
    refine lit_cells w1 [.int .u8 83, .int .u8 0] 5 j _ ?_
    match j, hj with
    | 0, _ => rfl
    | 1, _ => rfl
  have hcd := decode_two ⟨w1.heap.size, 0, none⟩ 2 wa hra (by omega) (by omega)
  subst hwa
  go_wp2_with (go_at_call 15; refine hcd.mono ?_)
  rintro e w2 ⟨v2, rfl, ⟨g, rfl, hg⟩, hb2⟩
  clear hcd
  obtain ⟨w3, hw3⟩ : ∃ w3, (w2.alloc (.cells #[.slice none 0 0, .slice none 0 0] 39)).alloc (.cells #[.int .u8 172, .int .u8 2, .int .u8 9] 5) = w3 := ⟨_, rfl⟩
  have hb3 : Below w2.heap.size w2 w3 := by rw [← hw3]; exact ((Below.refl _ _).alloc (Nat.le_refl _) _).alloc (by simp) _
  have hr3 : BRow w3 (some ⟨w2.heap.size + 1, 0, none⟩) 3 3 [172, 2, 9] := by
    refine ⟨rfl, .inr ⟨_, rfl, fun j hj => ?_⟩⟩
    have hl := lit_cells (w2.alloc (.cells #[.slice none 0 0, .slice none 0 0] 39)) [.int .u8 172, .int .u8 2, .int .u8 9] 5 j
    rw [World.size_alloc] at hl
    rw [← hw3]
    refine hl _ ?_
    match j, hj with
    | 0, _ => rfl
    | 1, _ => rfl
    | 2, _ => rfl
  have hgn : getN 0 0 [172, 2, 9] = (300, 2) := by decide
  have hcn := getnum_any _ 3 3 _ w3 hr3 (by unfold maxLen; omega)
  rw [hgn] at hcn
  have hb02 : Below w.heap.size w w2 := (hb1.trans (hba.mono hb1.size)).trans (hb2.mono (Nat.le_trans hb1.size hba.size))
  have hb03 : Below w.heap.size w w3 := hb02.trans (hb3.mono hb02.size)
  have hb13 : Below w1.heap.size w1 w3 := (hba.trans (hb2.mono hba.size)).trans (hb3.mono (Nat.le_trans hba.size hb2.size))
  have hS1 := (hbr1.below hb13).string
  have hcf := lfault_any 2 g w3 (hG.below hb03) (blk_below hg hb3)
  subst hw3
  go_wp2_with (go_at_call 6; refine hcn.mono ?_; rintro e w' ⟨rfl, rfl⟩)
  go_wp2_with (go_at_call 16; refine hcf.mono ?_)
  rintro e w4 ⟨rfl, hb4⟩
  have hr5 : BRow (w4.alloc (.cells #[.int .u8 1] 5)) (some ⟨w4.heap.size, 0, none⟩) 1 1 [1] := brow_one w4 1 1 rfl 1
  have hp2 : putN (ByteArray.mk #[97, 98]).size = [2] := putN_small (by decide)
  have hcp := putText_any _ 1 1 [1] ⟨#[97, 98]⟩ _ hr5 (by rw [hp2]; decide)
  have hb5 : Below w4.heap.size w4 (w4.alloc (.cells #[.int .u8 1] 5)) := (Below.refl _ _).alloc (Nat.le_refl _) _
  clear hcf hcn hr3
  go_wp2_with (go_at_call 11; refine hcp.mono ?_)
  rintro e w6 ⟨v6, rfl, hown6, hb6⟩
  have e6 : [1] ++ putT (ByteArray.mk #[97, 98]).data.toList = [1, 2, 97, 98] := by
    have hq : putN 2 = [2] := putN_small (by decide)
    simp [putT, hq]
  rw [e6] at hown6
  obtain ⟨a6, c6, rfl⟩ := own_slice hown6
  have hS6 := (show BRow w6 a6 4 c6 [1, 2, 97, 98] from own_brow hown6).string
  go_wp2
  go_ret
  have hbz := hb03.trans (hb4.mono hb03.size)
  have hby := hbz.trans ((hb5.trans (hb6.mono hb5.size)).mono hbz.size)
  exact ⟨rfl, hby⟩
end Go.Proofs.YtleioifciahfgaaDoor
