/- What must be in any case: scriptoriumlaw17's shown is true. -/
import Derived.Test.YtmlihlnigojmpaaDoorWRd8
import Derived.Test.YtmlihlnigojmpaaDoorWPut4
import Derived.Test.YtmlihlnigojmpaaDoorZAs
import Derived.Test.YtmlihlnigojmpaaDoorWPl3
set_option linter.unusedVariables false
namespace Go.Proofs.YtmlihlnigojmpaaDoor
open Go.RowKit

/-- The library's variable that holds the type error. -/
def EType (w : World) : Prop := w.cell? ⟨0, 0, none⟩ = some (.iface 111 (.agg #[.pointer (some ⟨1, 37, none⟩)]))
theorem EType.pos {w : World} (h : EType w) : 0 < w.heap.size := World.block_lt_of_cell? w _ h
theorem EType.below {w w' : World} (h : EType w) (hb : Below w.heap.size w w') : EType w' := by
  have := hb.cell (p := ⟨0, 0, none⟩) h.pos
  exact this.trans h

set_option maxHeartbeats 1000000 in
set_option maxRecDepth 100000 in
theorem lfault_any (p g : Nat) (w : World) (hG : EType w) (hf : w.heap[g]? = some (.cells #[.int .i64 (p : Int), .int .i64 12] 42 (0, 0))) :
    Calls Tryd.prog 16 #[.iface 68 (.pointer (some ⟨g, 0, none⟩))] w fun e w' => e = .returned (.agg #[.int .i64 (p : Int), .int .i64 12]) ∧ Below w.heap.size w w' := by
  obtain ⟨wa, hwa⟩ : ∃ wa, (w.alloc (.cells #[.int .i64 0, .int .i64 0] 42)).alloc (.cells #[.pointer none] 68) = wa := ⟨_, rfl⟩
  have hba : Below w.heap.size w wa := by rw [← hwa]; exact ((Below.refl _ _).alloc (Nat.le_refl _) _).alloc (by simp) _
  have hGa := hG.below hba
  have hsz : wa.heap.size = w.heap.size + 2 := by rw [← hwa]; simp
  have hra : wa.heap[w.heap.size]? = some (.cells #[.int .i64 0, .int .i64 0] 42 (0, 0)) := by
    have h1 := new_blk w #[.int .i64 0, .int .i64 0] 42
    rw [← hwa]
    exact blk_below h1 ((Below.refl _ _).alloc (Nat.le_refl _) _)
  have hta : wa.heap[w.heap.size + 1]? = some (.cells #[.pointer none] 68 (0, 0)) := by
    have := new_blk (w.alloc (.cells #[.int .i64 0, .int .i64 0] 42)) #[.pointer none] 68
    rw [World.size_alloc] at this
    rw [← hwa]
    exact this
  have hc := as_hit ⟨g, 0, none⟩ ⟨w.heap.size + 1, 0, none⟩ (.pointer none) wa hGa (cell_blk hta (i := 0) rfl) (free_blk hta 0)
  obtain ⟨wb, hwb⟩ : ∃ wb, (((wa.alloc (.cells #[.pointer (some ⟨w.heap.size + 1, 0, none⟩)] 70)).alloc (.cells #[.pointer (some ⟨1, 70, none⟩), .pointer (some ⟨wa.heap.size, 0, none⟩), .int .u64 150] 95)).alloc (.cells #[.pointer (some ⟨1, 70, none⟩), .pointer (some ⟨wa.heap.size, 0, none⟩), .int .u64 150] 95)).alloc (.cells #[.pointer (some ⟨g, 0, none⟩)] 68) = wb := ⟨_, rfl⟩
  have hbb : Below wa.heap.size wa wb := by
    rw [← hwb]
    exact ((((Below.refl _ _).alloc (Nat.le_refl _) _).alloc (by simp) _).alloc (by simp; omega) _).alloc (by simp; omega) _
  rw [hwb] at hc
  have hfa := blk_below (blk_below hf hba) hbb
  have hrb := blk_below hra hbb
  have htb := blk_below hta hbb
  have hglt := lt_of_block hf
  obtain ⟨wc, hwc⟩ : ∃ wc, wb.setCell ⟨w.heap.size + 1, 0, none⟩ (.pointer (some ⟨g, 0, none⟩)) = wc := ⟨_, rfl⟩
  rw [hwc] at hc
  have hfc : wc.heap[g]? = some (.cells #[.int .i64 (p : Int), .int .i64 12] 42 (0, 0)) := by
    rw [← hwc, Below.heap_setCell _ _ _ _ (by simp; omega)]; exact hfa
  have hrc : wc.heap[w.heap.size]? = some (.cells #[.int .i64 0, .int .i64 0] 42 (0, 0)) := by
    rw [← hwc, Below.heap_setCell _ _ _ _ (by simp)]; exact hrb
  have htc : wc.heap[w.heap.size + 1]? = some (.cells #[.pointer (some ⟨g, 0, none⟩)] 68 (0, 0)) := by
    rw [← hwc]
    exact set_blk htb 0 _
  have hbc : Below w.heap.size w wc := by rw [← hwc]; exact below_set (hba.trans (hbb.mono (by omega))) (by omega)
  have f0 := cell_blk hfc (i := 0) rfl
  have f1 := cell_blk hfc (i := 1) rfl
  have r0 := cell_blk hrc (i := 0) rfl
  have r1 := cell_blk hrc (i := 1) rfl
  have t0 := cell_blk htc (i := 0) rfl
  have z0 := free_blk hrc 0
  have z1 := free_blk hrc 1
  clear hwc hwb hfa hrb htb hbb hta hra hGa
  subst hwa
  go_enter Tryd.func16, Tryd.ntmps16
  go_wp2_with (go_at_call 41; refine hc.mono ?_; rintro e w' ⟨rfl, rfl⟩)
  have hs1 := set_blk (set_blk hrc 0 (.int .i64 (p : Int))) 1 (.int .i64 12)
  have s0 := cell_blk hs1 (i := 0) rfl
  have s1 := cell_blk hs1 (i := 1) rfl
  refine bodyPost_ret (v := .agg #[.int .i64 (p : Int), .int .i64 12]) ?_ rfl ⟨rfl, below_set (below_set hbc (Nat.le_refl _)) (Nat.le_refl _)⟩
  simp [results, Tryd.results16, go_sem, s0, s1]

/-- The letter that is shown. -/
def ltS : Lt := { k := 2, f := 1, t := 2, tm := 3, i := 0, lt := 0, cm := 0, rd := 0, ok := true, es := [], sx := 0, st := 0, ns := [], da := [] }
theorem ltS_w (w : World) : LtW w ltS ltA0 := by
  refine { es := fun j e h => by simp [ltS] at h, ns := fun j e h => by simp [ltS] at h, da := ⟨rfl, .inl ⟨rfl, rfl, rfl⟩⟩, el := by decide, nl := by decide, dl := by decide, dcl := by decide, rk := ?_, rf := ?_, rt := ?_, rtm := ?_, ri := ?_, rlt := ?_, rcm := ?_, rrd := ?_, rsx := ?_, rst := ?_ } <;> (unfold i64B ltS; decide)
theorem ltS_right : rightB ltS = true := by decide
theorem ltS_enc : encL ltS = [2, 1, 2, 3, 1] := by
  rw [encL_eq, kindL_2 rfl]
  show putN 2 ++ (putN 1 ++ (putN 2 ++ (putN 3 ++ putN 1))) = _
  rw [putN_small (n := 2) (by omega), putN_small (n := 1) (by omega), putN_small (n := 3) (by omega)]
  rfl
theorem dec_29 : decL [2, 9] = .error 1 := by
  have g1 : getN 0 0 (([2, 9] : List UInt8).drop 0) = (2, 1) := by decide
  have g2 : getN 0 0 (([2, 9] : List UInt8).drop 1) = (9, 1) := by decide
  have h1 : rN [2, 9] 5 0 = .ok (2, 1) := by unfold rN; rw [g1, if_neg (by omega)]; rfl
  have h2 : rN [2, 9] 5 1 = .error 1 := by unfold rN; rw [g2, if_pos (by omega)]
  unfold decL
  rw [bindR_ok h1, bindR_error h2]

set_option maxHeartbeats 4000000 in
set_option maxRecDepth 100000 in
theorem shown_any (w : World) (hG : EType w) : Calls Tryd.prog 7 #[] w fun e w' => e = .returned (.bool true) ∧ Below w.heap.size w w' := by
  obtain ⟨w1, hw1⟩ : ∃ w1, w1 = w.alloc (.cells #[.int .i64 2, .int .i64 1, .int .i64 2, .int .i64 3, .int .i64 0, .int .i64 0, .int .i64 0, .int .i64 0, .bool true, .slice none 0 0, .int .i64 0, .int .i64 0, .slice none 0 0, .slice none 0 0] 28) := ⟨_, rfl⟩
  have hb1 : Below w.heap.size w w1 := by rw [hw1]; exact (Below.refl _ w).alloc (Nat.le_refl _) _
  have hk1 : w1.heap[w.heap.size]? = some (.cells #[.int .i64 2, .int .i64 1, .int .i64 2, .int .i64 3, .int .i64 0, .int .i64 0, .int .i64 0, .int .i64 0, .bool true, .slice none 0 0, .int .i64 0, .int .i64 0, .slice none 0 0, .slice none 0 0] 28 (0, 0)) := by rw [hw1]; exact heap_alloc_new _ _
  have HE := encode_any ltS ltA0 (ltS_w w1)
  have HEn : Hid (Calls Tryd.prog 11 #[.agg #[.int .i64 2, .int .i64 1, .int .i64 2, .int .i64 3, .int .i64 0, .int .i64 0, .int .i64 0, .int .i64 0, .bool true, .slice none 0 0, .int .i64 0, .int .i64 0, .slice none 0 0, .slice none 0 0]] w1 fun e w' => Below w1.heap.size w1 w' ∧ ∃ v, e = .returned (.tuple #[v, .int .i64 0]) ∧ OwnB w' w1.heap.size v [2, 1, 2, 3, 1]) := HE.mono fun e w' h => by
    obtain ⟨h1, h2⟩ := h
    rcases h2 with ⟨_, v, h3, h4⟩ | ⟨h3, _⟩
    · rw [ltS_enc] at h4
      exact ⟨h1, v, h3, h4⟩
    · rw [ltS_right] at h3
      cases h3
  have HK : Hid (w1.heap[w.heap.size]? = some (.cells #[.int .i64 2, .int .i64 1, .int .i64 2, .int .i64 3, .int .i64 0, .int .i64 0, .int .i64 0, .int .i64 0, .bool true, .slice none 0 0, .int .i64 0, .int .i64 0, .slice none 0 0, .slice none 0 0] 28 (0, 0)) ∧ Below w.heap.size w w1 ∧ EType w) := ⟨hk1, hb1, hG⟩
  have x0 : w1.cell? ⟨w.heap.size, 0, none⟩ = some (.int .i64 2) := pcell hk1 rfl
  have x1 : w1.cell? ⟨w.heap.size, 1, none⟩ = some (.int .i64 1) := pcell hk1 rfl
  have x2 : w1.cell? ⟨w.heap.size, 2, none⟩ = some (.int .i64 2) := pcell hk1 rfl
  have x3 : w1.cell? ⟨w.heap.size, 3, none⟩ = some (.int .i64 3) := pcell hk1 rfl
  have x4 : w1.cell? ⟨w.heap.size, 4, none⟩ = some (.int .i64 0) := pcell hk1 rfl
  have x5 : w1.cell? ⟨w.heap.size, 5, none⟩ = some (.int .i64 0) := pcell hk1 rfl
  have x6 : w1.cell? ⟨w.heap.size, 6, none⟩ = some (.int .i64 0) := pcell hk1 rfl
  have x7 : w1.cell? ⟨w.heap.size, 7, none⟩ = some (.int .i64 0) := pcell hk1 rfl
  have x8 : w1.cell? ⟨w.heap.size, 8, none⟩ = some (.bool true) := pcell hk1 rfl
  have x9 : w1.cell? ⟨w.heap.size, 9, none⟩ = some (.slice none 0 0) := pcell hk1 rfl
  have x10 : w1.cell? ⟨w.heap.size, 10, none⟩ = some (.int .i64 0) := pcell hk1 rfl
  have x11 : w1.cell? ⟨w.heap.size, 11, none⟩ = some (.int .i64 0) := pcell hk1 rfl
  have x12 : w1.cell? ⟨w.heap.size, 12, none⟩ = some (.slice none 0 0) := pcell hk1 rfl
  have x13 : w1.cell? ⟨w.heap.size, 13, none⟩ = some (.slice none 0 0) := pcell hk1 rfl
  clear HE hb1 hk1 hG
  go_enter Tryd.func7, Tryd.ntmps7
  go_upto_region 2 with fail
  rw [← hw1]
  clear hw1
  go_wp2_with (fail)
  refine HEn.out.mono ?_
  rintro e w2 ⟨hb2, v2, rfl, hown2⟩
  obtain ⟨a2, c2, hv2⟩ := own_slice hown2
  subst hv2
  have hrow2 : BRow w2 a2 5 c2 [2, 1, 2, 3, 1] := own_brow hown2
  obtain ⟨w3, hw3⟩ : ∃ w3, w3 = w2.alloc (.cells #[.int .u8 2, .int .u8 9] 5) := ⟨_, rfl⟩
  have hb3 : Below w2.heap.size w2 w3 := by rw [hw3]; exact (Below.refl _ w2).alloc (Nat.le_refl _) _
  have hr3 : BRow w3 (some ⟨w2.heap.size, 0, none⟩) 2 2 [2, 9] := by
    refine ⟨rfl, .inr ⟨_, rfl, fun j hj => ?_⟩⟩
    rw [hw3]
    refine lit_cells w2 [.int .u8 2, .int .u8 9] 5 j _ ?_
    match j, hj with
    | 0, _ => rfl
    | 1, _ => rfl
  have hD := decode_any (w := w3) (a := some ⟨w2.heap.size, 0, none⟩) (len := 2) (cap := 2) ⟨hr3, by omega, by omega, by omega⟩
  rw [dec_29] at hD
  have HD : Hid (Calls Tryd.prog 14 #[.slice (some ⟨w2.heap.size, 0, none⟩) 2 2] w3 fun e w' => ∃ v, e = .returned (.tuple #[.agg #[.int .i64 0, .int .i64 0, .int .i64 0, .int .i64 0, .int .i64 0, .int .i64 0, .int .i64 0, .int .i64 0, .bool false, .slice none 0 0, .int .i64 0, .int .i64 0, .slice none 0 0, .slice none 0 0], v]) ∧ FltB w' v 1 ∧ Below w3.heap.size w3 w') := hD.mono fun e w' h => by
    obtain ⟨h1, v, h2, h3⟩ := h
    exact ⟨v, h2, h3, h1⟩
  have H2 : Hid (BRow w2 a2 5 c2 [2, 1, 2, 3, 1] ∧ Below w1.heap.size w1 w2 ∧ Below w2.heap.size w2 w3) := ⟨hrow2, hb2, hb3⟩
  clear HEn hb2 hown2 hrow2 hb3 hr3 hD x0 x1 x2 x3 x4 x5 x6 x7 x8 x9 x10 x11 x12 x13
  go_wp2_with (first | (rw [← hw3]; fail) | fail)
  all_goals (try rw [← hw3])
  refine HD.out.mono ?_
  rintro e w4 ⟨v4, rfl, ⟨g, rfl, hg⟩, hb4⟩
  clear hw3
  obtain ⟨w5, hw5⟩ : ∃ w5, w5 = w4.alloc (.cells #[.int .i64 0, .int .i64 0, .int .i64 0, .int .i64 0, .int .i64 0, .int .i64 0, .int .i64 0, .int .i64 0, .bool false, .slice none 0 0, .int .i64 0, .int .i64 0, .slice none 0 0, .slice none 0 0] 28) := ⟨_, rfl⟩
  have hb5 : Below w4.heap.size w4 w5 := by rw [hw5]; exact (Below.refl _ w4).alloc (Nat.le_refl _) _
  have hb24 : Below w2.heap.size w2 w4 := H2.out.2.2.trans (hb4.mono H2.out.2.2.size)
  have hb25 : Below w2.heap.size w2 w5 := hb24.trans (hb5.mono hb24.size)
  have hb15 : Below w1.heap.size w1 w5 := H2.out.2.1.trans (hb25.mono H2.out.2.1.size)
  have hbw5 : Below w.heap.size w w5 := HK.out.2.1.trans (hb15.mono HK.out.2.1.size)
  have hst := (H2.out.1.below hb25).string
  have hR := right_any ltS ltA0 (ltS_w w5)
  rw [ltS_right] at hR
  have HR : Hid (Calls Tryd.prog 12 #[.agg #[.int .i64 2, .int .i64 1, .int .i64 2, .int .i64 3, .int .i64 0, .int .i64 0, .int .i64 0, .int .i64 0, .bool true, .slice none 0 0, .int .i64 0, .int .i64 0, .slice none 0 0, .slice none 0 0]] w5 fun e w' => e = .returned (.bool true) ∧ Below w5.heap.size w5 w') := hR
  have HX : Hid (Below w.heap.size w w5 ∧ w5.heap[g]? = some (.cells #[.int .i64 ((1 : Nat) : Int), .int .i64 12] 42 (0, 0)) ∧ EType w5) := ⟨hbw5, blk_below hg hb5, HK.out.2.2.below hbw5⟩
  have x0 : w5.cell? ⟨w.heap.size, 0, none⟩ = some (.int .i64 2) := lt_cell HK.out.1 hb15 rfl
  have x1 : w5.cell? ⟨w.heap.size, 1, none⟩ = some (.int .i64 1) := lt_cell HK.out.1 hb15 rfl
  have x2 : w5.cell? ⟨w.heap.size, 2, none⟩ = some (.int .i64 2) := lt_cell HK.out.1 hb15 rfl
  have x3 : w5.cell? ⟨w.heap.size, 3, none⟩ = some (.int .i64 3) := lt_cell HK.out.1 hb15 rfl
  have x4 : w5.cell? ⟨w.heap.size, 4, none⟩ = some (.int .i64 0) := lt_cell HK.out.1 hb15 rfl
  have x5 : w5.cell? ⟨w.heap.size, 5, none⟩ = some (.int .i64 0) := lt_cell HK.out.1 hb15 rfl
  have x6 : w5.cell? ⟨w.heap.size, 6, none⟩ = some (.int .i64 0) := lt_cell HK.out.1 hb15 rfl
  have x7 : w5.cell? ⟨w.heap.size, 7, none⟩ = some (.int .i64 0) := lt_cell HK.out.1 hb15 rfl
  have x8 : w5.cell? ⟨w.heap.size, 8, none⟩ = some (.bool true) := lt_cell HK.out.1 hb15 rfl
  have x9 : w5.cell? ⟨w.heap.size, 9, none⟩ = some (.slice none 0 0) := lt_cell HK.out.1 hb15 rfl
  have x10 : w5.cell? ⟨w.heap.size, 10, none⟩ = some (.int .i64 0) := lt_cell HK.out.1 hb15 rfl
  have x11 : w5.cell? ⟨w.heap.size, 11, none⟩ = some (.int .i64 0) := lt_cell HK.out.1 hb15 rfl
  have x12 : w5.cell? ⟨w.heap.size, 12, none⟩ = some (.slice none 0 0) := lt_cell HK.out.1 hb15 rfl
  have x13 : w5.cell? ⟨w.heap.size, 13, none⟩ = some (.slice none 0 0) := lt_cell HK.out.1 hb15 rfl
  clear HD hg hb4 hb5 hb24 hb25 hb15 hbw5 hR H2
  go_upto_region 4 with fail
  rw [← hw5]
  clear hw5
  go_wp2_with (fail)
  refine HR.out.mono ?_
  rintro e w6 ⟨rfl, hb6⟩
  have hf := lfault_any 1 g w6 (HX.out.2.2.below hb6) (blk_below HX.out.2.1 hb6)
  have HF : Hid (Calls Tryd.prog 16 #[.iface 68 (.pointer (some ⟨g, 0, none⟩))] w6 fun e w' => e = .returned (.agg #[.int .i64 ((1 : Nat) : Int), .int .i64 12]) ∧ Below w6.heap.size w6 w') := hf
  have HB : Hid (Below w.heap.size w w6) := HX.out.1.trans (hb6.mono HX.out.1.size)
  clear HR hb6 hf hst x0 x1 x2 x3 x4 x5 x6 x7 x8 x9 x10 x11 x12 x13
  go_wp2_with (fail)
  refine HF.out.mono ?_
  rintro e w7 ⟨rfl, hb7⟩
  have HB7 : Hid (Below w.heap.size w w7) := HB.out.trans (hb7.mono HB.out.size)
  clear HF hb7
  go_wp2
  go_ret
  exact ⟨rfl, HB7.out⟩
end Go.Proofs.YtmlihlnigojmpaaDoor
