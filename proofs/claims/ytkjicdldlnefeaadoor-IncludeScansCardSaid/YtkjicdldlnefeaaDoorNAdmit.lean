/- admit (include); walked. -/
import Derived.Test.YtkjicdldlnefeaaDoorNFind
set_option linter.unusedVariables false
namespace Go.Proofs.YtkjicdldlnefeaaDoor
open Go.RowKit

/-- The worlds in which all is as it was below a world's end. -/
def BwN (w0 : World) : Type := { u : World // Below w0.heap.size w0 u }
def BwN.of {w0 w : World} (h : Below w0.heap.size w0 w) : BwN w0 := ⟨w, h⟩
def BwN.wo {w0 : World} (u : BwN w0) : World := u.1
theorem BwN.is {w0 : World} (u : BwN w0) : Below w0.heap.size w0 u.wo := u.2
theorem BwN.first (w0 : World) : ∃ u : BwN w0, w0.drew = u.wo := ⟨BwN.of (w := w0.drew) ⟨rfl, rfl, rfl, Nat.le_refl _, fun _ _ => rfl⟩, rfl⟩
theorem BwN.some (w0 : World) : Nonempty (BwN w0) := ⟨BwN.of (Below.refl _ _)⟩
theorem region_classN {P : Program} {id : Nat} {Q : Exit → Act → World → Prop} {a : Act} {w : World} {l : List Oper} (C : World → Prop) (hm : P.follows .mixedOrders = true) (hB : Region.lexB .any l.toArray = true) (hC : C w.drew)
    (h : wpQuiet P l.toArray C (fun a' => ∀ w', C w' → Q .normal a' w') l a) : (Code.region id l.toArray true).wp P Q a w :=
  wp_region_quiet (C := C) hm hB hC (by simpa using h)

set_option maxHeartbeats 8000000 in
set_option maxRecDepth 8000 in
theorem nadmit_any (pages : List PgA) (hl : pages.length ≤ 9223372036854775000) (may : List StrA) (hm : may.length ≤ 9223372036854775000) (r0 : RfA) (chain : List RfA) (hch : chain.length ≤ 100) (takes : Nat) (xb : Nat) (vp vm vc : Value) (w : World) (hx0 : w.cell? ⟨xb, 0, none⟩ = some vp) (hx1 : w.cell? ⟨xb, 1, none⟩ = some vm) (hx4 : w.cell? ⟨xb, 4, none⟩ = some (.int .i64 (takes : Int))) (hxb : xb < w.heap.size) (hv : PgsN w vp pages) (hvm : StrsN w vm may) (hvc : RfsN w vc chain) : Calls Tryd.prog 45 #[.pointer (some ⟨xb, 0, none⟩), aggR r0, vc] w fun e w' => e = .returned (.tuple #[aggP (admitA pages may r0 chain takes).1, .int .i64 (admitA pages may r0 chain takes).2]) ∧ Below w.heap.size w w' := by
  have HF0 : Hid (∀ u, Below w.heap.size w u → Calls Tryd.prog 60 #[.pointer (some ⟨xb, 0, none⟩), aggR r0] u fun e w' => e = .returned (.tuple #[aggP (findA pages r0).1, .bool (findA pages r0).2]) ∧ Below u.heap.size u w') := fun u hu => nfind_any pages hl r0 xb vp u ((hu.cell (p := ⟨xb, 0, none⟩) hxb).trans hx0) (Nat.lt_of_lt_of_le hxb hu.size) (hv.below hu)
  have HM : Hid (∀ u, Below w.heap.size w u → Calls Tryd.prog 59 #[vm, strA r0.tenant] u fun e w' => e = .returned (.bool (hasS may r0.tenant)) ∧ w' = u) := fun u hu => ncontS_any may r0.tenant hm vm u (hvm.below hu)
  have HCh0 : Hid (∀ u, Below w.heap.size w u → Calls Tryd.prog 61 #[vc, aggR (findA pages r0).1.ref] u fun e w' => e = .returned (.bool (hasR chain (findA pages r0).1.ref)) ∧ Below u.heap.size u w') := fun u hu => ncontR_any chain _ (by omega) vc u (hvc.below hu)
  have HR : Hid (admitA pages may r0 chain takes = if hasS may r0.tenant = false then ({}, 6) else if (findA pages r0).2 = false then ({}, 5) else if hasR chain (findA pages r0).1.ref = true then ({}, 3) else if 8 < chain.length then ({}, 4) else if 256 ≤ takes then ({}, 7) else ((findA pages r0).1, 0)) := rfl
  generalize admitA pages may r0 chain takes = RES at *
  obtain ⟨t, d, v⟩ := r0
  simp only at HM HR
  generalize hasS may t = BM at *
  generalize findA pages ⟨t, d, v⟩ = FP at *
  obtain ⟨⟨⟨pt, pd, pv⟩, px⟩, BF⟩ := FP
  simp only at HR HCh0
  generalize hasR chain ⟨pt, pd, pv⟩ = BC at *
  have HF : Hid (∀ u, Below w.heap.size w u → Calls Tryd.prog 60 #[.pointer (some ⟨xb, 0, none⟩), .agg #[strA t, strA d, .int .i64 v]] u fun e w' => e = .returned (.tuple #[.agg #[strA pt, strA pd, .int .i64 pv, strA px], .bool BF]) ∧ Below u.heap.size u w') := HF0
  have HCh : Hid (∀ u, Below w.heap.size w u → Calls Tryd.prog 61 #[vc, .agg #[strA pt, strA pd, .int .i64 pv]] u fun e w' => e = .returned (.bool BC) ∧ Below u.heap.size u w') := HCh0
  have HX1 : Hid (∀ u, Below w.heap.size w u → u.cell? ⟨xb, 1, none⟩ = some vm) := fun u hu => (hu.cell (p := ⟨xb, 1, none⟩) hxb).trans hx1
  have HX4 : Hid (∀ u, Below w.heap.size w u → u.cell? ⟨xb, 4, none⟩ = some (.int .i64 (takes : Int))) := fun u hu => (hu.cell (p := ⟨xb, 4, none⟩) hxb).trans hx4
  obtain ⟨ac, cc, rfl, _⟩ := hvc
  obtain ⟨am, cm, rfl, _⟩ := hvm
  clear HF0 HCh0 hv hx0 hx1 hx4 hl hm
  show Calls Tryd.prog 45 #[.pointer (some ⟨xb, 0, none⟩), .agg #[strA t, strA d, .int .i64 v], .slice ac chain.length cc] w fun e w' => e = .returned (.tuple #[aggP RES.1, .int .i64 RES.2]) ∧ Below w.heap.size w w'
  obtain ⟨W1, hW1⟩ : ∃ W1, W1 = w.alloc (.cells #[strA t, strA d, .int .i64 v] 24) := ⟨_, rfl⟩
  have hs1 : W1.heap.size = w.heap.size + 1 := by rw [hW1]; simp
  obtain ⟨W2, hW2⟩ : ∃ W2, W2 = W1.alloc (.cells #[.string ⟨#[]⟩, .string ⟨#[]⟩, .int .i64 0, .string ⟨#[]⟩] 38) := ⟨_, rfl⟩
  have HB1 : Hid (Below w.heap.size w W1) := by show Below _ _ _; rw [hW1]; exact (Below.refl _ _).alloc (Nat.le_refl _) _
  have HB2 : Hid (Below w.heap.size w W2) := by show Below _ _ _; rw [hW2]; exact HB1.out.alloc HB1.out.size _
  have HK1 : Hid (W2.heap[w.heap.size]? = some (.cells #[strA t, strA d, .int .i64 v] 24 (0, 0))) := by show _ = _; rw [hW2]; refine blk_allocN ?_ _; rw [hW1]; exact blk_newN _ _ _
  have HK2 : Hid (W2.heap[w.heap.size + 1]? = some (.cells #[.string ⟨#[]⟩, .string ⟨#[]⟩, .int .i64 0, .string ⟨#[]⟩] 38 (0, 0))) := by show _ = _; rw [hW2, ← hs1]; exact blk_newN _ _ _
  have x1 : ∀ u : BwN W2, u.wo.cell? ⟨xb, 1, none⟩ = some (.slice am may.length cm) := fun u => HX1.out u.wo (HB2.out.trans (u.is.mono HB2.out.size))
  have y0 : ∀ u : BwN W2, u.wo.cell? ⟨w.heap.size, 0, none⟩ = some (strA t) := fun u => cell_blkN (blk_belowN HK1.out u.is) (i := 0) rfl
  have HMj : Hid (∀ u : BwN W2, Calls Tryd.prog 59 #[.slice am may.length cm, strA t] u.wo fun e w' => e = .returned (.bool BM) ∧ ∃ u' : BwN W2, w' = u'.wo) := fun u => (HM.out u.wo (HB2.out.trans (u.is.mono HB2.out.size))).mono fun e w' q => ⟨q.1, u, q.2⟩
  clear HM HX1 HB1 hs1
  go_enter Tryd.func45, Tryd.ntmps45
  go_wp2
  rw [← hW1, ← hW2]
  refine region_classN (fun w' => ∃ u : BwN W2, w' = u.wo) (by kernel_rfl) (by kernel_rfl) (BwN.first W2) ?_
  haveI := BwN.some W2
  repeat (go_big_quiet_step (first | (go_at_call 59; exact HMj.out _) | exact rfl))
  refine wpQuiet_nil ?_
  intro w3 hw3
  obtain ⟨U3, hu3⟩ := hw3
  subst hu3
  have HB3 := (show Hid (Below W2.heap.size W2 U3.wo) from U3.is)
  clear x1 y0 HMj hW1 hW2
  generalize U3.wo = wa3 at *
  have HBw3 := (show Hid (Below w.heap.size w wa3) from HB2.out.trans (HB3.out.mono HB2.out.size))
  cases BM
  · have HS := (show Hid (RES = ({}, 6)) from by show _ = _; rw [HR.out]; simp)
    clear HR HF HCh HX4
    have hk := blk_belowN HK2.out HB3.out
    have f0 : wa3.frozen? ⟨w.heap.size + 1, 0, none⟩ = false := free_blkN hk 0
    have f1 : wa3.frozen? ⟨w.heap.size + 1, 1, none⟩ = false := free_blkN hk 1
    have f2 : wa3.frozen? ⟨w.heap.size + 1, 2, none⟩ = false := free_blkN hk 2
    have f3 : wa3.frozen? ⟨w.heap.size + 1, 3, none⟩ = false := free_blkN hk 3
    have k0 := cell_blkN hk (i := 0) (v := .string ⟨#[]⟩) rfl
    have k1 := cell_blkN hk (i := 1) (v := .string ⟨#[]⟩) rfl
    have k2 := cell_blkN hk (i := 2) (v := .int .i64 0) rfl
    have k3 := cell_blkN hk (i := 3) (v := .string ⟨#[]⟩) rfl
    have HK := (show Hid _ from hk)
    clear hk
    go_wp2
    (try simp only [Exit.inBlock, Exit.then])
    have hB3 := set_blkN (set_blkN (set_blkN (set_blkN HK.out 0 (.string ⟨#[]⟩)) 1 (.string ⟨#[]⟩)) 2 (.int .i64 0)) 3 (.string ⟨#[]⟩)
    have d0 := cell_blkN hB3 (i := 0) (v := .string ⟨#[]⟩) rfl
    have d1 := cell_blkN hB3 (i := 1) (v := .string ⟨#[]⟩) rfl
    have d2 := cell_blkN hB3 (i := 2) (v := .int .i64 0) rfl
    have d3 := cell_blkN hB3 (i := 3) (v := .string ⟨#[]⟩) rfl
    refine bodyPost_ret (v := .tuple #[.agg #[.string ⟨#[]⟩, .string ⟨#[]⟩, .int .i64 0, .string ⟨#[]⟩], .int .i64 6]) ?_ rfl ⟨?_, ?_⟩
    · rw [results_cell_tmp rfl]
      go_simp
    · rw [HS.out]
    · exact ((((HB2.out.trans (HB3.out.mono HB2.out.size)).setCell (Nat.le_succ _) _).setCell (Nat.le_succ _) _).setCell (Nat.le_succ _) _).setCell (Nat.le_succ _) _
  have y0 : wa3.cell? ⟨w.heap.size, 0, none⟩ = some (strA t) := cell_blkN (blk_belowN HK1.out HB3.out) (i := 0) rfl
  have y1 : wa3.cell? ⟨w.heap.size, 1, none⟩ = some (strA d) := cell_blkN (blk_belowN HK1.out HB3.out) (i := 1) rfl
  have y2 : wa3.cell? ⟨w.heap.size, 2, none⟩ = some (.int .i64 v) := cell_blkN (blk_belowN HK1.out HB3.out) (i := 2) rfl
  go_wp2_with (go_at_call 60; refine Calls.mono (HF.out _ HBw3.out) ?_)
  rintro e wa4 ⟨rfl, hb4⟩
  obtain ⟨W5, hW5⟩ : ∃ W5, W5 = wa4.alloc (.cells #[strA pt, strA pd, .int .i64 pv, strA px] 38) := ⟨_, rfl⟩
  have HB5 : Hid (Below W2.heap.size W2 W5) := by
    show Below _ _ _
    rw [hW5]
    have q := HB3.out.trans (hb4.mono HB3.out.size)
    exact q.alloc q.size _
  have HBw5 := (show Hid (Below w.heap.size w W5) from HB2.out.trans (HB5.out.mono HB2.out.size))
  have HKp : Hid (W5.heap[wa4.heap.size]? = some (.cells #[strA pt, strA pd, .int .i64 pv, strA px] 38 (0, 0))) := by show _ = _; rw [hW5]; exact blk_newN _ _ _
  clear y0 y1 y2 hb4 HF HB3 HBw3
  cases BF
  · have HS := (show Hid (RES = ({}, 5)) from by show _ = _; rw [HR.out]; simp)
    clear HR HCh HX4
    have hk := blk_belowN HK2.out HB5.out
    have f0 : W5.frozen? ⟨w.heap.size + 1, 0, none⟩ = false := free_blkN hk 0
    have f1 : W5.frozen? ⟨w.heap.size + 1, 1, none⟩ = false := free_blkN hk 1
    have f2 : W5.frozen? ⟨w.heap.size + 1, 2, none⟩ = false := free_blkN hk 2
    have f3 : W5.frozen? ⟨w.heap.size + 1, 3, none⟩ = false := free_blkN hk 3
    have k0 := cell_blkN hk (i := 0) (v := .string ⟨#[]⟩) rfl
    have k1 := cell_blkN hk (i := 1) (v := .string ⟨#[]⟩) rfl
    have k2 := cell_blkN hk (i := 2) (v := .int .i64 0) rfl
    have k3 := cell_blkN hk (i := 3) (v := .string ⟨#[]⟩) rfl
    have HK := (show Hid _ from hk)
    clear hk
    rw [hW5] at f0 f1 f2 f3 k0 k1 k2 k3
    go_wp2
    rw [← hW5]
    (try simp only [Exit.inBlock, Exit.then])
    have hB3 := set_blkN (set_blkN (set_blkN (set_blkN HK.out 0 (.string ⟨#[]⟩)) 1 (.string ⟨#[]⟩)) 2 (.int .i64 0)) 3 (.string ⟨#[]⟩)
    have d0 := cell_blkN hB3 (i := 0) (v := .string ⟨#[]⟩) rfl
    have d1 := cell_blkN hB3 (i := 1) (v := .string ⟨#[]⟩) rfl
    have d2 := cell_blkN hB3 (i := 2) (v := .int .i64 0) rfl
    have d3 := cell_blkN hB3 (i := 3) (v := .string ⟨#[]⟩) rfl
    refine bodyPost_ret (v := .tuple #[.agg #[.string ⟨#[]⟩, .string ⟨#[]⟩, .int .i64 0, .string ⟨#[]⟩], .int .i64 5]) ?_ rfl ⟨?_, ?_⟩
    · rw [results_cell_tmp rfl]
      go_simp
    · rw [HS.out]
    · exact ((((HB2.out.trans (HB5.out.mono HB2.out.size)).setCell (Nat.le_succ _) _).setCell (Nat.le_succ _) _).setCell (Nat.le_succ _) _).setCell (Nat.le_succ _) _
  have HBw5' := (show Hid (Below w.heap.size w (wa4.alloc (.cells #[strA pt, strA pd, .int .i64 pv, strA px] 38))) from by have := HBw5.out; rw [hW5] at this; exact this)
  go_wp2_with (go_at_call 61; refine Calls.mono (HCh.out _ HBw5'.out) ?_)
  rw [← hW5]
  rintro e wa6 ⟨rfl, hb6⟩
  have HB6 := (show Hid (Below W2.heap.size W2 wa6) from HB5.out.trans (hb6.mono HB5.out.size))
  have HBw6 := (show Hid (Below w.heap.size w wa6) from HB2.out.trans (HB6.out.mono HB2.out.size))
  have HKp6 := (show Hid _ from blk_belowN HKp.out hb6)
  clear hb6 HCh HBw5' HBw5 HB5 HKp hW5
  cases BC
  case true =>
    have HS := (show Hid (RES = ({}, 3)) from by show _ = _; rw [HR.out]; simp)
    clear HR HX4
    have hk := blk_belowN HK2.out HB6.out
    have f0 : wa6.frozen? ⟨w.heap.size + 1, 0, none⟩ = false := free_blkN hk 0
    have f1 : wa6.frozen? ⟨w.heap.size + 1, 1, none⟩ = false := free_blkN hk 1
    have f2 : wa6.frozen? ⟨w.heap.size + 1, 2, none⟩ = false := free_blkN hk 2
    have f3 : wa6.frozen? ⟨w.heap.size + 1, 3, none⟩ = false := free_blkN hk 3
    have k0 := cell_blkN hk (i := 0) (v := .string ⟨#[]⟩) rfl
    have k1 := cell_blkN hk (i := 1) (v := .string ⟨#[]⟩) rfl
    have k2 := cell_blkN hk (i := 2) (v := .int .i64 0) rfl
    have k3 := cell_blkN hk (i := 3) (v := .string ⟨#[]⟩) rfl
    have HK := (show Hid _ from hk)
    clear hk
    go_wp2
    (try simp only [Exit.inBlock, Exit.then])
    have hB3 := set_blkN (set_blkN (set_blkN (set_blkN HK.out 0 (.string ⟨#[]⟩)) 1 (.string ⟨#[]⟩)) 2 (.int .i64 0)) 3 (.string ⟨#[]⟩)
    have d0 := cell_blkN hB3 (i := 0) (v := .string ⟨#[]⟩) rfl
    have d1 := cell_blkN hB3 (i := 1) (v := .string ⟨#[]⟩) rfl
    have d2 := cell_blkN hB3 (i := 2) (v := .int .i64 0) rfl
    have d3 := cell_blkN hB3 (i := 3) (v := .string ⟨#[]⟩) rfl
    refine bodyPost_ret (v := .tuple #[.agg #[.string ⟨#[]⟩, .string ⟨#[]⟩, .int .i64 0, .string ⟨#[]⟩], .int .i64 3]) ?_ rfl ⟨?_, ?_⟩
    · rw [results_cell_tmp rfl]
      go_simp
    · rw [HS.out]
    · exact ((((HB2.out.trans (HB6.out.mono HB2.out.size)).setCell (Nat.le_succ _) _).setCell (Nat.le_succ _) _).setCell (Nat.le_succ _) _).setCell (Nat.le_succ _) _
  by_cases h8 : 8 < chain.length
  · have h8i : (8 : Int) < (chain.length : Int) := by omega
    have HS := (show Hid (RES = ({}, 4)) from by show _ = _; rw [HR.out]; simp [h8])
    clear HR HX4
    have hk := blk_belowN HK2.out HB6.out
    have f0 : wa6.frozen? ⟨w.heap.size + 1, 0, none⟩ = false := free_blkN hk 0
    have f1 : wa6.frozen? ⟨w.heap.size + 1, 1, none⟩ = false := free_blkN hk 1
    have f2 : wa6.frozen? ⟨w.heap.size + 1, 2, none⟩ = false := free_blkN hk 2
    have f3 : wa6.frozen? ⟨w.heap.size + 1, 3, none⟩ = false := free_blkN hk 3
    have k0 := cell_blkN hk (i := 0) (v := .string ⟨#[]⟩) rfl
    have k1 := cell_blkN hk (i := 1) (v := .string ⟨#[]⟩) rfl
    have k2 := cell_blkN hk (i := 2) (v := .int .i64 0) rfl
    have k3 := cell_blkN hk (i := 3) (v := .string ⟨#[]⟩) rfl
    have HK := (show Hid _ from hk)
    clear hk
    go_wp2
    (try simp only [Exit.inBlock, Exit.then])
    have hB3 := set_blkN (set_blkN (set_blkN (set_blkN HK.out 0 (.string ⟨#[]⟩)) 1 (.string ⟨#[]⟩)) 2 (.int .i64 0)) 3 (.string ⟨#[]⟩)
    have d0 := cell_blkN hB3 (i := 0) (v := .string ⟨#[]⟩) rfl
    have d1 := cell_blkN hB3 (i := 1) (v := .string ⟨#[]⟩) rfl
    have d2 := cell_blkN hB3 (i := 2) (v := .int .i64 0) rfl
    have d3 := cell_blkN hB3 (i := 3) (v := .string ⟨#[]⟩) rfl
    refine bodyPost_ret (v := .tuple #[.agg #[.string ⟨#[]⟩, .string ⟨#[]⟩, .int .i64 0, .string ⟨#[]⟩], .int .i64 4]) ?_ rfl ⟨?_, ?_⟩
    · rw [results_cell_tmp rfl]
      go_simp
    · rw [HS.out]
    · exact ((((HB2.out.trans (HB6.out.mono HB2.out.size)).setCell (Nat.le_succ _) _).setCell (Nat.le_succ _) _).setCell (Nat.le_succ _) _).setCell (Nat.le_succ _) _
  have h8i : ¬ (8 : Int) < (chain.length : Int) := by omega
  have z4 : wa6.cell? ⟨xb, 4, none⟩ = some (.int .i64 (takes : Int)) := HX4.out wa6 HBw6.out
  by_cases h256 : 256 ≤ takes
  · have h256i : (256 : Int) ≤ (takes : Int) := by omega
    have HS := (show Hid (RES = ({}, 7)) from by show _ = _; rw [HR.out]; simp [h8, h256])
    clear HR HX4
    have hk := blk_belowN HK2.out HB6.out
    have f0 : wa6.frozen? ⟨w.heap.size + 1, 0, none⟩ = false := free_blkN hk 0
    have f1 : wa6.frozen? ⟨w.heap.size + 1, 1, none⟩ = false := free_blkN hk 1
    have f2 : wa6.frozen? ⟨w.heap.size + 1, 2, none⟩ = false := free_blkN hk 2
    have f3 : wa6.frozen? ⟨w.heap.size + 1, 3, none⟩ = false := free_blkN hk 3
    have k0 := cell_blkN hk (i := 0) (v := .string ⟨#[]⟩) rfl
    have k1 := cell_blkN hk (i := 1) (v := .string ⟨#[]⟩) rfl
    have k2 := cell_blkN hk (i := 2) (v := .int .i64 0) rfl
    have k3 := cell_blkN hk (i := 3) (v := .string ⟨#[]⟩) rfl
    have HK := (show Hid _ from hk)
    clear hk
    go_wp2
    (try simp only [Exit.inBlock, Exit.then])
    have hB3 := set_blkN (set_blkN (set_blkN (set_blkN HK.out 0 (.string ⟨#[]⟩)) 1 (.string ⟨#[]⟩)) 2 (.int .i64 0)) 3 (.string ⟨#[]⟩)
    have d0 := cell_blkN hB3 (i := 0) (v := .string ⟨#[]⟩) rfl
    have d1 := cell_blkN hB3 (i := 1) (v := .string ⟨#[]⟩) rfl
    have d2 := cell_blkN hB3 (i := 2) (v := .int .i64 0) rfl
    have d3 := cell_blkN hB3 (i := 3) (v := .string ⟨#[]⟩) rfl
    refine bodyPost_ret (v := .tuple #[.agg #[.string ⟨#[]⟩, .string ⟨#[]⟩, .int .i64 0, .string ⟨#[]⟩], .int .i64 7]) ?_ rfl ⟨?_, ?_⟩
    · rw [results_cell_tmp rfl]
      go_simp
    · rw [HS.out]
    · exact ((((HB2.out.trans (HB6.out.mono HB2.out.size)).setCell (Nat.le_succ _) _).setCell (Nat.le_succ _) _).setCell (Nat.le_succ _) _).setCell (Nat.le_succ _) _
  · have h256i : (takes : Int) < 256 := by omega
    have HS := (show Hid (RES = (⟨⟨pt, pd, pv⟩, px⟩, 0)) from by show _ = _; rw [HR.out]; simp [h8, h256])
    have s0 := cell_blkN HKp6.out (i := 0) (v := strA pt) rfl
    have s1 := cell_blkN HKp6.out (i := 1) (v := strA pd) rfl
    have s2 := cell_blkN HKp6.out (i := 2) (v := .int .i64 pv) rfl
    have s3 := cell_blkN HKp6.out (i := 3) (v := strA px) rfl
    clear HR HX4
    have hk := blk_belowN HK2.out HB6.out
    have f0 : wa6.frozen? ⟨w.heap.size + 1, 0, none⟩ = false := free_blkN hk 0
    have f1 : wa6.frozen? ⟨w.heap.size + 1, 1, none⟩ = false := free_blkN hk 1
    have f2 : wa6.frozen? ⟨w.heap.size + 1, 2, none⟩ = false := free_blkN hk 2
    have f3 : wa6.frozen? ⟨w.heap.size + 1, 3, none⟩ = false := free_blkN hk 3
    have k0 := cell_blkN hk (i := 0) (v := .string ⟨#[]⟩) rfl
    have k1 := cell_blkN hk (i := 1) (v := .string ⟨#[]⟩) rfl
    have k2 := cell_blkN hk (i := 2) (v := .int .i64 0) rfl
    have k3 := cell_blkN hk (i := 3) (v := .string ⟨#[]⟩) rfl
    have HK := (show Hid _ from hk)
    clear hk
    go_wp2
    (try simp only [Exit.inBlock, Exit.then])
    have hB3 := set_blkN (set_blkN (set_blkN (set_blkN HK.out 0 (strA pt)) 1 (strA pd)) 2 (.int .i64 pv)) 3 (strA px)
    have d0 := cell_blkN hB3 (i := 0) (v := strA pt) rfl
    have d1 := cell_blkN hB3 (i := 1) (v := strA pd) rfl
    have d2 := cell_blkN hB3 (i := 2) (v := .int .i64 pv) rfl
    have d3 := cell_blkN hB3 (i := 3) (v := strA px) rfl
    refine bodyPost_ret (v := .tuple #[.agg #[strA pt, strA pd, .int .i64 pv, strA px], .int .i64 0]) ?_ rfl ⟨?_, ?_⟩
    · rw [results_cell_tmp rfl]
      go_simp
    · rw [HS.out]
    · exact ((((HB2.out.trans (HB6.out.mono HB2.out.size)).setCell (Nat.le_succ _) _).setCell (Nat.le_succ _) _).setCell (Nat.le_succ _) _).setCell (Nat.le_succ _) _
end Go.Proofs.YtkjicdldlnefeaaDoor
