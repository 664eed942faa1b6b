/- Letters: what a Kind has beside numbers; a letter without what its Kind has; which are right: walked. -/
import Derived.Test.YtmlihlnigojmpaaDoorWRt3
set_option linter.unusedVariables false
namespace Go.Proofs.YtmlihlnigojmpaaDoor
open Go.RowKit

set_option maxHeartbeats 8000000 in
set_option maxRecDepth 40000 in
theorem mayBe_any {w : World} (M : Lt) (A : LtA) (h : LtW w M A) (hi : 0 ≤ M.i ∧ M.i ≤ 999999) : Calls Tryd.prog 28 #[ltV M A] w fun e w' => e = .returned (.bool (mayB M)) ∧ Below w.heap.size w w' := by
  obtain ⟨w1, hw1⟩ : ∃ w1, w1 = w.alloc (.cells (ltC M A) 28) := ⟨_, rfl⟩
  have hb1 : Below w.heap.size w w1 := by rw [hw1]; exact (Below.refl _ w).alloc (Nat.le_refl _) _
  have hk1 : w1.heap[w.heap.size]? = some (.cells (ltC M A) 28 (0, 0)) := by rw [hw1]; exact lt_new w M A
  obtain ⟨R, hR⟩ : ∃ R, mayB M = R := ⟨_, rfl⟩
  rw [hR]
  have HR : Hid (mayB M = R) := hR
  have HB : Hid (Below w.heap.size w w1) := hb1
  have HK : Hid (w1.heap[w.heap.size]? = some (.cells (ltC M A) 28 (0, 0))) := hk1
  have H51 : Hid (Calls Tryd.prog 51 #[.slice A.ea M.es.length A.ec, .int .i64 M.i, .int .i64 M.lt, .int .i64 M.tm] w1 fun e w' => e = .returned (.bool (goB M.tm M.i M.lt M.es)) ∧ Below w1.heap.size w1 w') := wgoOn_any M.es A.ea A.ec M.i M.lt M.tm (h.below hb1).es h.el hi
  have H52 : Hid (Calls Tryd.prog 52 #[.agg #[.int .i64 M.sx, .int .i64 M.st, .slice A.na M.ns.length A.nc, .slice A.da M.da.length A.dc]] w1 fun e w' => e = .returned (.bool (snapB M.sx M.st M.ns M.da.length)) ∧ Below w1.heap.size w1 w') := maySnap_any (X := M.sx) (T := M.st) (da := A.da) (dc := A.dc) (nc := A.nc) (h.below hb1).ns rfl h.nl h.dl
  have x0 : w1.cell? ⟨w.heap.size, 0, none⟩ = some (.int .i64 M.k) := pcell hk1 rfl
  have x1 : w1.cell? ⟨w.heap.size, 1, none⟩ = some (.int .i64 M.f) := pcell hk1 rfl
  have x2 : w1.cell? ⟨w.heap.size, 2, none⟩ = some (.int .i64 M.t) := pcell hk1 rfl
  have x3 : w1.cell? ⟨w.heap.size, 3, none⟩ = some (.int .i64 M.tm) := pcell hk1 rfl
  have x4 : w1.cell? ⟨w.heap.size, 4, none⟩ = some (.int .i64 M.i) := pcell hk1 rfl
  have x5 : w1.cell? ⟨w.heap.size, 5, none⟩ = some (.int .i64 M.lt) := pcell hk1 rfl
  have x6 : w1.cell? ⟨w.heap.size, 6, none⟩ = some (.int .i64 M.cm) := pcell hk1 rfl
  have x7 : w1.cell? ⟨w.heap.size, 7, none⟩ = some (.int .i64 M.rd) := pcell hk1 rfl
  have x8 : w1.cell? ⟨w.heap.size, 8, none⟩ = some (.bool M.ok) := pcell hk1 rfl
  have x9 : w1.cell? ⟨w.heap.size, 9, none⟩ = some (.slice A.ea M.es.length A.ec) := pcell hk1 rfl
  have x10 : w1.cell? ⟨w.heap.size, 10, none⟩ = some (.int .i64 M.sx) := pcell hk1 rfl
  have x11 : w1.cell? ⟨w.heap.size, 11, none⟩ = some (.int .i64 M.st) := pcell hk1 rfl
  have x12 : w1.cell? ⟨w.heap.size, 12, none⟩ = some (.slice A.na M.ns.length A.nc) := pcell hk1 rfl
  have x13 : w1.cell? ⟨w.heap.size, 13, none⟩ = some (.slice A.da M.da.length A.dc) := pcell hk1 rfl
  have bl : (M.es.length : Int) ≤ 140737488355328 := by have := h.el; omega
  clear h hi hb1 hk1 hR
  go_enter Tryd.func28, Tryd.ntmps28
  unfold ltV
  go_upto_region 1 with fail
  rw [← hw1]
  clear hw1
  by_cases k1 : M.k = 1
  · have HF : Hid (R = true) := by show R = true; rw [← HR.out, mayB, if_pos (Or.inl k1)]
    rw [k1] at x0
    clear H51 H52
    go_wp2_with fail
    go_ret
    exact ⟨by rw [HF.out]; rfl, HB.out⟩
  by_cases k2 : M.k = 2
  · have HF : Hid (R = true) := by show R = true; rw [← HR.out, mayB, if_pos (Or.inr (Or.inl k2))]
    rw [k2] at x0
    clear H51 H52
    go_wp2_with fail
    go_ret
    exact ⟨by rw [HF.out]; rfl, HB.out⟩
  by_cases k4 : M.k = 4
  · have HF : Hid (R = true) := by show R = true; rw [← HR.out, mayB, if_pos (Or.inr (Or.inr k4))]
    rw [k4] at x0
    clear H51 H52
    go_wp2_with fail
    go_ret
    exact ⟨by rw [HF.out]; rfl, HB.out⟩
  have hne : ¬ (M.k = 1 ∨ M.k = 2 ∨ M.k = 4) := by omega
  by_cases k3 : M.k = 3
  · have HF : Hid (R = (decide (M.es.length ≤ 4) && goB M.tm M.i M.lt M.es)) := by show R = _; rw [← HR.out, mayB, if_neg hne, if_pos k3]
    rw [k3] at x0
    clear H52 hne HR
    by_cases hl : M.es.length ≤ 4
    · have q1 : (M.es.length : Int) ≤ 4 := by omega
      have HF2 : Hid (R = goB M.tm M.i M.lt M.es) := by show R = _; rw [HF.out]; simp [hl]
      obtain ⟨G, hG⟩ : ∃ G, goB M.tm M.i M.lt M.es = G := ⟨_, rfl⟩
      rw [hG] at H51 HF2
      clear hG HF hl
      go_wp2_with (fail)
      refine H51.out.mono ?_
      rintro e w2 ⟨rfl, hb⟩
      have HB2 : Hid (Below w.heap.size w w2) := HB.out.trans (hb.mono HB.out.size)
      clear H51 hb x0 x1 x2 x3 x4 x5 x6 x7 x8 x9 x10 x11 x12 x13
      go_wp2_with fail
      go_ret
      exact ⟨by rw [HF2.out]; rfl, HB2.out⟩
    · have q1 : ¬ (M.es.length : Int) ≤ 4 := by omega
      have HF2 : Hid (R = false) := by show R = _; rw [HF.out]; simp [hl]
      clear H51 HF hl
      go_wp2_with (fail)
      go_ret
      exact ⟨by rw [HF2.out]; rfl, HB.out⟩
  by_cases k5 : M.k = 5
  · have HF : Hid (R = (snapB M.sx M.st M.ns M.da.length && decide (M.st ≤ M.tm))) := by show R = _; rw [← HR.out, mayB, if_neg hne, if_neg k3, if_pos k5]
    rw [k5] at x0
    clear H51 hne HR
    obtain ⟨G, hG⟩ : ∃ G, snapB M.sx M.st M.ns M.da.length = G := ⟨_, rfl⟩
    rw [hG] at H52 HF
    clear hG
    go_wp2_with (fail)
    refine H52.out.mono ?_
    rintro e w2 ⟨rfl, hb⟩
    have HB2 : Hid (Below w.heap.size w w2) := HB.out.trans (hb.mono HB.out.size)
    have z3 : w2.cell? ⟨w.heap.size, 3, none⟩ = some (.int .i64 M.tm) := lt_cell HK.out hb rfl
    have z11 : w2.cell? ⟨w.heap.size, 11, none⟩ = some (.int .i64 M.st) := lt_cell HK.out hb rfl
    clear H52 hb x0 x1 x2 x3 x4 x5 x6 x7 x8 x9 x10 x11 x12 x13
    obtain ⟨D, hD⟩ : ∃ D, decide (M.st ≤ M.tm) = D := ⟨_, rfl⟩
    rw [hD] at HF
    cases G with
    | false =>
      clear hD
      go_wp2_with fail
      go_ret
      exact ⟨by rw [HF.out]; rfl, HB2.out⟩
    | true =>
      cases D with
      | false =>
        go_wp2_with fail
        go_ret
        exact ⟨by rw [HF.out]; rfl, HB2.out⟩
      | true =>
        go_wp2_with fail
        go_ret
        exact ⟨by rw [HF.out]; rfl, HB2.out⟩
  · have HF : Hid (R = false) := by show R = _; rw [← HR.out, mayB, if_neg hne, if_neg k3, if_neg k5]
    have q1 : (M.k == 1) = false := by simp; omega
    have q2 : (M.k == 2) = false := by simp; omega
    have q3 : (M.k == 3) = false := by simp; omega
    have q4 : (M.k == 4) = false := by simp; omega
    have q5 : (M.k == 5) = false := by simp; omega
    clear H51 H52 hne HR
    go_wp2_with fail
    go_ret
    exact ⟨by rw [HF.out]; rfl, HB.out⟩

end Go.Proofs.YtmlihlnigojmpaaDoor
