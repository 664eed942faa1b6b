/- Letters: which are right: walked. -/
import Derived.Test.YtmlihlnigojmpaaDoorWRt4
import Derived.Test.YtmlihlnigojmpaaDoorWRt5
set_option linter.unusedVariables false
namespace Go.Proofs.YtmlihlnigojmpaaDoor
open Go.RowKit

def rightB (M : Lt) : Bool := headB M && boundsB M && mayB M && nilB (restL M)
theorem bounds_i {M : Lt} (h : boundsB M = true) : 0 ≤ M.i ∧ M.i ≤ 999999 := by
  unfold boundsB inB at h
  simp at h
  exact h.1.1.1
theorem restL_len (M : Lt) : (restL M).es.length ≤ M.es.length ∧ (restL M).ns.length ≤ M.ns.length ∧ (restL M).da.length ≤ M.da.length := by
  unfold restL
  split
  · exact ⟨Nat.le_refl _, Nat.le_refl _, Nat.le_refl _⟩
  split
  · exact ⟨Nat.le_refl _, Nat.le_refl _, Nat.le_refl _⟩
  split
  · exact ⟨Nat.zero_le _, Nat.le_refl _, Nat.le_refl _⟩
  split
  · exact ⟨Nat.le_refl _, Nat.le_refl _, Nat.le_refl _⟩
  split
  · exact ⟨Nat.le_refl _, Nat.zero_le _, Nat.zero_le _⟩
  · exact ⟨Nat.le_refl _, Nat.le_refl _, Nat.le_refl _⟩

set_option maxHeartbeats 8000000 in
set_option maxRecDepth 40000 in
theorem right_any {w : World} (M : Lt) (A : LtA) (h : LtW w M A) : Calls Tryd.prog 12 #[ltV M A] w fun e w' => e = .returned (.bool (rightB M)) ∧ Below w.heap.size w w' := by
  obtain ⟨w1, hw1⟩ : ∃ w1, w1 = w.alloc (.cells (ltC M A) 28) := ⟨_, rfl⟩
  have hb1 : Below w.heap.size w w1 := by rw [hw1]; exact (Below.refl _ w).alloc (Nat.le_refl _) _
  have hk1 : w1.heap[w.heap.size]? = some (.cells (ltC M A) 28 (0, 0)) := by rw [hw1]; exact lt_new w M A
  have HB : Hid (Below w.heap.size w w1) := hb1
  have HK : Hid (w1.heap[w.heap.size]? = some (.cells (ltC M A) 28 (0, 0))) := hk1
  have HW : Hid (LtW w1 M A) := h.below hb1
  obtain ⟨B0, h0⟩ : ∃ B, headB M = B := ⟨_, rfl⟩
  obtain ⟨B1, h1⟩ : ∃ B, boundsB M = B := ⟨_, rfl⟩
  obtain ⟨B2, h2⟩ : ∃ B, mayB M = B := ⟨_, rfl⟩
  obtain ⟨B3, h3⟩ : ∃ B, nilB (restL M) = B := ⟨_, rfl⟩
  have HR : Hid (rightB M = (B0 && B1 && B2 && B3)) := by show _ = _; rw [rightB, h0, h1, h2, h3]
  have HC0 : Hid (Calls Tryd.prog 26 #[.agg #[.int .i64 M.k, .int .i64 M.f, .int .i64 M.t, .int .i64 M.tm, .int .i64 M.i, .int .i64 M.lt, .int .i64 M.cm, .int .i64 M.rd, .bool M.ok, .slice A.ea M.es.length A.ec, .int .i64 M.sx, .int .i64 M.st, .slice A.na M.ns.length A.nc, .slice A.da M.da.length A.dc]] w1 fun e w' => e = .returned (.bool B0) ∧ Below w1.heap.size w1 w') := by rw [← h0]; exact head_any M A
  have HC1 : Hid (∀ u, Calls Tryd.prog 27 #[.agg #[.int .i64 M.k, .int .i64 M.f, .int .i64 M.t, .int .i64 M.tm, .int .i64 M.i, .int .i64 M.lt, .int .i64 M.cm, .int .i64 M.rd, .bool M.ok, .slice A.ea M.es.length A.ec, .int .i64 M.sx, .int .i64 M.st, .slice A.na M.ns.length A.nc, .slice A.da M.da.length A.dc]] u fun e w' => e = .returned (.bool B1) ∧ Below u.heap.size u w') := fun u => by rw [← h1]; exact bounds_any M A
  have HC2 : Hid (B1 = true → ∀ u, Below w1.heap.size w1 u → Calls Tryd.prog 28 #[.agg #[.int .i64 M.k, .int .i64 M.f, .int .i64 M.t, .int .i64 M.tm, .int .i64 M.i, .int .i64 M.lt, .int .i64 M.cm, .int .i64 M.rd, .bool M.ok, .slice A.ea M.es.length A.ec, .int .i64 M.sx, .int .i64 M.st, .slice A.na M.ns.length A.nc, .slice A.da M.da.length A.dc]] u fun e w' => e = .returned (.bool B2) ∧ Below u.heap.size u w') := fun hb u hu => by rw [← h2]; exact mayBe_any M A (HW.out.below hu) (bounds_i (h1.trans hb))
  have HC3 : Hid (∀ u, Calls Tryd.prog 30 #[.agg #[.int .i64 M.k, .int .i64 M.f, .int .i64 M.t, .int .i64 M.tm, .int .i64 M.i, .int .i64 M.lt, .int .i64 M.cm, .int .i64 M.rd, .bool M.ok, .slice A.ea M.es.length A.ec, .int .i64 M.sx, .int .i64 M.st, .slice A.na M.ns.length A.nc, .slice A.da M.da.length A.dc]] u fun e w' => e = .returned (ltV (restL M) (restA M A)) ∧ Below u.heap.size u w') := fun u => rest_any M A
  have HC4 : Hid (∀ u, Calls Tryd.prog 29 #[ltV (restL M) (restA M A)] u fun e w' => e = .returned (.bool B3) ∧ Below u.heap.size u w') := fun u => by
    rw [← h3]
    have hl := restL_len M
    have := HW.out
    exact nothing_any (restL M) (restA M A) ⟨Nat.le_trans hl.1 this.el, Nat.le_trans hl.2.1 this.nl, Nat.le_trans hl.2.2 this.dl⟩
  have x0 : w1.cell? ⟨w.heap.size, 0, none⟩ = some (.int .i64 M.k) := pcell hk1 rfl
  have x1 : w1.cell? ⟨w.heap.size, 1, none⟩ = some (.int .i64 M.f) := pcell hk1 rfl
  have x2 : w1.cell? ⟨w.heap.size, 2, none⟩ = some (.int .i64 M.t) := pcell hk1 rfl
  have x3 : w1.cell? ⟨w.heap.size, 3, none⟩ = some (.int .i64 M.tm) := pcell hk1 rfl
  have x4 : w1.cell? ⟨w.heap.size, 4, none⟩ = some (.int .i64 M.i) := pcell hk1 rfl
  have x5 : w1.cell? ⟨w.heap.size, 5, none⟩ = some (.int .i64 M.lt) := pcell hk1 rfl
  have x6 : w1.cell? ⟨w.heap.size, 6, none⟩ = some (.int .i64 M.cm) := pcell hk1 rfl
  have x7 : w1.cell? ⟨w.heap.size, 7, none⟩ = some (.int .i64 M.rd) := pcell hk1 rfl
  have x8 : w1.cell? ⟨w.heap.size, 8, none⟩ = some (.bool M.ok) := pcell hk1 rfl
  have x9 : w1.cell? ⟨w.heap.size, 9, none⟩ = some (.slice A.ea M.es.length A.ec) := pcell hk1 rfl
  have x10 : w1.cell? ⟨w.heap.size, 10, none⟩ = some (.int .i64 M.sx) := pcell hk1 rfl
  have x11 : w1.cell? ⟨w.heap.size, 11, none⟩ = some (.int .i64 M.st) := pcell hk1 rfl
  have x12 : w1.cell? ⟨w.heap.size, 12, none⟩ = some (.slice A.na M.ns.length A.nc) := pcell hk1 rfl
  have x13 : w1.cell? ⟨w.heap.size, 13, none⟩ = some (.slice A.da M.da.length A.dc) := pcell hk1 rfl
  clear h hb1 hk1 h0 h1 h2 h3
  go_enter Tryd.func12, Tryd.ntmps12
  unfold ltV
  go_upto_region 1 with fail
  rw [← hw1]
  clear hw1
  go_wp2_with (fail)
  refine HC0.out.mono ?_
  rintro e w2 ⟨rfl, hb⟩
  have HB2 : Hid (Below w1.heap.size w1 w2) := hb
  have y0 : w2.cell? ⟨w.heap.size, 0, none⟩ = some (.int .i64 M.k) := lt_cell HK.out hb rfl
  have y1 : w2.cell? ⟨w.heap.size, 1, none⟩ = some (.int .i64 M.f) := lt_cell HK.out hb rfl
  have y2 : w2.cell? ⟨w.heap.size, 2, none⟩ = some (.int .i64 M.t) := lt_cell HK.out hb rfl
  have y3 : w2.cell? ⟨w.heap.size, 3, none⟩ = some (.int .i64 M.tm) := lt_cell HK.out hb rfl
  have y4 : w2.cell? ⟨w.heap.size, 4, none⟩ = some (.int .i64 M.i) := lt_cell HK.out hb rfl
  have y5 : w2.cell? ⟨w.heap.size, 5, none⟩ = some (.int .i64 M.lt) := lt_cell HK.out hb rfl
  have y6 : w2.cell? ⟨w.heap.size, 6, none⟩ = some (.int .i64 M.cm) := lt_cell HK.out hb rfl
  have y7 : w2.cell? ⟨w.heap.size, 7, none⟩ = some (.int .i64 M.rd) := lt_cell HK.out hb rfl
  have y8 : w2.cell? ⟨w.heap.size, 8, none⟩ = some (.bool M.ok) := lt_cell HK.out hb rfl
  have y9 : w2.cell? ⟨w.heap.size, 9, none⟩ = some (.slice A.ea M.es.length A.ec) := lt_cell HK.out hb rfl
  have y10 : w2.cell? ⟨w.heap.size, 10, none⟩ = some (.int .i64 M.sx) := lt_cell HK.out hb rfl
  have y11 : w2.cell? ⟨w.heap.size, 11, none⟩ = some (.int .i64 M.st) := lt_cell HK.out hb rfl
  have y12 : w2.cell? ⟨w.heap.size, 12, none⟩ = some (.slice A.na M.ns.length A.nc) := lt_cell HK.out hb rfl
  have y13 : w2.cell? ⟨w.heap.size, 13, none⟩ = some (.slice A.da M.da.length A.dc) := lt_cell HK.out hb rfl
  clear HC0 hb x0 x1 x2 x3 x4 x5 x6 x7 x8 x9 x10 x11 x12 x13
  cases B0 with
  | false =>
    clear HC1 HC2 HC3 HC4
    go_wp2_with fail
    go_ret
    exact ⟨by rw [HR.out]; simp, HB.out.trans (HB2.out.mono HB.out.size)⟩
  | true =>
    go_wp2_with (fail)
    refine (HC1.out _).mono ?_
    rintro e w3 ⟨rfl, hb⟩
    have HB3 : Hid (Below w1.heap.size w1 w3) := HB2.out.trans (hb.mono HB2.out.size)
    have z0 : w3.cell? ⟨w.heap.size, 0, none⟩ = some (.int .i64 M.k) := lt_cell HK.out HB3.out rfl
    have z1 : w3.cell? ⟨w.heap.size, 1, none⟩ = some (.int .i64 M.f) := lt_cell HK.out HB3.out rfl
    have z2 : w3.cell? ⟨w.heap.size, 2, none⟩ = some (.int .i64 M.t) := lt_cell HK.out HB3.out rfl
    have z3 : w3.cell? ⟨w.heap.size, 3, none⟩ = some (.int .i64 M.tm) := lt_cell HK.out HB3.out rfl
    have z4 : w3.cell? ⟨w.heap.size, 4, none⟩ = some (.int .i64 M.i) := lt_cell HK.out HB3.out rfl
    have z5 : w3.cell? ⟨w.heap.size, 5, none⟩ = some (.int .i64 M.lt) := lt_cell HK.out HB3.out rfl
    have z6 : w3.cell? ⟨w.heap.size, 6, none⟩ = some (.int .i64 M.cm) := lt_cell HK.out HB3.out rfl
    have z7 : w3.cell? ⟨w.heap.size, 7, none⟩ = some (.int .i64 M.rd) := lt_cell HK.out HB3.out rfl
    have z8 : w3.cell? ⟨w.heap.size, 8, none⟩ = some (.bool M.ok) := lt_cell HK.out HB3.out rfl
    have z9 : w3.cell? ⟨w.heap.size, 9, none⟩ = some (.slice A.ea M.es.length A.ec) := lt_cell HK.out HB3.out rfl
    have z10 : w3.cell? ⟨w.heap.size, 10, none⟩ = some (.int .i64 M.sx) := lt_cell HK.out HB3.out rfl
    have z11 : w3.cell? ⟨w.heap.size, 11, none⟩ = some (.int .i64 M.st) := lt_cell HK.out HB3.out rfl
    have z12 : w3.cell? ⟨w.heap.size, 12, none⟩ = some (.slice A.na M.ns.length A.nc) := lt_cell HK.out HB3.out rfl
    have z13 : w3.cell? ⟨w.heap.size, 13, none⟩ = some (.slice A.da M.da.length A.dc) := lt_cell HK.out HB3.out rfl
    clear HC1 hb y0 y1 y2 y3 y4 y5 y6 y7 y8 y9 y10 y11 y12 y13
    cases B1 with
    | false =>
      clear HC2 HC3 HC4
      go_wp2_with fail
      go_ret
      exact ⟨by rw [HR.out]; simp, HB.out.trans (HB3.out.mono HB.out.size)⟩
    | true =>
      go_wp2_with (fail)
      refine (HC2.out (by first | rfl | trivial) _ HB3.out).mono ?_
      rintro e w4 ⟨rfl, hb⟩
      have HB4 : Hid (Below w1.heap.size w1 w4) := HB3.out.trans (hb.mono HB3.out.size)
      have t0 : w4.cell? ⟨w.heap.size, 0, none⟩ = some (.int .i64 M.k) := lt_cell HK.out HB4.out rfl
      have t1 : w4.cell? ⟨w.heap.size, 1, none⟩ = some (.int .i64 M.f) := lt_cell HK.out HB4.out rfl
      have t2 : w4.cell? ⟨w.heap.size, 2, none⟩ = some (.int .i64 M.t) := lt_cell HK.out HB4.out rfl
      have t3 : w4.cell? ⟨w.heap.size, 3, none⟩ = some (.int .i64 M.tm) := lt_cell HK.out HB4.out rfl
      have t4 : w4.cell? ⟨w.heap.size, 4, none⟩ = some (.int .i64 M.i) := lt_cell HK.out HB4.out rfl
      have t5 : w4.cell? ⟨w.heap.size, 5, none⟩ = some (.int .i64 M.lt) := lt_cell HK.out HB4.out rfl
      have t6 : w4.cell? ⟨w.heap.size, 6, none⟩ = some (.int .i64 M.cm) := lt_cell HK.out HB4.out rfl
      have t7 : w4.cell? ⟨w.heap.size, 7, none⟩ = some (.int .i64 M.rd) := lt_cell HK.out HB4.out rfl
      have t8 : w4.cell? ⟨w.heap.size, 8, none⟩ = some (.bool M.ok) := lt_cell HK.out HB4.out rfl
      have t9 : w4.cell? ⟨w.heap.size, 9, none⟩ = some (.slice A.ea M.es.length A.ec) := lt_cell HK.out HB4.out rfl
      have t10 : w4.cell? ⟨w.heap.size, 10, none⟩ = some (.int .i64 M.sx) := lt_cell HK.out HB4.out rfl
      have t11 : w4.cell? ⟨w.heap.size, 11, none⟩ = some (.int .i64 M.st) := lt_cell HK.out HB4.out rfl
      have t12 : w4.cell? ⟨w.heap.size, 12, none⟩ = some (.slice A.na M.ns.length A.nc) := lt_cell HK.out HB4.out rfl
      have t13 : w4.cell? ⟨w.heap.size, 13, none⟩ = some (.slice A.da M.da.length A.dc) := lt_cell HK.out HB4.out rfl
      clear HC2 hb z0 z1 z2 z3 z4 z5 z6 z7 z8 z9 z10 z11 z12 z13
      cases B2 with
      | false =>
        clear HC3 HC4
        go_wp2_with fail
        go_ret
        exact ⟨by rw [HR.out]; simp, HB.out.trans (HB4.out.mono HB.out.size)⟩
      | true =>
        go_wp2_with (fail)
        refine (HC3.out _).mono ?_
        rintro e w5 ⟨rfl, hb⟩
        have HB5 : Hid (Below w1.heap.size w1 w5) := HB4.out.trans (hb.mono HB4.out.size)
        clear HC3 hb t0 t1 t2 t3 t4 t5 t6 t7 t8 t9 t10 t11 t12 t13
        go_wp2_with (fail)
        refine (HC4.out _).mono ?_
        rintro e w6 ⟨rfl, hb⟩
        have HB6 : Hid (Below w1.heap.size w1 w6) := HB5.out.trans (hb.mono HB5.out.size)
        clear HC4 hb
        go_wp2_with fail
        go_ret
        exact ⟨by rw [HR.out]; simp, HB.out.trans (HB6.out.mono HB.out.size)⟩
end Go.Proofs.YtmlihlnigojmpaaDoor
