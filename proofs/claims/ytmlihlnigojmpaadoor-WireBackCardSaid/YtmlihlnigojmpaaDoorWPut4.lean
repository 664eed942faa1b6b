/- A letter as bytes: wire's Encode, walked. -/
import Derived.Test.YtmlihlnigojmpaaDoorWPut3
set_option linter.unusedVariables false
namespace Go.Proofs.YtmlihlnigojmpaaDoor
open Go.RowKit

set_option maxHeartbeats 8000000 in
set_option maxRecDepth 40000 in
theorem encode_any {w : World} (M : Lt) (A : LtA) (h : LtW w M A) : Calls Tryd.prog 11 #[ltV M A] w fun e w' => Below w.heap.size w w' ∧
    ((rightB M = true ∧ ∃ v, e = .returned (.tuple #[v, .int .i64 0]) ∧ OwnB w' w.heap.size v (encL M)) ∨ (rightB M = false ∧ e = .returned (.tuple #[.slice none 0 0, .int .i64 1]))) := by
  obtain ⟨w1, hw1⟩ : ∃ w1, w1 = w.alloc (.cells (ltC M A) 28) := ⟨_, rfl⟩
  have hb1 : Below w.heap.size w w1 := by rw [hw1]; exact (Below.refl _ w).alloc (Nat.le_refl _) _
  have hk1 : w1.heap[w.heap.size]? = some (.cells (ltC M A) 28 (0, 0)) := by rw [hw1]; exact lt_new w M A
  obtain ⟨B, hB⟩ : ∃ B, rightB M = B := ⟨_, rfl⟩
  have hR := right_any M A (h.below hb1)
  rw [hB] at hR
  have HR : Hid (Calls Tryd.prog 12 #[.agg #[.int .i64 M.k, .int .i64 M.f, .int .i64 M.t, .int .i64 M.tm, .int .i64 M.i, .int .i64 M.lt, .int .i64 M.cm, .int .i64 M.rd, .bool M.ok, .slice A.ea M.es.length A.ec, .int .i64 M.sx, .int .i64 M.st, .slice A.na M.ns.length A.nc, .slice A.da M.da.length A.dc]] w1 fun e w' => e = .returned (.bool B) ∧ Below w1.heap.size w1 w') := hR
  have HL : Hid (B = true → ∀ u, Below w1.heap.size w1 u → Calls Tryd.prog 25 #[.agg #[.int .i64 M.k, .int .i64 M.f, .int .i64 M.t, .int .i64 M.tm, .int .i64 M.i, .int .i64 M.lt, .int .i64 M.cm, .int .i64 M.rd, .bool M.ok, .slice A.ea M.es.length A.ec, .int .i64 M.sx, .int .i64 M.st, .slice A.na M.ns.length A.nc, .slice A.da M.da.length A.dc]] u (Made u (encL M))) := fun hb u hu => letterBytes_any M A ((h.below hb1).below hu) (hB.trans hb)
  have HB : Hid (Below w.heap.size w w1 ∧ rightB M = B) := ⟨hb1, hB⟩
  have HK : Hid (w1.heap[w.heap.size]? = some (.cells (ltC M A) 28 (0, 0))) := hk1
  obtain ⟨T, hT⟩ : ∃ T, encL M = T := ⟨_, rfl⟩
  rw [hT] at HL ⊢
  have x0 : w1.cell? ⟨w.heap.size, 0, none⟩ = some (.int .i64 M.k) := pcell hk1 rfl
  have x1 : w1.cell? ⟨w.heap.size, 1, none⟩ = some (.int .i64 M.f) := pcell hk1 rfl
  have x2 : w1.cell? ⟨w.heap.size, 2, none⟩ = some (.int .i64 M.t) := pcell hk1 rfl
  have x3 : w1.cell? ⟨w.heap.size, 3, none⟩ = some (.int .i64 M.tm) := pcell hk1 rfl
  have x4 : w1.cell? ⟨w.heap.size, 4, none⟩ = some (.int .i64 M.i) := pcell hk1 rfl
  have x5 : w1.cell? ⟨w.heap.size, 5, none⟩ = some (.int .i64 M.lt) := pcell hk1 rfl
  have x6 : w1.cell? ⟨w.heap.size, 6, none⟩ = some (.int .i64 M.cm) := pcell hk1 rfl
  have x7 : w1.cell? ⟨w.heap.size, 7, none⟩ = some (.int .i64 M.rd) := pcell hk1 rfl
  have x8 : w1.cell? ⟨w.heap.size, 8, none⟩ = some (.bool M.ok) := pcell hk1 rfl
  have x9 : w1.cell? ⟨w.heap.size, 9, none⟩ = some (.slice A.ea M.es.length A.ec) := pcell hk1 rfl
  have x10 : w1.cell? ⟨w.heap.size, 10, none⟩ = some (.int .i64 M.sx) := pcell hk1 rfl
  have x11 : w1.cell? ⟨w.heap.size, 11, none⟩ = some (.int .i64 M.st) := pcell hk1 rfl
  have x12 : w1.cell? ⟨w.heap.size, 12, none⟩ = some (.slice A.na M.ns.length A.nc) := pcell hk1 rfl
  have x13 : w1.cell? ⟨w.heap.size, 13, none⟩ = some (.slice A.da M.da.length A.dc) := pcell hk1 rfl
  clear h hb1 hk1 hB hR hT
  go_enter Tryd.func11, Tryd.ntmps11
  unfold ltV
  go_upto_region 1 with fail
  rw [← hw1]
  clear hw1
  go_wp2_with (fail)
  refine HR.out.mono ?_
  rintro r w2 ⟨rfl, hb⟩
  have y0 : w2.cell? ⟨w.heap.size, 0, none⟩ = some (.int .i64 M.k) := lt_cell HK.out hb rfl
  have y1 : w2.cell? ⟨w.heap.size, 1, none⟩ = some (.int .i64 M.f) := lt_cell HK.out hb rfl
  have y2 : w2.cell? ⟨w.heap.size, 2, none⟩ = some (.int .i64 M.t) := lt_cell HK.out hb rfl
  have y3 : w2.cell? ⟨w.heap.size, 3, none⟩ = some (.int .i64 M.tm) := lt_cell HK.out hb rfl
  have y4 : w2.cell? ⟨w.heap.size, 4, none⟩ = some (.int .i64 M.i) := lt_cell HK.out hb rfl
  have y5 : w2.cell? ⟨w.heap.size, 5, none⟩ = some (.int .i64 M.lt) := lt_cell HK.out hb rfl
  have y6 : w2.cell? ⟨w.heap.size, 6, none⟩ = some (.int .i64 M.cm) := lt_cell HK.out hb rfl
  have y7 : w2.cell? ⟨w.heap.size, 7, none⟩ = some (.int .i64 M.rd) := lt_cell HK.out hb rfl
  have y8 : w2.cell? ⟨w.heap.size, 8, none⟩ = some (.bool M.ok) := lt_cell HK.out hb rfl
  have y9 : w2.cell? ⟨w.heap.size, 9, none⟩ = some (.slice A.ea M.es.length A.ec) := lt_cell HK.out hb rfl
  have y10 : w2.cell? ⟨w.heap.size, 10, none⟩ = some (.int .i64 M.sx) := lt_cell HK.out hb rfl
  have y11 : w2.cell? ⟨w.heap.size, 11, none⟩ = some (.int .i64 M.st) := lt_cell HK.out hb rfl
  have y12 : w2.cell? ⟨w.heap.size, 12, none⟩ = some (.slice A.na M.ns.length A.nc) := lt_cell HK.out hb rfl
  have y13 : w2.cell? ⟨w.heap.size, 13, none⟩ = some (.slice A.da M.da.length A.dc) := lt_cell HK.out hb rfl
  have HB2 : Hid (Below w1.heap.size w1 w2 ∧ Below w.heap.size w w2) := ⟨hb, HB.out.1.trans (hb.mono HB.out.1.size)⟩
  clear HR hb x0 x1 x2 x3 x4 x5 x6 x7 x8 x9 x10 x11 x12 x13
  cases B with
  | false =>
    clear HL
    go_wp2_with fail
    go_ret2
    exact ⟨HB2.out.2, .inr ⟨HB.out.2, rfl⟩⟩
  | true =>
    go_wp2_with fail
    refine (HL.out (by first | rfl | trivial) _ HB2.out.1).mono ?_
    rintro r w3 ⟨v, rfl, hown, hb⟩
    have HF : Hid (OwnB w3 w.heap.size v T ∧ Below w.heap.size w w3) := ⟨own_lower hown HB2.out.2.size, HB2.out.2.trans (hb.mono HB2.out.2.size)⟩
    clear HL hown hb
    go_wp2_with fail
    go_ret2
    exact ⟨HF.out.2, .inl ⟨HB.out.2, _, rfl, HF.out.1⟩⟩
end Go.Proofs.YtmlihlnigojmpaaDoor
