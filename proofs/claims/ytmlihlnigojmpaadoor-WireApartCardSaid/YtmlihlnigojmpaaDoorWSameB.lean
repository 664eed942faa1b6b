/- Are two letters the same: the document's own, walked (B). -/
import Derived.Test.YtmlihlnigojmpaaDoorWSame0
set_option linter.unusedVariables false
namespace Go.Proofs.YtmlihlnigojmpaaDoor
open Go.RowKit

set_option maxHeartbeats 16000000 in
set_option maxRecDepth 40000 in
theorem same_leaf3 {w : World} (M N : Lt) (A C : LtA) (h : LtW w M A) (k : LtW w N C) (h0 : (M.k == N.k) = true) (h1 : (M.f == N.f) = true) (h2 : (M.t == N.t) = true) (h3 : (M.tm == N.tm) = false) : Calls Tryd.prog 15 #[ltV M A, ltV N C] w fun e w' => e = .returned (.bool false) ∧ Below w.heap.size w w' := by
  obtain ⟨w1, hw1⟩ : ∃ w1, w1 = (w.alloc (.cells (ltC M A) 28)).alloc (.cells (ltC N C) 28) := ⟨_, rfl⟩
  have hb1 : Below w.heap.size w w1 := by rw [hw1]; exact ((Below.refl _ w).alloc (Nat.le_refl _) _).alloc (by simp) _
  have hk1 : w1.heap[w.heap.size]? = some (.cells (ltC M A) 28 (0, 0)) := by rw [hw1]; exact blk_below (lt_new w M A) ((Below.refl _ _).alloc (Nat.le_refl _) _)
  have hk2 : w1.heap[w.heap.size + 1]? = some (.cells (ltC N C) 28 (0, 0)) := by
    rw [hw1]
    have := lt_new (w.alloc (.cells (ltC M A) 28)) N C
    simpa using this
  obtain ⟨BE, hBE⟩ : ∃ B, decide (M.es = N.es) = B := ⟨_, rfl⟩
  obtain ⟨BS, hBS⟩ : ∃ B, decide (M.sx = N.sx ∧ M.st = N.st ∧ M.ns = N.ns ∧ M.da = N.da) = B := ⟨_, rfl⟩
  have hE := sameEntries_any (c := A.ec) (d := C.ec) (h.below hb1).es (k.below hb1).es rfl rfl h.el k.el
  have HS : Hid (∀ u, Below w1.heap.size w1 u → Calls Tryd.prog 40 #[.agg #[.int .i64 M.sx, .int .i64 M.st, .slice A.na M.ns.length A.nc, .slice A.da M.da.length A.dc], .agg #[.int .i64 N.sx, .int .i64 N.st, .slice C.na N.ns.length C.nc, .slice C.da N.da.length C.dc]] u fun e w' => e = .returned (.bool BS) ∧ Below u.heap.size u w') := fun u hu => by
    have h9 := (h.below hb1).below hu
    have k9 := (k.below hb1).below hu
    rw [← hBS]
    exact sameSnap_any h9.da h9.ns rfl k9.da k9.ns rfl h.nl k.nl
  rw [hBE] at hE
  have HE : Hid (Calls Tryd.prog 39 #[.slice A.ea M.es.length A.ec, .slice C.ea N.es.length C.ec] w1 fun e w' => e = .returned (.bool BE) ∧ Below w1.heap.size w1 w') := hE
  have HK : Hid (w1.heap[w.heap.size]? = some (.cells (ltC M A) 28 (0, 0)) ∧ w1.heap[w.heap.size + 1]? = some (.cells (ltC N C) 28 (0, 0)) ∧ Below w.heap.size w w1) := ⟨hk1, hk2, hb1⟩
  have x9 : w1.cell? ⟨w.heap.size, 9, none⟩ = some (.slice A.ea M.es.length A.ec) := pcell hk1 rfl
  have y9 : w1.cell? ⟨w.heap.size + 1, 9, none⟩ = some (.slice C.ea N.es.length C.ec) := pcell hk2 rfl
  clear h k hb1 hk1 hk2 hE hBE hBS
  go_enter Tryd.func15, Tryd.ntmps15
  unfold ltV
  go_upto_region 1 with fail
  rw [← hw1]
  clear hw1
  go_wp2_with (fail)
  refine HE.out.mono ?_
  rintro r w2 ⟨rfl, hb⟩
  have HB2 : Hid (Below w1.heap.size w1 w2) := hb
  have x10 : w2.cell? ⟨w.heap.size, 10, none⟩ = some (.int .i64 M.sx) := lt_cell HK.out.1 hb rfl
  have y10 : w2.cell? ⟨w.heap.size + 1, 10, none⟩ = some (.int .i64 N.sx) := lt_cell HK.out.2.1 hb rfl
  have x11 : w2.cell? ⟨w.heap.size, 11, none⟩ = some (.int .i64 M.st) := lt_cell HK.out.1 hb rfl
  have y11 : w2.cell? ⟨w.heap.size + 1, 11, none⟩ = some (.int .i64 N.st) := lt_cell HK.out.2.1 hb rfl
  have x12 : w2.cell? ⟨w.heap.size, 12, none⟩ = some (.slice A.na M.ns.length A.nc) := lt_cell HK.out.1 hb rfl
  have y12 : w2.cell? ⟨w.heap.size + 1, 12, none⟩ = some (.slice C.na N.ns.length C.nc) := lt_cell HK.out.2.1 hb rfl
  have x13 : w2.cell? ⟨w.heap.size, 13, none⟩ = some (.slice A.da M.da.length A.dc) := lt_cell HK.out.1 hb rfl
  have y13 : w2.cell? ⟨w.heap.size + 1, 13, none⟩ = some (.slice C.da N.da.length C.dc) := lt_cell HK.out.2.1 hb rfl
  clear HE hb x9 y9
  go_wp2_with (fail)
  refine (HS.out _ HB2.out).mono ?_
  rintro r w3 ⟨rfl, hb⟩
  have HB3 : Hid (Below w1.heap.size w1 w3) := HB2.out.trans (hb.mono HB2.out.size)
  have HB : Hid (Below w.heap.size w w3) := HK.out.2.2.trans (HB3.out.mono HK.out.2.2.size)
  have x0 : w3.cell? ⟨w.heap.size, 0, none⟩ = some (.int .i64 M.k) := lt_cell HK.out.1 HB3.out rfl
  have y0 : w3.cell? ⟨w.heap.size + 1, 0, none⟩ = some (.int .i64 N.k) := lt_cell HK.out.2.1 HB3.out rfl
  have x1 : w3.cell? ⟨w.heap.size, 1, none⟩ = some (.int .i64 M.f) := lt_cell HK.out.1 HB3.out rfl
  have y1 : w3.cell? ⟨w.heap.size + 1, 1, none⟩ = some (.int .i64 N.f) := lt_cell HK.out.2.1 HB3.out rfl
  have x2 : w3.cell? ⟨w.heap.size, 2, none⟩ = some (.int .i64 M.t) := lt_cell HK.out.1 HB3.out rfl
  have y2 : w3.cell? ⟨w.heap.size + 1, 2, none⟩ = some (.int .i64 N.t) := lt_cell HK.out.2.1 HB3.out rfl
  have x3 : w3.cell? ⟨w.heap.size, 3, none⟩ = some (.int .i64 M.tm) := lt_cell HK.out.1 HB3.out rfl
  have y3 : w3.cell? ⟨w.heap.size + 1, 3, none⟩ = some (.int .i64 N.tm) := lt_cell HK.out.2.1 HB3.out rfl
  have x4 : w3.cell? ⟨w.heap.size, 4, none⟩ = some (.int .i64 M.i) := lt_cell HK.out.1 HB3.out rfl
  have y4 : w3.cell? ⟨w.heap.size + 1, 4, none⟩ = some (.int .i64 N.i) := lt_cell HK.out.2.1 HB3.out rfl
  have x5 : w3.cell? ⟨w.heap.size, 5, none⟩ = some (.int .i64 M.lt) := lt_cell HK.out.1 HB3.out rfl
  have y5 : w3.cell? ⟨w.heap.size + 1, 5, none⟩ = some (.int .i64 N.lt) := lt_cell HK.out.2.1 HB3.out rfl
  have x6 : w3.cell? ⟨w.heap.size, 6, none⟩ = some (.int .i64 M.cm) := lt_cell HK.out.1 HB3.out rfl
  have y6 : w3.cell? ⟨w.heap.size + 1, 6, none⟩ = some (.int .i64 N.cm) := lt_cell HK.out.2.1 HB3.out rfl
  have x7 : w3.cell? ⟨w.heap.size, 7, none⟩ = some (.int .i64 M.rd) := lt_cell HK.out.1 HB3.out rfl
  have y7 : w3.cell? ⟨w.heap.size + 1, 7, none⟩ = some (.int .i64 N.rd) := lt_cell HK.out.2.1 HB3.out rfl
  have x8 : w3.cell? ⟨w.heap.size, 8, none⟩ = some (.bool M.ok) := lt_cell HK.out.1 HB3.out rfl
  have y8 : w3.cell? ⟨w.heap.size + 1, 8, none⟩ = some (.bool N.ok) := lt_cell HK.out.2.1 HB3.out rfl
  clear HS hb HB2 HB3 HK x10 x11 x12 x13 y10 y11 y12 y13
  go_wp2_with fail
  go_ret
  exact ⟨rfl, HB.out⟩

set_option maxHeartbeats 16000000 in
set_option maxRecDepth 40000 in
theorem same_leaf4 {w : World} (M N : Lt) (A C : LtA) (h : LtW w M A) (k : LtW w N C) (h0 : (M.k == N.k) = true) (h1 : (M.f == N.f) = true) (h2 : (M.t == N.t) = true) (h3 : (M.tm == N.tm) = true) (h4 : (M.i == N.i) = false) : Calls Tryd.prog 15 #[ltV M A, ltV N C] w fun e w' => e = .returned (.bool false) ∧ Below w.heap.size w w' := by
  obtain ⟨w1, hw1⟩ : ∃ w1, w1 = (w.alloc (.cells (ltC M A) 28)).alloc (.cells (ltC N C) 28) := ⟨_, rfl⟩
  have hb1 : Below w.heap.size w w1 := by rw [hw1]; exact ((Below.refl _ w).alloc (Nat.le_refl _) _).alloc (by simp) _
  have hk1 : w1.heap[w.heap.size]? = some (.cells (ltC M A) 28 (0, 0)) := by rw [hw1]; exact blk_below (lt_new w M A) ((Below.refl _ _).alloc (Nat.le_refl _) _)
  have hk2 : w1.heap[w.heap.size + 1]? = some (.cells (ltC N C) 28 (0, 0)) := by
    rw [hw1]
    have := lt_new (w.alloc (.cells (ltC M A) 28)) N C
    simpa using this
  obtain ⟨BE, hBE⟩ : ∃ B, decide (M.es = N.es) = B := ⟨_, rfl⟩
  obtain ⟨BS, hBS⟩ : ∃ B, decide (M.sx = N.sx ∧ M.st = N.st ∧ M.ns = N.ns ∧ M.da = N.da) = B := ⟨_, rfl⟩
  have hE := sameEntries_any (c := A.ec) (d := C.ec) (h.below hb1).es (k.below hb1).es rfl rfl h.el k.el
  have HS : Hid (∀ u, Below w1.heap.size w1 u → Calls Tryd.prog 40 #[.agg #[.int .i64 M.sx, .int .i64 M.st, .slice A.na M.ns.length A.nc, .slice A.da M.da.length A.dc], .agg #[.int .i64 N.sx, .int .i64 N.st, .slice C.na N.ns.length C.nc, .slice C.da N.da.length C.dc]] u fun e w' => e = .returned (.bool BS) ∧ Below u.heap.size u w') := fun u hu => by
    have h9 := (h.below hb1).below hu
    have k9 := (k.below hb1).below hu
    rw [← hBS]
    exact sameSnap_any h9.da h9.ns rfl k9.da k9.ns rfl h.nl k.nl
  rw [hBE] at hE
  have HE : Hid (Calls Tryd.prog 39 #[.slice A.ea M.es.length A.ec, .slice C.ea N.es.length C.ec] w1 fun e w' => e = .returned (.bool BE) ∧ Below w1.heap.size w1 w') := hE
  have HK : Hid (w1.heap[w.heap.size]? = some (.cells (ltC M A) 28 (0, 0)) ∧ w1.heap[w.heap.size + 1]? = some (.cells (ltC N C) 28 (0, 0)) ∧ Below w.heap.size w w1) := ⟨hk1, hk2, hb1⟩
  have x9 : w1.cell? ⟨w.heap.size, 9, none⟩ = some (.slice A.ea M.es.length A.ec) := pcell hk1 rfl
  have y9 : w1.cell? ⟨w.heap.size + 1, 9, none⟩ = some (.slice C.ea N.es.length C.ec) := pcell hk2 rfl
  clear h k hb1 hk1 hk2 hE hBE hBS
  go_enter Tryd.func15, Tryd.ntmps15
  unfold ltV
  go_upto_region 1 with fail
  rw [← hw1]
  clear hw1
  go_wp2_with (fail)
  refine HE.out.mono ?_
  rintro r w2 ⟨rfl, hb⟩
  have HB2 : Hid (Below w1.heap.size w1 w2) := hb
  have x10 : w2.cell? ⟨w.heap.size, 10, none⟩ = some (.int .i64 M.sx) := lt_cell HK.out.1 hb rfl
  have y10 : w2.cell? ⟨w.heap.size + 1, 10, none⟩ = some (.int .i64 N.sx) := lt_cell HK.out.2.1 hb rfl
  have x11 : w2.cell? ⟨w.heap.size, 11, none⟩ = some (.int .i64 M.st) := lt_cell HK.out.1 hb rfl
  have y11 : w2.cell? ⟨w.heap.size + 1, 11, none⟩ = some (.int .i64 N.st) := lt_cell HK.out.2.1 hb rfl
  have x12 : w2.cell? ⟨w.heap.size, 12, none⟩ = some (.slice A.na M.ns.length A.nc) := lt_cell HK.out.1 hb rfl
  have y12 : w2.cell? ⟨w.heap.size + 1, 12, none⟩ = some (.slice C.na N.ns.length C.nc) := lt_cell HK.out.2.1 hb rfl
  have x13 : w2.cell? ⟨w.heap.size, 13, none⟩ = some (.slice A.da M.da.length A.dc) := lt_cell HK.out.1 hb rfl
  have y13 : w2.cell? ⟨w.heap.size + 1, 13, none⟩ = some (.slice C.da N.da.length C.dc) := lt_cell HK.out.2.1 hb rfl
  clear HE hb x9 y9
  go_wp2_with (fail)
  refine (HS.out _ HB2.out).mono ?_
  rintro r w3 ⟨rfl, hb⟩
  have HB3 : Hid (Below w1.heap.size w1 w3) := HB2.out.trans (hb.mono HB2.out.size)
  have HB : Hid (Below w.heap.size w w3) := HK.out.2.2.trans (HB3.out.mono HK.out.2.2.size)
  have x0 : w3.cell? ⟨w.heap.size, 0, none⟩ = some (.int .i64 M.k) := lt_cell HK.out.1 HB3.out rfl
  have y0 : w3.cell? ⟨w.heap.size + 1, 0, none⟩ = some (.int .i64 N.k) := lt_cell HK.out.2.1 HB3.out rfl
  have x1 : w3.cell? ⟨w.heap.size, 1, none⟩ = some (.int .i64 M.f) := lt_cell HK.out.1 HB3.out rfl
  have y1 : w3.cell? ⟨w.heap.size + 1, 1, none⟩ = some (.int .i64 N.f) := lt_cell HK.out.2.1 HB3.out rfl
  have x2 : w3.cell? ⟨w.heap.size, 2, none⟩ = some (.int .i64 M.t) := lt_cell HK.out.1 HB3.out rfl
  have y2 : w3.cell? ⟨w.heap.size + 1, 2, none⟩ = some (.int .i64 N.t) := lt_cell HK.out.2.1 HB3.out rfl
  have x3 : w3.cell? ⟨w.heap.size, 3, none⟩ = some (.int .i64 M.tm) := lt_cell HK.out.1 HB3.out rfl
  have y3 : w3.cell? ⟨w.heap.size + 1, 3, none⟩ = some (.int .i64 N.tm) := lt_cell HK.out.2.1 HB3.out rfl
  have x4 : w3.cell? ⟨w.heap.size, 4, none⟩ = some (.int .i64 M.i) := lt_cell HK.out.1 HB3.out rfl
  have y4 : w3.cell? ⟨w.heap.size + 1, 4, none⟩ = some (.int .i64 N.i) := lt_cell HK.out.2.1 HB3.out rfl
  have x5 : w3.cell? ⟨w.heap.size, 5, none⟩ = some (.int .i64 M.lt) := lt_cell HK.out.1 HB3.out rfl
  have y5 : w3.cell? ⟨w.heap.size + 1, 5, none⟩ = some (.int .i64 N.lt) := lt_cell HK.out.2.1 HB3.out rfl
  have x6 : w3.cell? ⟨w.heap.size, 6, none⟩ = some (.int .i64 M.cm) := lt_cell HK.out.1 HB3.out rfl
  have y6 : w3.cell? ⟨w.heap.size + 1, 6, none⟩ = some (.int .i64 N.cm) := lt_cell HK.out.2.1 HB3.out rfl
  have x7 : w3.cell? ⟨w.heap.size, 7, none⟩ = some (.int .i64 M.rd) := lt_cell HK.out.1 HB3.out rfl
  have y7 : w3.cell? ⟨w.heap.size + 1, 7, none⟩ = some (.int .i64 N.rd) := lt_cell HK.out.2.1 HB3.out rfl
  have x8 : w3.cell? ⟨w.heap.size, 8, none⟩ = some (.bool M.ok) := lt_cell HK.out.1 HB3.out rfl
  have y8 : w3.cell? ⟨w.heap.size + 1, 8, none⟩ = some (.bool N.ok) := lt_cell HK.out.2.1 HB3.out rfl
  clear HS hb HB2 HB3 HK x10 x11 x12 x13 y10 y11 y12 y13
  go_wp2_with fail
  go_ret
  exact ⟨rfl, HB.out⟩

set_option maxHeartbeats 16000000 in
set_option maxRecDepth 40000 in
theorem same_leaf5 {w : World} (M N : Lt) (A C : LtA) (h : LtW w M A) (k : LtW w N C) (h0 : (M.k == N.k) = true) (h1 : (M.f == N.f) = true) (h2 : (M.t == N.t) = true) (h3 : (M.tm == N.tm) = true) (h4 : (M.i == N.i) = true) (h5 : (M.lt == N.lt) = false) : Calls Tryd.prog 15 #[ltV M A, ltV N C] w fun e w' => e = .returned (.bool false) ∧ Below w.heap.size w w' := by
  obtain ⟨w1, hw1⟩ : ∃ w1, w1 = (w.alloc (.cells (ltC M A) 28)).alloc (.cells (ltC N C) 28) := ⟨_, rfl⟩
  have hb1 : Below w.heap.size w w1 := by rw [hw1]; exact ((Below.refl _ w).alloc (Nat.le_refl _) _).alloc (by simp) _
  have hk1 : w1.heap[w.heap.size]? = some (.cells (ltC M A) 28 (0, 0)) := by rw [hw1]; exact blk_below (lt_new w M A) ((Below.refl _ _).alloc (Nat.le_refl _) _)
  have hk2 : w1.heap[w.heap.size + 1]? = some (.cells (ltC N C) 28 (0, 0)) := by
    rw [hw1]
    have := lt_new (w.alloc (.cells (ltC M A) 28)) N C
    simpa using this
  obtain ⟨BE, hBE⟩ : ∃ B, decide (M.es = N.es) = B := ⟨_, rfl⟩
  obtain ⟨BS, hBS⟩ : ∃ B, decide (M.sx = N.sx ∧ M.st = N.st ∧ M.ns = N.ns ∧ M.da = N.da) = B := ⟨_, rfl⟩
  have hE := sameEntries_any (c := A.ec) (d := C.ec) (h.below hb1).es (k.below hb1).es rfl rfl h.el k.el
  have HS : Hid (∀ u, Below w1.heap.size w1 u → Calls Tryd.prog 40 #[.agg #[.int .i64 M.sx, .int .i64 M.st, .slice A.na M.ns.length A.nc, .slice A.da M.da.length A.dc], .agg #[.int .i64 N.sx, .int .i64 N.st, .slice C.na N.ns.length C.nc, .slice C.da N.da.length C.dc]] u fun e w' => e = .returned (.bool BS) ∧ Below u.heap.size u w') := fun u hu => by
    have h9 := (h.below hb1).below hu
    have k9 := (k.below hb1).below hu
    rw [← hBS]
    exact sameSnap_any h9.da h9.ns rfl k9.da k9.ns rfl h.nl k.nl
  rw [hBE] at hE
  have HE : Hid (Calls Tryd.prog 39 #[.slice A.ea M.es.length A.ec, .slice C.ea N.es.length C.ec] w1 fun e w' => e = .returned (.bool BE) ∧ Below w1.heap.size w1 w') := hE
  have HK : Hid (w1.heap[w.heap.size]? = some (.cells (ltC M A) 28 (0, 0)) ∧ w1.heap[w.heap.size + 1]? = some (.cells (ltC N C) 28 (0, 0)) ∧ Below w.heap.size w w1) := ⟨hk1, hk2, hb1⟩
  have x9 : w1.cell? ⟨w.heap.size, 9, none⟩ = some (.slice A.ea M.es.length A.ec) := pcell hk1 rfl
  have y9 : w1.cell? ⟨w.heap.size + 1, 9, none⟩ = some (.slice C.ea N.es.length C.ec) := pcell hk2 rfl
  clear h k hb1 hk1 hk2 hE hBE hBS
  go_enter Tryd.func15, Tryd.ntmps15
  unfold ltV
  go_upto_region 1 with fail
  rw [← hw1]
  clear hw1
  go_wp2_with (fail)
  refine HE.out.mono ?_
  rintro r w2 ⟨rfl, hb⟩
  have HB2 : Hid (Below w1.heap.size w1 w2) := hb
  have x10 : w2.cell? ⟨w.heap.size, 10, none⟩ = some (.int .i64 M.sx) := lt_cell HK.out.1 hb rfl
  have y10 : w2.cell? ⟨w.heap.size + 1, 10, none⟩ = some (.int .i64 N.sx) := lt_cell HK.out.2.1 hb rfl
  have x11 : w2.cell? ⟨w.heap.size, 11, none⟩ = some (.int .i64 M.st) := lt_cell HK.out.1 hb rfl
  have y11 : w2.cell? ⟨w.heap.size + 1, 11, none⟩ = some (.int .i64 N.st) := lt_cell HK.out.2.1 hb rfl
  have x12 : w2.cell? ⟨w.heap.size, 12, none⟩ = some (.slice A.na M.ns.length A.nc) := lt_cell HK.out.1 hb rfl
  have y12 : w2.cell? ⟨w.heap.size + 1, 12, none⟩ = some (.slice C.na N.ns.length C.nc) := lt_cell HK.out.2.1 hb rfl
  have x13 : w2.cell? ⟨w.heap.size, 13, none⟩ = some (.slice A.da M.da.length A.dc) := lt_cell HK.out.1 hb rfl
  have y13 : w2.cell? ⟨w.heap.size + 1, 13, none⟩ = some (.slice C.da N.da.length C.dc) := lt_cell HK.out.2.1 hb rfl
  clear HE hb x9 y9
  go_wp2_with (fail)
  refine (HS.out _ HB2.out).mono ?_
  rintro r w3 ⟨rfl, hb⟩
  have HB3 : Hid (Below w1.heap.size w1 w3) := HB2.out.trans (hb.mono HB2.out.size)
  have HB : Hid (Below w.heap.size w w3) := HK.out.2.2.trans (HB3.out.mono HK.out.2.2.size)
  have x0 : w3.cell? ⟨w.heap.size, 0, none⟩ = some (.int .i64 M.k) := lt_cell HK.out.1 HB3.out rfl
  have y0 : w3.cell? ⟨w.heap.size + 1, 0, none⟩ = some (.int .i64 N.k) := lt_cell HK.out.2.1 HB3.out rfl
  have x1 : w3.cell? ⟨w.heap.size, 1, none⟩ = some (.int .i64 M.f) := lt_cell HK.out.1 HB3.out rfl
  have y1 : w3.cell? ⟨w.heap.size + 1, 1, none⟩ = some (.int .i64 N.f) := lt_cell HK.out.2.1 HB3.out rfl
  have x2 : w3.cell? ⟨w.heap.size, 2, none⟩ = some (.int .i64 M.t) := lt_cell HK.out.1 HB3.out rfl
  have y2 : w3.cell? ⟨w.heap.size + 1, 2, none⟩ = some (.int .i64 N.t) := lt_cell HK.out.2.1 HB3.out rfl
  have x3 : w3.cell? ⟨w.heap.size, 3, none⟩ = some (.int .i64 M.tm) := lt_cell HK.out.1 HB3.out rfl
  have y3 : w3.cell? ⟨w.heap.size + 1, 3, none⟩ = some (.int .i64 N.tm) := lt_cell HK.out.2.1 HB3.out rfl
  have x4 : w3.cell? ⟨w.heap.size, 4, none⟩ = some (.int .i64 M.i) := lt_cell HK.out.1 HB3.out rfl
  have y4 : w3.cell? ⟨w.heap.size + 1, 4, none⟩ = some (.int .i64 N.i) := lt_cell HK.out.2.1 HB3.out rfl
  have x5 : w3.cell? ⟨w.heap.size, 5, none⟩ = some (.int .i64 M.lt) := lt_cell HK.out.1 HB3.out rfl
  have y5 : w3.cell? ⟨w.heap.size + 1, 5, none⟩ = some (.int .i64 N.lt) := lt_cell HK.out.2.1 HB3.out rfl
  have x6 : w3.cell? ⟨w.heap.size, 6, none⟩ = some (.int .i64 M.cm) := lt_cell HK.out.1 HB3.out rfl
  have y6 : w3.cell? ⟨w.heap.size + 1, 6, none⟩ = some (.int .i64 N.cm) := lt_cell HK.out.2.1 HB3.out rfl
  have x7 : w3.cell? ⟨w.heap.size, 7, none⟩ = some (.int .i64 M.rd) := lt_cell HK.out.1 HB3.out rfl
  have y7 : w3.cell? ⟨w.heap.size + 1, 7, none⟩ = some (.int .i64 N.rd) := lt_cell HK.out.2.1 HB3.out rfl
  have x8 : w3.cell? ⟨w.heap.size, 8, none⟩ = some (.bool M.ok) := lt_cell HK.out.1 HB3.out rfl
  have y8 : w3.cell? ⟨w.heap.size + 1, 8, none⟩ = some (.bool N.ok) := lt_cell HK.out.2.1 HB3.out rfl
  clear HS hb HB2 HB3 HK x10 x11 x12 x13 y10 y11 y12 y13
  go_wp2_with fail
  go_ret
  exact ⟨rfl, HB.out⟩
end Go.Proofs.YtmlihlnigojmpaaDoor
