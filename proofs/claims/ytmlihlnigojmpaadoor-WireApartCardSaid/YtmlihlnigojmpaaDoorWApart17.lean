/- WireApart: two letters have the same bytes just if they are the same: walked. -/
import Derived.Test.YtmlihlnigojmpaaDoorWLarge
import Derived.Test.YtmlihlnigojmpaaDoorWSame
import Derived.Test.YtmlihlnigojmpaaDoorWPl3
set_option linter.unusedVariables false
namespace Go.Proofs.YtmlihlnigojmpaaDoor
open Go.RowKit

set_option maxHeartbeats 16000000 in
set_option maxRecDepth 100000 in
theorem apart17 (M N : Lt) (A C : LtA) (w : World) (hG : EType w) (h : LtW w M A) (k : LtW w N C) :
    Calls Tryd.prog 5 #[ltV M A, ltV N C] w fun e w' => e = .returned (.bool true) ∧ Below w.heap.size w w' := by
  obtain ⟨w1, hw1⟩ : ∃ w1, w1 = (w.alloc (.cells (ltC M A) 28)).alloc (.cells (ltC N C) 28) := ⟨_, rfl⟩
  have hb1 : Below w.heap.size w w1 := by rw [hw1]; exact ((Below.refl _ w).alloc (Nat.le_refl _) _).alloc (by simp) _
  have hk1 : w1.heap[w.heap.size]? = some (.cells (ltC M A) 28 (0, 0)) := by rw [hw1]; exact blk_below (lt_new w M A) ((Below.refl _ _).alloc (Nat.le_refl _) _)
  have hk2 : w1.heap[w.heap.size + 1]? = some (.cells (ltC N C) 28 (0, 0)) := by
    rw [hw1]
    have := lt_new (w.alloc (.cells (ltC M A) 28)) N C
    simpa using this
  have HSh : Hid (Calls Tryd.prog 7 #[] w1 fun e w' => e = .returned (.bool true) ∧ Below w1.heap.size w1 w') := shown_any w1 (hG.below hb1)
  have HK : Hid (w1.heap[w.heap.size]? = some (.cells (ltC M A) 28 (0, 0)) ∧ w1.heap[w.heap.size + 1]? = some (.cells (ltC N C) 28 (0, 0)) ∧ Below w.heap.size w w1) := ⟨hk1, hk2, hb1⟩
  have HW : Hid (∀ u, Below w1.heap.size w1 u → LtW u M A ∧ LtW u N C) := fun u hu => ⟨(h.below hb1).below hu, (k.below hb1).below hu⟩
  clear h k hb1 hk1 hk2 hG
  go_enter Tryd.func5, Tryd.ntmps5
  unfold ltV
  go_upto_region 1 with fail
  rw [← hw1]
  clear hw1
  go_wp2_with (fail)
  refine HSh.out.mono ?_
  rintro e w2 ⟨rfl, hb⟩
  have HB2 : Hid (Below w1.heap.size w1 w2) := hb
  have HL : Hid (Calls Tryd.prog 8 #[.agg #[.int .i64 M.k, .int .i64 M.f, .int .i64 M.t, .int .i64 M.tm, .int .i64 M.i, .int .i64 M.lt, .int .i64 M.cm, .int .i64 M.rd, .bool M.ok, .slice A.ea M.es.length A.ec, .int .i64 M.sx, .int .i64 M.st, .slice A.na M.ns.length A.nc, .slice A.da M.da.length A.dc]] w2 (BoolQ w2)) := large_any M A (HW.out w2 hb).1
  have x0 : w2.cell? ⟨w.heap.size, 0, none⟩ = some (.int .i64 M.k) := lt_cell HK.out.1 hb rfl
  have x1 : w2.cell? ⟨w.heap.size, 1, none⟩ = some (.int .i64 M.f) := lt_cell HK.out.1 hb rfl
  have x2 : w2.cell? ⟨w.heap.size, 2, none⟩ = some (.int .i64 M.t) := lt_cell HK.out.1 hb rfl
  have x3 : w2.cell? ⟨w.heap.size, 3, none⟩ = some (.int .i64 M.tm) := lt_cell HK.out.1 hb rfl
  have x4 : w2.cell? ⟨w.heap.size, 4, none⟩ = some (.int .i64 M.i) := lt_cell HK.out.1 hb rfl
  have x5 : w2.cell? ⟨w.heap.size, 5, none⟩ = some (.int .i64 M.lt) := lt_cell HK.out.1 hb rfl
  have x6 : w2.cell? ⟨w.heap.size, 6, none⟩ = some (.int .i64 M.cm) := lt_cell HK.out.1 hb rfl
  have x7 : w2.cell? ⟨w.heap.size, 7, none⟩ = some (.int .i64 M.rd) := lt_cell HK.out.1 hb rfl
  have x8 : w2.cell? ⟨w.heap.size, 8, none⟩ = some (.bool M.ok) := lt_cell HK.out.1 hb rfl
  have x9 : w2.cell? ⟨w.heap.size, 9, none⟩ = some (.slice A.ea M.es.length A.ec) := lt_cell HK.out.1 hb rfl
  have x10 : w2.cell? ⟨w.heap.size, 10, none⟩ = some (.int .i64 M.sx) := lt_cell HK.out.1 hb rfl
  have x11 : w2.cell? ⟨w.heap.size, 11, none⟩ = some (.int .i64 M.st) := lt_cell HK.out.1 hb rfl
  have x12 : w2.cell? ⟨w.heap.size, 12, none⟩ = some (.slice A.na M.ns.length A.nc) := lt_cell HK.out.1 hb rfl
  have x13 : w2.cell? ⟨w.heap.size, 13, none⟩ = some (.slice A.da M.da.length A.dc) := lt_cell HK.out.1 hb rfl
  clear HSh hb
  go_wp2_with (fail)
  refine HL.out.mono ?_
  rintro e w3 ⟨⟨L1, rfl⟩, hb⟩
  have HB3 : Hid (Below w1.heap.size w1 w3) := HB2.out.trans (hb.mono HB2.out.size)
  have HL2 : Hid (Calls Tryd.prog 8 #[.agg #[.int .i64 N.k, .int .i64 N.f, .int .i64 N.t, .int .i64 N.tm, .int .i64 N.i, .int .i64 N.lt, .int .i64 N.cm, .int .i64 N.rd, .bool N.ok, .slice C.ea N.es.length C.ec, .int .i64 N.sx, .int .i64 N.st, .slice C.na N.ns.length C.nc, .slice C.da N.da.length C.dc]] w3 (BoolQ w3)) := large_any N C (HW.out w3 HB3.out).2
  have y0 : w3.cell? ⟨w.heap.size + 1, 0, none⟩ = some (.int .i64 N.k) := lt_cell HK.out.2.1 HB3.out rfl
  have y1 : w3.cell? ⟨w.heap.size + 1, 1, none⟩ = some (.int .i64 N.f) := lt_cell HK.out.2.1 HB3.out rfl
  have y2 : w3.cell? ⟨w.heap.size + 1, 2, none⟩ = some (.int .i64 N.t) := lt_cell HK.out.2.1 HB3.out rfl
  have y3 : w3.cell? ⟨w.heap.size + 1, 3, none⟩ = some (.int .i64 N.tm) := lt_cell HK.out.2.1 HB3.out rfl
  have y4 : w3.cell? ⟨w.heap.size + 1, 4, none⟩ = some (.int .i64 N.i) := lt_cell HK.out.2.1 HB3.out rfl
  have y5 : w3.cell? ⟨w.heap.size + 1, 5, none⟩ = some (.int .i64 N.lt) := lt_cell HK.out.2.1 HB3.out rfl
  have y6 : w3.cell? ⟨w.heap.size + 1, 6, none⟩ = some (.int .i64 N.cm) := lt_cell HK.out.2.1 HB3.out rfl
  have y7 : w3.cell? ⟨w.heap.size + 1, 7, none⟩ = some (.int .i64 N.rd) := lt_cell HK.out.2.1 HB3.out rfl
  have y8 : w3.cell? ⟨w.heap.size + 1, 8, none⟩ = some (.bool N.ok) := lt_cell HK.out.2.1 HB3.out rfl
  have y9 : w3.cell? ⟨w.heap.size + 1, 9, none⟩ = some (.slice C.ea N.es.length C.ec) := lt_cell HK.out.2.1 HB3.out rfl
  have y10 : w3.cell? ⟨w.heap.size + 1, 10, none⟩ = some (.int .i64 N.sx) := lt_cell HK.out.2.1 HB3.out rfl
  have y11 : w3.cell? ⟨w.heap.size + 1, 11, none⟩ = some (.int .i64 N.st) := lt_cell HK.out.2.1 HB3.out rfl
  have y12 : w3.cell? ⟨w.heap.size + 1, 12, none⟩ = some (.slice C.na N.ns.length C.nc) := lt_cell HK.out.2.1 HB3.out rfl
  have y13 : w3.cell? ⟨w.heap.size + 1, 13, none⟩ = some (.slice C.da N.da.length C.dc) := lt_cell HK.out.2.1 HB3.out rfl
  clear HL hb HB2 x0 x1 x2 x3 x4 x5 x6 x7 x8 x9 x10 x11 x12 x13
  go_wp2_with (fail)
  refine HL2.out.mono ?_
  rintro e w4 ⟨⟨L2, rfl⟩, hb⟩
  have HB4 : Hid (Below w1.heap.size w1 w4 ∧ Below w.heap.size w w4) := ⟨HB3.out.trans (hb.mono HB3.out.size), HK.out.2.2.trans ((HB3.out.trans (hb.mono HB3.out.size)).mono HK.out.2.2.size)⟩
  clear HL2 hb HB3 y0 y1 y2 y3 y4 y5 y6 y7 y8 y9 y10 y11 y12 y13
  cases L1 with
  | true =>
    go_wp2_with fail
    go_ret
    exact ⟨rfl, HB4.out.2⟩
  | false =>
  cases L2 with
  | true =>
    go_wp2_with fail
    go_ret
    exact ⟨rfl, HB4.out.2⟩
  | false =>
  have HE : Hid (Calls Tryd.prog 11 #[.agg #[.int .i64 M.k, .int .i64 M.f, .int .i64 M.t, .int .i64 M.tm, .int .i64 M.i, .int .i64 M.lt, .int .i64 M.cm, .int .i64 M.rd, .bool M.ok, .slice A.ea M.es.length A.ec, .int .i64 M.sx, .int .i64 M.st, .slice A.na M.ns.length A.nc, .slice A.da M.da.length A.dc]] w4 fun e w' => Below w4.heap.size w4 w' ∧ ((rightB M = true ∧ ∃ v, e = .returned (.tuple #[v, .int .i64 0]) ∧ OwnB w' w4.heap.size v (encL M)) ∨ (rightB M = false ∧ e = .returned (.tuple #[.slice none 0 0, .int .i64 1])))) := encode_any M A (HW.out w4 HB4.out.1).1
  have x0 : w4.cell? ⟨w.heap.size, 0, none⟩ = some (.int .i64 M.k) := lt_cell HK.out.1 HB4.out.1 rfl
  have x1 : w4.cell? ⟨w.heap.size, 1, none⟩ = some (.int .i64 M.f) := lt_cell HK.out.1 HB4.out.1 rfl
  have x2 : w4.cell? ⟨w.heap.size, 2, none⟩ = some (.int .i64 M.t) := lt_cell HK.out.1 HB4.out.1 rfl
  have x3 : w4.cell? ⟨w.heap.size, 3, none⟩ = some (.int .i64 M.tm) := lt_cell HK.out.1 HB4.out.1 rfl
  have x4 : w4.cell? ⟨w.heap.size, 4, none⟩ = some (.int .i64 M.i) := lt_cell HK.out.1 HB4.out.1 rfl
  have x5 : w4.cell? ⟨w.heap.size, 5, none⟩ = some (.int .i64 M.lt) := lt_cell HK.out.1 HB4.out.1 rfl
  have x6 : w4.cell? ⟨w.heap.size, 6, none⟩ = some (.int .i64 M.cm) := lt_cell HK.out.1 HB4.out.1 rfl
  have x7 : w4.cell? ⟨w.heap.size, 7, none⟩ = some (.int .i64 M.rd) := lt_cell HK.out.1 HB4.out.1 rfl
  have x8 : w4.cell? ⟨w.heap.size, 8, none⟩ = some (.bool M.ok) := lt_cell HK.out.1 HB4.out.1 rfl
  have x9 : w4.cell? ⟨w.heap.size, 9, none⟩ = some (.slice A.ea M.es.length A.ec) := lt_cell HK.out.1 HB4.out.1 rfl
  have x10 : w4.cell? ⟨w.heap.size, 10, none⟩ = some (.int .i64 M.sx) := lt_cell HK.out.1 HB4.out.1 rfl
  have x11 : w4.cell? ⟨w.heap.size, 11, none⟩ = some (.int .i64 M.st) := lt_cell HK.out.1 HB4.out.1 rfl
  have x12 : w4.cell? ⟨w.heap.size, 12, none⟩ = some (.slice A.na M.ns.length A.nc) := lt_cell HK.out.1 HB4.out.1 rfl
  have x13 : w4.cell? ⟨w.heap.size, 13, none⟩ = some (.slice A.da M.da.length A.dc) := lt_cell HK.out.1 HB4.out.1 rfl
  have HE2 : Hid (Calls Tryd.prog 11 #[.agg #[.int .i64 M.k, .int .i64 M.f, .int .i64 M.t, .int .i64 M.tm, .int .i64 M.i, .int .i64 M.lt, .int .i64 M.cm, .int .i64 M.rd, .bool M.ok, .slice A.ea M.es.length A.ec, .int .i64 M.sx, .int .i64 M.st, .slice A.na M.ns.length A.nc, .slice A.da M.da.length A.dc]] w4 fun e w' => ∃ (a1 : Option Addr) (n1 c1 : Nat) (z1 : Int) (l1 : List UInt8), e = .returned (.tuple #[.slice a1 n1 c1, .int .i64 z1]) ∧ BRow w' a1 n1 c1 l1 ∧ Below w4.heap.size w4 w' ∧ ((z1 = 0 ∧ rightB M = true ∧ l1 = encL M) ∨ z1 = 1)) := HE.out.mono fun e w' hq => by
    obtain ⟨h1, h2⟩ := hq
    rcases h2 with ⟨h3, v, h4, h5⟩ | ⟨h3, h4⟩
    · obtain ⟨a9, c9, hv⟩ := own_slice h5
      subst hv
      exact ⟨a9, _, c9, 0, encL M, h4, own_brow h5, h1, .inl ⟨rfl, h3, rfl⟩⟩
    · exact ⟨none, 0, 0, 1, [], h4, ⟨rfl, .inl ⟨rfl, rfl, rfl⟩⟩, h1, .inr rfl⟩
  clear HE
  go_wp2_with (fail)
  refine HE2.out.mono ?_
  rintro e w5 ⟨a1, n1, c1, z1, l1, rfl, hr1, hb, hz1⟩
  have HB5 : Hid (Below w1.heap.size w1 w5 ∧ BRow w5 a1 n1 c1 l1 ∧ ((z1 = 0 ∧ rightB M = true ∧ l1 = encL M) ∨ z1 = 1)) := ⟨HB4.out.1.trans (hb.mono HB4.out.1.size), hr1, hz1⟩
  have HE : Hid (Calls Tryd.prog 11 #[.agg #[.int .i64 N.k, .int .i64 N.f, .int .i64 N.t, .int .i64 N.tm, .int .i64 N.i, .int .i64 N.lt, .int .i64 N.cm, .int .i64 N.rd, .bool N.ok, .slice C.ea N.es.length C.ec, .int .i64 N.sx, .int .i64 N.st, .slice C.na N.ns.length C.nc, .slice C.da N.da.length C.dc]] w5 fun e w' => Below w5.heap.size w5 w' ∧ ((rightB N = true ∧ ∃ v, e = .returned (.tuple #[v, .int .i64 0]) ∧ OwnB w' w5.heap.size v (encL N)) ∨ (rightB N = false ∧ e = .returned (.tuple #[.slice none 0 0, .int .i64 1])))) := encode_any N C (HW.out w5 HB5.out.1).2
  have y0 : w5.cell? ⟨w.heap.size + 1, 0, none⟩ = some (.int .i64 N.k) := lt_cell HK.out.2.1 HB5.out.1 rfl
  have y1 : w5.cell? ⟨w.heap.size + 1, 1, none⟩ = some (.int .i64 N.f) := lt_cell HK.out.2.1 HB5.out.1 rfl
  have y2 : w5.cell? ⟨w.heap.size + 1, 2, none⟩ = some (.int .i64 N.t) := lt_cell HK.out.2.1 HB5.out.1 rfl
  have y3 : w5.cell? ⟨w.heap.size + 1, 3, none⟩ = some (.int .i64 N.tm) := lt_cell HK.out.2.1 HB5.out.1 rfl
  have y4 : w5.cell? ⟨w.heap.size + 1, 4, none⟩ = some (.int .i64 N.i) := lt_cell HK.out.2.1 HB5.out.1 rfl
  have y5 : w5.cell? ⟨w.heap.size + 1, 5, none⟩ = some (.int .i64 N.lt) := lt_cell HK.out.2.1 HB5.out.1 rfl
  have y6 : w5.cell? ⟨w.heap.size + 1, 6, none⟩ = some (.int .i64 N.cm) := lt_cell HK.out.2.1 HB5.out.1 rfl
  have y7 : w5.cell? ⟨w.heap.size + 1, 7, none⟩ = some (.int .i64 N.rd) := lt_cell HK.out.2.1 HB5.out.1 rfl
  have y8 : w5.cell? ⟨w.heap.size + 1, 8, none⟩ = some (.bool N.ok) := lt_cell HK.out.2.1 HB5.out.1 rfl
  have y9 : w5.cell? ⟨w.heap.size + 1, 9, none⟩ = some (.slice C.ea N.es.length C.ec) := lt_cell HK.out.2.1 HB5.out.1 rfl
  have y10 : w5.cell? ⟨w.heap.size + 1, 10, none⟩ = some (.int .i64 N.sx) := lt_cell HK.out.2.1 HB5.out.1 rfl
  have y11 : w5.cell? ⟨w.heap.size + 1, 11, none⟩ = some (.int .i64 N.st) := lt_cell HK.out.2.1 HB5.out.1 rfl
  have y12 : w5.cell? ⟨w.heap.size + 1, 12, none⟩ = some (.slice C.na N.ns.length C.nc) := lt_cell HK.out.2.1 HB5.out.1 rfl
  have y13 : w5.cell? ⟨w.heap.size + 1, 13, none⟩ = some (.slice C.da N.da.length C.dc) := lt_cell HK.out.2.1 HB5.out.1 rfl
  clear HE2 hr1 hb hz1 HB4 x0 x1 x2 x3 x4 x5 x6 x7 x8 x9 x10 x11 x12 x13
  have HE2 : Hid (Calls Tryd.prog 11 #[.agg #[.int .i64 N.k, .int .i64 N.f, .int .i64 N.t, .int .i64 N.tm, .int .i64 N.i, .int .i64 N.lt, .int .i64 N.cm, .int .i64 N.rd, .bool N.ok, .slice C.ea N.es.length C.ec, .int .i64 N.sx, .int .i64 N.st, .slice C.na N.ns.length C.nc, .slice C.da N.da.length C.dc]] w5 fun e w' => ∃ (a2 : Option Addr) (n2 c2 : Nat) (z2 : Int) (l2 : List UInt8), e = .returned (.tuple #[.slice a2 n2 c2, .int .i64 z2]) ∧ BRow w' a2 n2 c2 l2 ∧ Below w5.heap.size w5 w' ∧ ((z2 = 0 ∧ rightB N = true ∧ l2 = encL N) ∨ z2 = 1)) := HE.out.mono fun e w' hq => by
    obtain ⟨h1, h2⟩ := hq
    rcases h2 with ⟨h3, v, h4, h5⟩ | ⟨h3, h4⟩
    · obtain ⟨a9, c9, hv⟩ := own_slice h5
      subst hv
      exact ⟨a9, _, c9, 0, encL N, h4, own_brow h5, h1, .inl ⟨rfl, h3, rfl⟩⟩
    · exact ⟨none, 0, 0, 1, [], h4, ⟨rfl, .inl ⟨rfl, rfl, rfl⟩⟩, h1, .inr rfl⟩
  clear HE
  go_wp2_with (fail)
  refine HE2.out.mono ?_
  rintro e w6 ⟨a2, n2, c2, z2, l2, rfl, hr2, hb, hz2⟩
  have HB6 : Hid (Below w1.heap.size w1 w6 ∧ BRow w6 a1 n1 c1 l1 ∧ BRow w6 a2 n2 c2 l2 ∧ ((z1 = 0 ∧ rightB M = true ∧ l1 = encL M) ∨ z1 = 1) ∧ ((z2 = 0 ∧ rightB N = true ∧ l2 = encL N) ∨ z2 = 1)) := ⟨HB5.out.1.trans (hb.mono HB5.out.1.size), HB5.out.2.1.below hb, hr2, HB5.out.2.2, hz2⟩
  obtain ⟨S, hS⟩ : ∃ S, decide (M = N) = S := ⟨_, rfl⟩
  have HS : Hid (Calls Tryd.prog 15 #[.agg #[.int .i64 M.k, .int .i64 M.f, .int .i64 M.t, .int .i64 M.tm, .int .i64 M.i, .int .i64 M.lt, .int .i64 M.cm, .int .i64 M.rd, .bool M.ok, .slice A.ea M.es.length A.ec, .int .i64 M.sx, .int .i64 M.st, .slice A.na M.ns.length A.nc, .slice A.da M.da.length A.dc], .agg #[.int .i64 N.k, .int .i64 N.f, .int .i64 N.t, .int .i64 N.tm, .int .i64 N.i, .int .i64 N.lt, .int .i64 N.cm, .int .i64 N.rd, .bool N.ok, .slice C.ea N.es.length C.ec, .int .i64 N.sx, .int .i64 N.st, .slice C.na N.ns.length C.nc, .slice C.da N.da.length C.dc]] w6 fun e w' => e = .returned (.bool S) ∧ Below w6.heap.size w6 w') := by
    have hq := HW.out w6 HB6.out.1
    have := same_any M N A C hq.1 hq.2
    rw [hS] at this
    exact this
  have HSd : Hid (decide (M = N) = S) := hS
  have x0 : w6.cell? ⟨w.heap.size, 0, none⟩ = some (.int .i64 M.k) := lt_cell HK.out.1 HB6.out.1 rfl
  have x1 : w6.cell? ⟨w.heap.size, 1, none⟩ = some (.int .i64 M.f) := lt_cell HK.out.1 HB6.out.1 rfl
  have x2 : w6.cell? ⟨w.heap.size, 2, none⟩ = some (.int .i64 M.t) := lt_cell HK.out.1 HB6.out.1 rfl
  have x3 : w6.cell? ⟨w.heap.size, 3, none⟩ = some (.int .i64 M.tm) := lt_cell HK.out.1 HB6.out.1 rfl
  have x4 : w6.cell? ⟨w.heap.size, 4, none⟩ = some (.int .i64 M.i) := lt_cell HK.out.1 HB6.out.1 rfl
  have x5 : w6.cell? ⟨w.heap.size, 5, none⟩ = some (.int .i64 M.lt) := lt_cell HK.out.1 HB6.out.1 rfl
  have x6 : w6.cell? ⟨w.heap.size, 6, none⟩ = some (.int .i64 M.cm) := lt_cell HK.out.1 HB6.out.1 rfl
  have x7 : w6.cell? ⟨w.heap.size, 7, none⟩ = some (.int .i64 M.rd) := lt_cell HK.out.1 HB6.out.1 rfl
  have x8 : w6.cell? ⟨w.heap.size, 8, none⟩ = some (.bool M.ok) := lt_cell HK.out.1 HB6.out.1 rfl
  have x9 : w6.cell? ⟨w.heap.size, 9, none⟩ = some (.slice A.ea M.es.length A.ec) := lt_cell HK.out.1 HB6.out.1 rfl
  have x10 : w6.cell? ⟨w.heap.size, 10, none⟩ = some (.int .i64 M.sx) := lt_cell HK.out.1 HB6.out.1 rfl
  have x11 : w6.cell? ⟨w.heap.size, 11, none⟩ = some (.int .i64 M.st) := lt_cell HK.out.1 HB6.out.1 rfl
  have x12 : w6.cell? ⟨w.heap.size, 12, none⟩ = some (.slice A.na M.ns.length A.nc) := lt_cell HK.out.1 HB6.out.1 rfl
  have x13 : w6.cell? ⟨w.heap.size, 13, none⟩ = some (.slice A.da M.da.length A.dc) := lt_cell HK.out.1 HB6.out.1 rfl
  clear HE2 hr2 hb hz2 HB5 hS y0 y1 y2 y3 y4 y5 y6 y7 y8 y9 y10 y11 y12 y13
  have y0 : w6.cell? ⟨w.heap.size + 1, 0, none⟩ = some (.int .i64 N.k) := lt_cell HK.out.2.1 HB6.out.1 rfl
  have y1 : w6.cell? ⟨w.heap.size + 1, 1, none⟩ = some (.int .i64 N.f) := lt_cell HK.out.2.1 HB6.out.1 rfl
  have y2 : w6.cell? ⟨w.heap.size + 1, 2, none⟩ = some (.int .i64 N.t) := lt_cell HK.out.2.1 HB6.out.1 rfl
  have y3 : w6.cell? ⟨w.heap.size + 1, 3, none⟩ = some (.int .i64 N.tm) := lt_cell HK.out.2.1 HB6.out.1 rfl
  have y4 : w6.cell? ⟨w.heap.size + 1, 4, none⟩ = some (.int .i64 N.i) := lt_cell HK.out.2.1 HB6.out.1 rfl
  have y5 : w6.cell? ⟨w.heap.size + 1, 5, none⟩ = some (.int .i64 N.lt) := lt_cell HK.out.2.1 HB6.out.1 rfl
  have y6 : w6.cell? ⟨w.heap.size + 1, 6, none⟩ = some (.int .i64 N.cm) := lt_cell HK.out.2.1 HB6.out.1 rfl
  have y7 : w6.cell? ⟨w.heap.size + 1, 7, none⟩ = some (.int .i64 N.rd) := lt_cell HK.out.2.1 HB6.out.1 rfl
  have y8 : w6.cell? ⟨w.heap.size + 1, 8, none⟩ = some (.bool N.ok) := lt_cell HK.out.2.1 HB6.out.1 rfl
  have y9 : w6.cell? ⟨w.heap.size + 1, 9, none⟩ = some (.slice C.ea N.es.length C.ec) := lt_cell HK.out.2.1 HB6.out.1 rfl
  have y10 : w6.cell? ⟨w.heap.size + 1, 10, none⟩ = some (.int .i64 N.sx) := lt_cell HK.out.2.1 HB6.out.1 rfl
  have y11 : w6.cell? ⟨w.heap.size + 1, 11, none⟩ = some (.int .i64 N.st) := lt_cell HK.out.2.1 HB6.out.1 rfl
  have y12 : w6.cell? ⟨w.heap.size + 1, 12, none⟩ = some (.slice C.na N.ns.length C.nc) := lt_cell HK.out.2.1 HB6.out.1 rfl
  have y13 : w6.cell? ⟨w.heap.size + 1, 13, none⟩ = some (.slice C.da N.da.length C.dc) := lt_cell HK.out.2.1 HB6.out.1 rfl
  go_wp2_with (fail)
  refine HS.out.mono ?_
  rintro e w7 ⟨rfl, hb⟩
  obtain ⟨S1, hS1⟩ : ∃ S1 : ByteArray, S1 = ⟨l1.toArray⟩ := ⟨_, rfl⟩
  obtain ⟨S2, hS2⟩ : ∃ S2 : ByteArray, S2 = ⟨l2.toArray⟩ := ⟨_, rfl⟩
  have t1 : (convert 24 9 (.slice a1 n1 c1)).run Tryd.prog w7 = .ok (.string S1) w7 := by rw [hS1]; exact (HB6.out.2.1.below hb).string
  have t2 : (convert 24 9 (.slice a2 n2 c2)).run Tryd.prog w7 = .ok (.string S2) w7 := by rw [hS2]; exact (HB6.out.2.2.1.below hb).string
  have HF : Hid (Below w.heap.size w w7) := HK.out.2.2.trans ((HB6.out.1.trans (hb.mono HB6.out.1.size)).mono HK.out.2.2.size)
  have HQ : Hid (z1 = 0 → z2 = 0 → (S1.toList == S2.toList) = S) := by
    intro e1 e2
    have h1 := HB6.out.2.2.2.1
    have h2 := HB6.out.2.2.2.2
    rcases h1 with ⟨_, r1, g1⟩ | h1
    · rcases h2 with ⟨_, r2, g2⟩ | h2
      · rw [hS1, hS2, ByteArray.toList_eq, ByteArray.toList_eq]
        show (l1 == l2) = S
        rw [g1, g2, ← HSd.out, Bool.eq_iff_iff]
        simp only [beq_iff_eq, decide_eq_true_eq]
        exact encL_inj r1 r2
      · omega
    · omega
  have HZ : Hid ((z1 = 0 ∨ z1 = 1) ∧ (z2 = 0 ∨ z2 = 1)) := by
    constructor
    · rcases HB6.out.2.2.2.1 with h1 | h1
      · exact .inl h1.1
      · exact .inr h1
    · rcases HB6.out.2.2.2.2 with h1 | h1
      · exact .inl h1.1
      · exact .inr h1
  clear HS hb hS1 hS2 HB6 HSd HK HW x0 x1 x2 x3 x4 x5 x6 x7 x8 x9 x10 x11 x12 x13 y0 y1 y2 y3 y4 y5 y6 y7 y8 y9 y10 y11 y12 y13
  rcases HZ.out.1 with e1 | e1
  · subst e1
    rcases HZ.out.2 with e2 | e2
    · subst e2
      obtain ⟨Q, hQ⟩ : ∃ Q, (S1.toList == S2.toList) = Q := ⟨_, rfl⟩
      have hQS : Q = S := by rw [← hQ]; exact HQ.out rfl rfl
      subst hQS
      clear HQ HZ
      cases Q with
      | true =>
        go_wp2_with fail
        go_ret
        exact ⟨rfl, HF.out⟩
      | false =>
        go_wp2_with fail
        go_ret
        exact ⟨rfl, HF.out⟩
    · subst e2
      clear HQ HZ
      go_wp2_with fail
      go_ret
      exact ⟨rfl, HF.out⟩
  · subst e1
    clear HQ HZ
    go_wp2_with fail
    go_ret
    exact ⟨rfl, HF.out⟩
end Go.Proofs.YtmlihlnigojmpaaDoor
