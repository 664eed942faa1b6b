/- WireBack: a letter that is written is read as it was: walked. -/
import Derived.Test.YtmlihlnigojmpaaDoorWLarge
import Derived.Test.YtmlihlnigojmpaaDoorWBounds17
set_option linter.unusedVariables false
namespace Go.Proofs.YtmlihlnigojmpaaDoor
open Go.RowKit

theorem brow_take {w : World} {a : Option Addr} {len cap : Nat} {l : List UInt8} (h : BRow w a len cap l) (k : Nat) (hk : k < len) : BRow w a k cap (l.take k) := by
  obtain ⟨h1, h2⟩ := h
  refine ⟨by rw [List.length_take]; omega, ?_⟩
  rcases h2 with ⟨_, h3, _⟩ | ⟨x, hx, hc⟩
  · omega
  · refine .inr ⟨x, hx, fun j hj => ?_⟩
    rw [List.length_take] at hj
    rw [hc j (by omega), List.getElem_take]
theorem ltZ_w (w : World) : LtW w ltZ ltA0 := by
  refine { es := fun j e h => by simp [ltZ] at h, ns := fun j e h => by simp [ltZ] at h, da := ⟨rfl, .inl ⟨rfl, rfl, rfl⟩⟩, el := by decide, nl := by decide, dl := by decide, dcl := by decide, rk := ?_, rf := ?_, rt := ?_, rtm := ?_, ri := ?_, rlt := ?_, rcm := ?_, rrd := ?_, rsx := ?_, rst := ?_ } <;> (unfold i64B ltZ; decide)

set_option maxHeartbeats 32000000 in
set_option maxRecDepth 100000 in
theorem back17 (M : Lt) (A : LtA) (ba : Option Addr) (bn bc : Nat) (bl : List UInt8) (cz : Int) (w : World) (hG : EType w) (h : LtW w M A) (hb0 : BRow w ba bn bc bl) (hbn : bn ≤ 140737488355328) (hbc : bn ≤ bc ∧ bc ≤ 9223372036854775807) (hcz : -9223372036854775808 ≤ cz ∧ cz ≤ 9223372036854775807) :
    Calls Tryd.prog 4 #[ltV M A, .slice ba bn bc, .int .i64 cz] w fun e w' => e = .returned (.bool true) ∧ Below w.heap.size w w' := by
  obtain ⟨w1, hw1⟩ : ∃ w1, w1 = w.alloc (.cells (ltC M A) 28) := ⟨_, rfl⟩
  have hb1 : Below w.heap.size w w1 := by rw [hw1]; exact (Below.refl _ w).alloc (Nat.le_refl _) _
  have hk1 : w1.heap[w.heap.size]? = some (.cells (ltC M A) 28 (0, 0)) := by rw [hw1]; exact lt_new w M A
  have HSh : Hid (Calls Tryd.prog 7 #[] w1 fun e w' => e = .returned (.bool true) ∧ Below w1.heap.size w1 w') := shown_any w1 (hG.below hb1)
  have HK : Hid (w1.heap[w.heap.size]? = some (.cells (ltC M A) 28 (0, 0)) ∧ Below w.heap.size w w1) := ⟨hk1, hb1⟩
  have HW : Hid (∀ u, Below w1.heap.size w1 u → LtW u M A) := fun u hu => (h.below hb1).below hu
  have HBs : Hid (∀ u, Below w1.heap.size w1 u → Src u ba bn bc bl) := fun u hu => ⟨(hb0.below hb1).below hu, hbn, hbc.1, hbc.2⟩
  have c1 : -9223372036854775808 ≤ cz := hcz.1
  have c2 : cz ≤ 9223372036854775807 := hcz.2
  clear h hb1 hk1 hG hb0 hbn hbc hcz
  go_enter Tryd.func4, Tryd.ntmps4
  unfold ltV
  go_upto_region 1 with fail
  rw [← hw1]
  clear hw1
  go_wp2_with (fail)
  refine HSh.out.mono ?_
  rintro e w2 ⟨rfl, hb⟩
  have HB2 : Hid (Below w1.heap.size w1 w2) := hb
  have HL : Hid (Calls Tryd.prog 8 #[.agg #[.int .i64 M.k, .int .i64 M.f, .int .i64 M.t, .int .i64 M.tm, .int .i64 M.i, .int .i64 M.lt, .int .i64 M.cm, .int .i64 M.rd, .bool M.ok, .slice A.ea M.es.length A.ec, .int .i64 M.sx, .int .i64 M.st, .slice A.na M.ns.length A.nc, .slice A.da M.da.length A.dc]] w2 (BoolQ w2)) := large_any M A (HW.out w2 hb)
  have x0 : w2.cell? ⟨w.heap.size, 0, none⟩ = some (.int .i64 M.k) := lt_cell HK.out.1 hb rfl
  have x1 : w2.cell? ⟨w.heap.size, 1, none⟩ = some (.int .i64 M.f) := lt_cell HK.out.1 hb rfl
  have x2 : w2.cell? ⟨w.heap.size, 2, none⟩ = some (.int .i64 M.t) := lt_cell HK.out.1 hb rfl
  have x3 : w2.cell? ⟨w.heap.size, 3, none⟩ = some (.int .i64 M.tm) := lt_cell HK.out.1 hb rfl
  have x4 : w2.cell? ⟨w.heap.size, 4, none⟩ = some (.int .i64 M.i) := lt_cell HK.out.1 hb rfl
  have x5 : w2.cell? ⟨w.heap.size, 5, none⟩ = some (.int .i64 M.lt) := lt_cell HK.out.1 hb rfl
  have x6 : w2.cell? ⟨w.heap.size, 6, none⟩ = some (.int .i64 M.cm) := lt_cell HK.out.1 hb rfl
  have x7 : w2.cell? ⟨w.heap.size, 7, none⟩ = some (.int .i64 M.rd) := lt_cell HK.out.1 hb rfl
  have x8 : w2.cell? ⟨w.heap.size, 8, none⟩ = some (.bool M.ok) := lt_cell HK.out.1 hb rfl
  have x9 : w2.cell? ⟨w.heap.size, 9, none⟩ = some (.slice A.ea M.es.length A.ec) := lt_cell HK.out.1 hb rfl
  have x10 : w2.cell? ⟨w.heap.size, 10, none⟩ = some (.int .i64 M.sx) := lt_cell HK.out.1 hb rfl
  have x11 : w2.cell? ⟨w.heap.size, 11, none⟩ = some (.int .i64 M.st) := lt_cell HK.out.1 hb rfl
  have x12 : w2.cell? ⟨w.heap.size, 12, none⟩ = some (.slice A.na M.ns.length A.nc) := lt_cell HK.out.1 hb rfl
  have x13 : w2.cell? ⟨w.heap.size, 13, none⟩ = some (.slice A.da M.da.length A.dc) := lt_cell HK.out.1 hb rfl
  clear HSh hb
  go_wp2_with (fail)
  refine HL.out.mono ?_
  rintro e w4 ⟨⟨L1, rfl⟩, hb⟩
  have HB4 : Hid (Below w1.heap.size w1 w4 ∧ Below w.heap.size w w4) := ⟨HB2.out.trans (hb.mono HB2.out.size), HK.out.2.trans ((HB2.out.trans (hb.mono HB2.out.size)).mono HK.out.2.size)⟩
  clear HL hb HB2 x0 x1 x2 x3 x4 x5 x6 x7 x8 x9 x10 x11 x12 x13
  cases L1 with
  | true =>
    go_wp2_with fail
    go_ret
    exact ⟨rfl, HB4.out.2⟩
  | false =>
  obtain ⟨RB, hRB⟩ : ∃ RB, rightB M = RB := ⟨_, rfl⟩
  have HRB : Hid (rightB M = RB) := hRB
  have hE := encode_any M A (HW.out w4 HB4.out.1)
  have HE : Hid (Calls Tryd.prog 11 #[.agg #[.int .i64 M.k, .int .i64 M.f, .int .i64 M.t, .int .i64 M.tm, .int .i64 M.i, .int .i64 M.lt, .int .i64 M.cm, .int .i64 M.rd, .bool M.ok, .slice A.ea M.es.length A.ec, .int .i64 M.sx, .int .i64 M.st, .slice A.na M.ns.length A.nc, .slice A.da M.da.length A.dc]] w4 fun e w' => ∃ (a1 : Option Addr) (n1 c1 : Nat) (z1 : Int) (l1 : List UInt8), e = .returned (.tuple #[.slice a1 n1 c1, .int .i64 z1]) ∧ Src w' a1 n1 c1 l1 ∧ Below w4.heap.size w4 w' ∧ ((z1 == 0) = RB) ∧ decide (0 < n1) = RB ∧ (RB = true → l1 = encL M)) := hE.mono fun e w' hq => by
    obtain ⟨h1, h2⟩ := hq
    rcases h2 with ⟨h3, v, h4, h5⟩ | ⟨h3, h4⟩
    · obtain ⟨a9, c9, hv, hsr⟩ := own_src h5 (by have := encL_len h3; omega)
      subst hv
      have hp := encL_pos M
      have hrt : RB = true := hRB.symm.trans h3
      exact ⟨a9, _, c9, 0, encL M, h4, hsr, h1, by rw [hrt]; rfl, by rw [hrt]; simp; omega, fun _ => rfl⟩
    · have hrt : RB = false := hRB.symm.trans h3
      exact ⟨none, 0, 0, 1, [], h4, ⟨⟨rfl, .inl ⟨rfl, rfl, rfl⟩⟩, by omega, by omega, by omega⟩, h1, by rw [hrt]; rfl, by rw [hrt]; rfl, fun hq => by rw [hrt] at hq; cases hq⟩
  have x0 : w4.cell? ⟨w.heap.size, 0, none⟩ = some (.int .i64 M.k) := lt_cell HK.out.1 HB4.out.1 rfl
  have x1 : w4.cell? ⟨w.heap.size, 1, none⟩ = some (.int .i64 M.f) := lt_cell HK.out.1 HB4.out.1 rfl
  have x2 : w4.cell? ⟨w.heap.size, 2, none⟩ = some (.int .i64 M.t) := lt_cell HK.out.1 HB4.out.1 rfl
  have x3 : w4.cell? ⟨w.heap.size, 3, none⟩ = some (.int .i64 M.tm) := lt_cell HK.out.1 HB4.out.1 rfl
  have x4 : w4.cell? ⟨w.heap.size, 4, none⟩ = some (.int .i64 M.i) := lt_cell HK.out.1 HB4.out.1 rfl
  have x5 : w4.cell? ⟨w.heap.size, 5, none⟩ = some (.int .i64 M.lt) := lt_cell HK.out.1 HB4.out.1 rfl
  have x6 : w4.cell? ⟨w.heap.size, 6, none⟩ = some (.int .i64 M.cm) := lt_cell HK.out.1 HB4.out.1 rfl
  have x7 : w4.cell? ⟨w.heap.size, 7, none⟩ = some (.int .i64 M.rd) := lt_cell HK.out.1 HB4.out.1 rfl
  have x8 : w4.cell? ⟨w.heap.size, 8, none⟩ = some (.bool M.ok) := lt_cell HK.out.1 HB4.out.1 rfl
  have x9 : w4.cell? ⟨w.heap.size, 9, none⟩ = some (.slice A.ea M.es.length A.ec) := lt_cell HK.out.1 HB4.out.1 rfl
  have x10 : w4.cell? ⟨w.heap.size, 10, none⟩ = some (.int .i64 M.sx) := lt_cell HK.out.1 HB4.out.1 rfl
  have x11 : w4.cell? ⟨w.heap.size, 11, none⟩ = some (.int .i64 M.st) := lt_cell HK.out.1 HB4.out.1 rfl
  have x12 : w4.cell? ⟨w.heap.size, 12, none⟩ = some (.slice A.na M.ns.length A.nc) := lt_cell HK.out.1 HB4.out.1 rfl
  have x13 : w4.cell? ⟨w.heap.size, 13, none⟩ = some (.slice A.da M.da.length A.dc) := lt_cell HK.out.1 HB4.out.1 rfl
  clear hE
  go_wp2_with (fail)
  refine HE.out.mono ?_
  rintro e w5 ⟨a1, n1, c1', z1, l1, rfl, hsr, hb, q1, q2, hl1⟩
  have HB5 : Hid (Below w1.heap.size w1 w5 ∧ Src w5 a1 n1 c1' l1 ∧ (RB = true → l1 = encL M)) := ⟨HB4.out.1.trans (hb.mono HB4.out.1.size), hsr, hl1⟩
  have hR := right_any M A (HW.out w5 HB5.out.1)
  rw [hRB] at hR
  have HR : Hid (Calls Tryd.prog 12 #[.agg #[.int .i64 M.k, .int .i64 M.f, .int .i64 M.t, .int .i64 M.tm, .int .i64 M.i, .int .i64 M.lt, .int .i64 M.cm, .int .i64 M.rd, .bool M.ok, .slice A.ea M.es.length A.ec, .int .i64 M.sx, .int .i64 M.st, .slice A.na M.ns.length A.nc, .slice A.da M.da.length A.dc]] w5 fun e w' => e = .returned (.bool RB) ∧ Below w5.heap.size w5 w') := hR
  have y0 : w5.cell? ⟨w.heap.size, 0, none⟩ = some (.int .i64 M.k) := lt_cell HK.out.1 HB5.out.1 rfl
  have y1 : w5.cell? ⟨w.heap.size, 1, none⟩ = some (.int .i64 M.f) := lt_cell HK.out.1 HB5.out.1 rfl
  have y2 : w5.cell? ⟨w.heap.size, 2, none⟩ = some (.int .i64 M.t) := lt_cell HK.out.1 HB5.out.1 rfl
  have y3 : w5.cell? ⟨w.heap.size, 3, none⟩ = some (.int .i64 M.tm) := lt_cell HK.out.1 HB5.out.1 rfl
  have y4 : w5.cell? ⟨w.heap.size, 4, none⟩ = some (.int .i64 M.i) := lt_cell HK.out.1 HB5.out.1 rfl
  have y5 : w5.cell? ⟨w.heap.size, 5, none⟩ = some (.int .i64 M.lt) := lt_cell HK.out.1 HB5.out.1 rfl
  have y6 : w5.cell? ⟨w.heap.size, 6, none⟩ = some (.int .i64 M.cm) := lt_cell HK.out.1 HB5.out.1 rfl
  have y7 : w5.cell? ⟨w.heap.size, 7, none⟩ = some (.int .i64 M.rd) := lt_cell HK.out.1 HB5.out.1 rfl
  have y8 : w5.cell? ⟨w.heap.size, 8, none⟩ = some (.bool M.ok) := lt_cell HK.out.1 HB5.out.1 rfl
  have y9 : w5.cell? ⟨w.heap.size, 9, none⟩ = some (.slice A.ea M.es.length A.ec) := lt_cell HK.out.1 HB5.out.1 rfl
  have y10 : w5.cell? ⟨w.heap.size, 10, none⟩ = some (.int .i64 M.sx) := lt_cell HK.out.1 HB5.out.1 rfl
  have y11 : w5.cell? ⟨w.heap.size, 11, none⟩ = some (.int .i64 M.st) := lt_cell HK.out.1 HB5.out.1 rfl
  have y12 : w5.cell? ⟨w.heap.size, 12, none⟩ = some (.slice A.na M.ns.length A.nc) := lt_cell HK.out.1 HB5.out.1 rfl
  have y13 : w5.cell? ⟨w.heap.size, 13, none⟩ = some (.slice A.da M.da.length A.dc) := lt_cell HK.out.1 HB5.out.1 rfl
  clear HE hsr hb hl1 hR hRB HB4 x0 x1 x2 x3 x4 x5 x6 x7 x8 x9 x10 x11 x12 x13
  go_wp2_with (fail)
  refine HR.out.mono ?_
  rintro e w6 ⟨rfl, hb⟩
  have HB6 : Hid (Below w1.heap.size w1 w6 ∧ Src w6 a1 n1 c1' l1 ∧ (RB = true → l1 = encL M)) := ⟨HB5.out.1.trans (hb.mono HB5.out.1.size), ⟨HB5.out.2.1.row.below hb, HB5.out.2.1.hm, HB5.out.2.1.hcap, HB5.out.2.1.hcap2⟩, HB5.out.2.2⟩
  clear HR hb HB5 y0 y1 y2 y3 y4 y5 y6 y7 y8 y9 y10 y11 y12 y13
  go_upto_if 47 with fail
  go_cut [2] from 8 to 96 (fun cv wx => Hid (Below w1.heap.size w1 wx))
  case first =>
    cases RB with
    | false =>
      clear HBs HW HRB
      go_wp2_with fail
      go_meet
      exact HB6.out.1
    | true =>
      clear HBs
      have hle := HB6.out.2.2 rfl
      subst hle
      have hD := decode_any HB6.out.2.1
      rw [decL_enc HRB.out] at hD
      have HD : Hid (Calls Tryd.prog 14 #[.slice a1 n1 c1'] w6 fun e w' => ∃ A2, e = .returned (.tuple #[.agg #[.int .i64 M.k, .int .i64 M.f, .int .i64 M.t, .int .i64 M.tm, .int .i64 M.i, .int .i64 M.lt, .int .i64 M.cm, .int .i64 M.rd, .bool M.ok, .slice A2.ea M.es.length A2.ec, .int .i64 M.sx, .int .i64 M.st, .slice A2.na M.ns.length A2.nc, .slice A2.da M.da.length A2.dc], .nilIface]) ∧ LtW w' M A2 ∧ Below w6.heap.size w6 w') := hD.mono fun e w' hq => by
        obtain ⟨h1, A2, h2, h3⟩ := hq
        exact ⟨A2, h2, h3.ltw, h1⟩
      clear hD
      go_wp2_with (fail)
      refine HD.out.mono ?_
      rintro e w7 ⟨A2, rfl, hlw, hb⟩
      obtain ⟨w8, hw8⟩ : ∃ w8, w8 = w7.alloc (.cells #[.int .i64 M.k, .int .i64 M.f, .int .i64 M.t, .int .i64 M.tm, .int .i64 M.i, .int .i64 M.lt, .int .i64 M.cm, .int .i64 M.rd, .bool M.ok, .slice A2.ea M.es.length A2.ec, .int .i64 M.sx, .int .i64 M.st, .slice A2.na M.ns.length A2.nc, .slice A2.da M.da.length A2.dc] 28) := ⟨_, rfl⟩
      have hb8 : Below w7.heap.size w7 w8 := by rw [hw8]; exact (Below.refl _ w7).alloc (Nat.le_refl _) _
      have hk8 : w8.heap[w7.heap.size]? = some (.cells #[.int .i64 M.k, .int .i64 M.f, .int .i64 M.t, .int .i64 M.tm, .int .i64 M.i, .int .i64 M.lt, .int .i64 M.cm, .int .i64 M.rd, .bool M.ok, .slice A2.ea M.es.length A2.ec, .int .i64 M.sx, .int .i64 M.st, .slice A2.na M.ns.length A2.nc, .slice A2.da M.da.length A2.dc] 28 (0, 0)) := by rw [hw8]; exact heap_alloc_new _ _
      have hb68 : Below w6.heap.size w6 w8 := hb.trans (hb8.mono hb.size)
      have hb18 : Below w1.heap.size w1 w8 := HB6.out.1.trans (hb68.mono HB6.out.1.size)
      have hS := same_any (w := w8) M M A2 A (hlw.below hb8) (HW.out w8 hb18)
      have hd : decide (M = M) = true := by simp
      rw [hd] at hS
      have HS : Hid (Calls Tryd.prog 15 #[.agg #[.int .i64 M.k, .int .i64 M.f, .int .i64 M.t, .int .i64 M.tm, .int .i64 M.i, .int .i64 M.lt, .int .i64 M.cm, .int .i64 M.rd, .bool M.ok, .slice A2.ea M.es.length A2.ec, .int .i64 M.sx, .int .i64 M.st, .slice A2.na M.ns.length A2.nc, .slice A2.da M.da.length A2.dc], .agg #[.int .i64 M.k, .int .i64 M.f, .int .i64 M.t, .int .i64 M.tm, .int .i64 M.i, .int .i64 M.lt, .int .i64 M.cm, .int .i64 M.rd, .bool M.ok, .slice A.ea M.es.length A.ec, .int .i64 M.sx, .int .i64 M.st, .slice A.na M.ns.length A.nc, .slice A.da M.da.length A.dc]] w8 fun e w' => e = .returned (.bool true) ∧ Below w8.heap.size w8 w') := hS
      have HB8 : Hid (Below w1.heap.size w1 w8 ∧ Src w8 a1 n1 c1' (encL M)) := ⟨hb18, ⟨HB6.out.2.1.row.below hb68, HB6.out.2.1.hm, HB6.out.2.1.hcap, HB6.out.2.1.hcap2⟩⟩
      have x0 : w8.cell? ⟨w7.heap.size, 0, none⟩ = some (.int .i64 M.k) := pcell hk8 rfl
      have x1 : w8.cell? ⟨w7.heap.size, 1, none⟩ = some (.int .i64 M.f) := pcell hk8 rfl
      have x2 : w8.cell? ⟨w7.heap.size, 2, none⟩ = some (.int .i64 M.t) := pcell hk8 rfl
      have x3 : w8.cell? ⟨w7.heap.size, 3, none⟩ = some (.int .i64 M.tm) := pcell hk8 rfl
      have x4 : w8.cell? ⟨w7.heap.size, 4, none⟩ = some (.int .i64 M.i) := pcell hk8 rfl
      have x5 : w8.cell? ⟨w7.heap.size, 5, none⟩ = some (.int .i64 M.lt) := pcell hk8 rfl
      have x6 : w8.cell? ⟨w7.heap.size, 6, none⟩ = some (.int .i64 M.cm) := pcell hk8 rfl
      have x7 : w8.cell? ⟨w7.heap.size, 7, none⟩ = some (.int .i64 M.rd) := pcell hk8 rfl
      have x8 : w8.cell? ⟨w7.heap.size, 8, none⟩ = some (.bool M.ok) := pcell hk8 rfl
      have x9 : w8.cell? ⟨w7.heap.size, 9, none⟩ = some (.slice A2.ea M.es.length A2.ec) := pcell hk8 rfl
      have x10 : w8.cell? ⟨w7.heap.size, 10, none⟩ = some (.int .i64 M.sx) := pcell hk8 rfl
      have x11 : w8.cell? ⟨w7.heap.size, 11, none⟩ = some (.int .i64 M.st) := pcell hk8 rfl
      have x12 : w8.cell? ⟨w7.heap.size, 12, none⟩ = some (.slice A2.na M.ns.length A2.nc) := pcell hk8 rfl
      have x13 : w8.cell? ⟨w7.heap.size, 13, none⟩ = some (.slice A2.da M.da.length A2.dc) := pcell hk8 rfl
      have y0 : w8.cell? ⟨w.heap.size, 0, none⟩ = some (.int .i64 M.k) := lt_cell HK.out.1 hb18 rfl
      have y1 : w8.cell? ⟨w.heap.size, 1, none⟩ = some (.int .i64 M.f) := lt_cell HK.out.1 hb18 rfl
      have y2 : w8.cell? ⟨w.heap.size, 2, none⟩ = some (.int .i64 M.t) := lt_cell HK.out.1 hb18 rfl
      have y3 : w8.cell? ⟨w.heap.size, 3, none⟩ = some (.int .i64 M.tm) := lt_cell HK.out.1 hb18 rfl
      have y4 : w8.cell? ⟨w.heap.size, 4, none⟩ = some (.int .i64 M.i) := lt_cell HK.out.1 hb18 rfl
      have y5 : w8.cell? ⟨w.heap.size, 5, none⟩ = some (.int .i64 M.lt) := lt_cell HK.out.1 hb18 rfl
      have y6 : w8.cell? ⟨w.heap.size, 6, none⟩ = some (.int .i64 M.cm) := lt_cell HK.out.1 hb18 rfl
      have y7 : w8.cell? ⟨w.heap.size, 7, none⟩ = some (.int .i64 M.rd) := lt_cell HK.out.1 hb18 rfl
      have y8 : w8.cell? ⟨w.heap.size, 8, none⟩ = some (.bool M.ok) := lt_cell HK.out.1 hb18 rfl
      have y9 : w8.cell? ⟨w.heap.size, 9, none⟩ = some (.slice A.ea M.es.length A.ec) := lt_cell HK.out.1 hb18 rfl
      have y10 : w8.cell? ⟨w.heap.size, 10, none⟩ = some (.int .i64 M.sx) := lt_cell HK.out.1 hb18 rfl
      have y11 : w8.cell? ⟨w.heap.size, 11, none⟩ = some (.int .i64 M.st) := lt_cell HK.out.1 hb18 rfl
      have y12 : w8.cell? ⟨w.heap.size, 12, none⟩ = some (.slice A.na M.ns.length A.nc) := lt_cell HK.out.1 hb18 rfl
      have y13 : w8.cell? ⟨w.heap.size, 13, none⟩ = some (.slice A.da M.da.length A.dc) := lt_cell HK.out.1 hb18 rfl
      clear HD hlw hb hb8 hk8 hb68 hb18 hS hd HB6
      go_upto_region 10 with fail
      rw [← hw8]
      clear hw8
      go_wp2_with (fail)
      refine HS.out.mono ?_
      rintro e w9 ⟨rfl, hb⟩
      have HB9 : Hid (Below w1.heap.size w1 w9 ∧ Src w9 a1 n1 c1' (encL M)) := ⟨HB8.out.1.trans (hb.mono HB8.out.1.size), ⟨HB8.out.2.row.below hb, HB8.out.2.hm, HB8.out.2.hcap, HB8.out.2.hcap2⟩⟩
      clear HS hb HB8 HW x0 x1 x2 x3 x4 x5 x6 x7 x8 x9 x10 x11 x12 x13 y0 y1 y2 y3 y4 y5 y6 y7 y8 y9 y10 y11 y12 y13
      have n1p : 0 < n1 := by simpa using q2
      have HNl : Hid ((encL M).length = n1) := HB9.out.2.row.1
      obtain ⟨cn, hcn, hcn2⟩ : ∃ cn : Nat, (if cz < 0 then -(cz + 1) else cz) = (cn : Int) ∧ cn ≤ 9223372036854775807 := ⟨(if cz < 0 then -(cz + 1) else cz).toNat, by split <;> omega, by split <;> omega⟩
      go_upto_if 57 with fail
      go_cut [2] from 58 to 60 (fun cv wx => cv = .int .i64 (cn : Int) ∧ wx = w9)
      case first =>
        by_cases hneg : cz < 0
        · rw [if_pos hneg] at hcn
          clear HB9 HNl HRB q1 q2
          go_wp2_with fail
          go_meet
          exact ⟨by first | (congr 1; done) | (congr 1; omega), rfl⟩
        · rw [if_neg hneg] at hcn
          clear HB9 HNl HRB q1 q2
          subst hcn
          go_wp2_with fail
          go_meet
          exact ⟨rfl, rfl⟩
      case rest =>
        obtain ⟨rfl, hw⟩ := hcut
        subst hw
        generalize wc = U at *
        clear hcn
        have hnl := HNl.out
        have hk2 : (cn : Int).tmod (n1 : Int) = ((cn % n1 : Nat) : Int) := by rw [Int.ofNat_tmod]
        have hk2e : (cn : Int) % (n1 : Int) = ((cn % n1 : Nat) : Int) := by rw [Int.natCast_emod]
        have q3 : ((n1 : Int) == 0) = false := beq_eq_false_iff_ne.2 (by omega)
        have b1 : (n1 : Int) ≤ 500000 := by have := encL_len HRB.out; omega
        generalize hK2 : cn % n1 = k2 at hk2 hk2e
        have hl2 : k2 < n1 := by rw [← hK2]; exact Nat.mod_lt _ n1p
        obtain ⟨q, hq⟩ := decL_cut HRB.out (n := k2) (by omega)
        have hsrc := HB9.out.2
        have hx1 := hsrc.hcap
        obtain ⟨x1, hx, _⟩ := hsrc.row.at 0 n1p
        subst hx
        have hD := decode_any (w := U) (a := some x1) (len := k2) (cap := c1') (L := (encL M).take k2) ⟨brow_take hsrc.row k2 hl2, by have := hsrc.hm; omega, by omega, hsrc.hcap2⟩
        rw [hq] at hD
        have HD : Hid (Calls Tryd.prog 14 #[.slice (some x1) k2 c1'] U fun e w' => ∃ g, e = .returned (.tuple #[.agg #[.int .i64 0, .int .i64 0, .int .i64 0, .int .i64 0, .int .i64 0, .int .i64 0, .int .i64 0, .int .i64 0, .bool false, .slice none 0 0, .int .i64 0, .int .i64 0, .slice none 0 0, .slice none 0 0], .iface 68 (.pointer (some ⟨g, 0, none⟩))]) ∧ Below U.heap.size U w') := hD.mono fun e w' hq => by
          obtain ⟨h1, v, h2, g, h3, _⟩ := hq
          subst h3
          exact ⟨g, h2, h1⟩
        have hle1 : (k2 : Int) ≤ (c1' : Int) := by omega
        have hcc9 : (c1' : Int) ≤ 9223372036854775807 := by have := hsrc.hcap2; omega
        clear hD hq hsrc hK2 q2 hnl
        go_wp2_with (fail)
        refine HD.out.mono ?_
        rintro e w10 ⟨g, rfl, hb⟩
        obtain ⟨w11, hw11⟩ : ∃ w11, w11 = w10.alloc (.cells #[.int .i64 0, .int .i64 0, .int .i64 0, .int .i64 0, .int .i64 0, .int .i64 0, .int .i64 0, .int .i64 0, .bool false, .slice none 0 0, .int .i64 0, .int .i64 0, .slice none 0 0, .slice none 0 0] 28) := ⟨_, rfl⟩
        have hb11 : Below w10.heap.size w10 w11 := by rw [hw11]; exact (Below.refl _ w10).alloc (Nat.le_refl _) _
        have hbU : Below U.heap.size U w11 := hb.trans (hb11.mono hb.size)
        have HB11 : Hid (Below w1.heap.size w1 w11 ∧ BRow w11 (some x1) n1 c1' (encL M) ∧ n1 ≤ c1') := ⟨HB9.out.1.trans (hbU.mono HB9.out.1.size), HB9.out.2.row.below hbU, HB9.out.2.hcap⟩
        clear HD hb hb11 hbU HB9 hk2 hk2e hl2 hle1
        go_upto_region 14 with fail
        rw [← hw11]
        clear hw11
        have ho : OwnB (w11.alloc (.cells #[] 5)) w11.heap.size (.slice (some ⟨w11.heap.size, 0, none⟩) 0 0) [] := World.ownsRow_made w11 #[] 0 (Nat.le_refl _) (by unfold maxLen; omega) rfl
        have HO : Hid (OwnB (w11.alloc (.cells #[] 5)) w11.heap.size (.slice (some ⟨w11.heap.size, 0, none⟩) 0 0) [] ∧ Below w11.heap.size w11 (w11.alloc (.cells #[] 5))) := ⟨ho, (Below.refl _ w11).alloc (Nat.le_refl _) _⟩
        clear ho
        obtain ⟨cc, hcc⟩ : ∃ cc : UInt8, ((cn : Int) % 256) = (cc.toNat : Int) := ⟨(cn % 256).toUInt8, by rw [toU8N _ (by omega)]; omega⟩
        have HCC : Hid (((cn : Int) % 256) = (cc.toNat : Int)) := hcc
        go_wp2_with (at_builtin; refine wpList_copy HO.out.1 (HB11.out.2.1.below HO.out.2) ?c1 ?c2 rfl _ _ rfl rfl rfl ?_)
        case c1 => simp; omega
        case c2 => simp
        intro vo w12 hown12 hb12
        have hb1112 : Below w11.heap.size w11 w12 := HO.out.2.trans hb12
        have HO2 : Hid (∀ o, OwnB (w12.alloc o) w11.heap.size vo (encL M) ∧ Below w11.heap.size w11 (w12.alloc o)) := fun o => ⟨own_below2 hown12 ((Below.refl _ w12).alloc (Nat.le_refl _) o), hb1112.alloc hb1112.size o⟩
        clear hown12 hb12 hb1112 HO
        go_wp2_with (at_builtin; refine wpList_copy (HO2.out _).1 (brow_one _ _ cc ?c0 _) ?c1 ?c2 rfl _ _ rfl rfl rfl ?_)
        case c0 => first | exact HCC.out | (have := HCC.out; omega)
        case c1 => have := encL_len HRB.out; omega
        case c2 => exact (HO2.out _).2.size
        intro vo2 w13 hown13 hb13
        obtain ⟨a3, c3, hv3, hsrc3⟩ := own_src hown13 (by rw [List.length_append]; have := encL_len HRB.out; simp; omega)
        subst hv3
        have hD := decode_any hsrc3
        rw [decL_more HRB.out cc] at hD
        obtain ⟨n3, hn3⟩ : ∃ n, (encL M ++ [cc]).length = n := ⟨_, rfl⟩
        rw [hn3] at hD ⊢
        have HD : Hid (Calls Tryd.prog 14 #[.slice a3 n3 c3] w13 fun e w' => ∃ g, e = .returned (.tuple #[.agg #[.int .i64 0, .int .i64 0, .int .i64 0, .int .i64 0, .int .i64 0, .int .i64 0, .int .i64 0, .int .i64 0, .bool false, .slice none 0 0, .int .i64 0, .int .i64 0, .slice none 0 0, .slice none 0 0], .iface 68 (.pointer (some ⟨g, 0, none⟩))]) ∧ Below w13.heap.size w13 w') := hD.mono fun e w' hq => by
          obtain ⟨h1, v, h2, g, h3, _⟩ := hq
          subst h3
          exact ⟨g, h2, h1⟩
        have hb1113 : Below w11.heap.size w11 w13 := (HO2.out _).2.trans hb13
        have HB13 : Hid (Below w1.heap.size w1 w13) := HB11.out.1.trans (hb1113.mono HB11.out.1.size)
        clear hown13 hb13 hsrc3 hD hn3 hb1113 HO2 HB11 HCC hcc
        go_wp2_with (fail)
        refine HD.out.mono ?_
        rintro e w14 ⟨g2, rfl, hb⟩
        have HB14 : Hid (∀ o, Below w1.heap.size w1 (w14.alloc o)) := fun o => (HB13.out.trans (hb.mono HB13.out.size)).alloc (Nat.le_trans HB13.out.size hb.size) o
        clear HD hb HB13
        go_wp2_with fail
        go_meet
        exact HB14.out _
  case rest =>
    clear HB6 HRB q1 q2
    have HB7 : Hid (Below w1.heap.size w1 wc ∧ Below w.heap.size w wc) := ⟨hcut.out, HK.out.2.trans (hcut.out.mono HK.out.2.size)⟩
    clear hcut
    generalize wc = U at *
    have hD := decode_any (HBs.out U HB7.out.1)
    have hinv := fun N (hq : decL bl = .ok N) => decL_inv hq
    cases hX : decL bl with
    | error q =>
      rw [hX] at hD
      have HD : Hid (Calls Tryd.prog 14 #[.slice ba bn bc] U fun e w' => ∃ g, e = .returned (.tuple #[.agg #[.int .i64 0, .int .i64 0, .int .i64 0, .int .i64 0, .int .i64 0, .int .i64 0, .int .i64 0, .int .i64 0, .bool false, .slice none 0 0, .int .i64 0, .int .i64 0, .slice none 0 0, .slice none 0 0], .iface 68 (.pointer (some ⟨g, 0, none⟩))]) ∧ Below U.heap.size U w') := hD.mono fun e w' hq => by
        obtain ⟨h1, v, h2, g, h3, _⟩ := hq
        subst h3
        exact ⟨g, h2, h1⟩
      clear hD hX hinv HBs HW
      go_wp2_with (fail)
      refine HD.out.mono ?_
      rintro e w7 ⟨g, rfl, hb⟩
      obtain ⟨w8, hw8⟩ : ∃ w8, w8 = w7.alloc (.cells #[.int .i64 0, .int .i64 0, .int .i64 0, .int .i64 0, .int .i64 0, .int .i64 0, .int .i64 0, .int .i64 0, .bool false, .slice none 0 0, .int .i64 0, .int .i64 0, .slice none 0 0, .slice none 0 0] 28) := ⟨_, rfl⟩
      have hb8 : Below w7.heap.size w7 w8 := by rw [hw8]; exact (Below.refl _ w7).alloc (Nat.le_refl _) _
      have hk8 : w8.heap[w7.heap.size]? = some (.cells #[.int .i64 0, .int .i64 0, .int .i64 0, .int .i64 0, .int .i64 0, .int .i64 0, .int .i64 0, .int .i64 0, .bool false, .slice none 0 0, .int .i64 0, .int .i64 0, .slice none 0 0, .slice none 0 0] 28 (0, 0)) := by rw [hw8]; exact heap_alloc_new _ _
      have hbU : Below U.heap.size U w8 := hb.trans (hb8.mono hb.size)
      have HB8 : Hid (Below w.heap.size w w8) := HB7.out.2.trans (hbU.mono HB7.out.2.size)
      have hS := same_any (w := w8) ltZ ltZ ltA0 ltA0 (ltZ_w w8) (ltZ_w w8)
      have hd : decide (ltZ = ltZ) = true := by simp
      rw [hd] at hS
      have HS : Hid (Calls Tryd.prog 15 #[.agg #[.int .i64 0, .int .i64 0, .int .i64 0, .int .i64 0, .int .i64 0, .int .i64 0, .int .i64 0, .int .i64 0, .bool false, .slice none 0 0, .int .i64 0, .int .i64 0, .slice none 0 0, .slice none 0 0], .agg #[.int .i64 0, .int .i64 0, .int .i64 0, .int .i64 0, .int .i64 0, .int .i64 0, .int .i64 0, .int .i64 0, .bool false, .slice none 0 0, .int .i64 0, .int .i64 0, .slice none 0 0, .slice none 0 0]] w8 fun e w' => e = .returned (.bool true) ∧ Below w8.heap.size w8 w') := hS
      have x0 : w8.cell? ⟨w7.heap.size, 0, none⟩ = some (.int .i64 0) := pcell hk8 rfl
      have x1 : w8.cell? ⟨w7.heap.size, 1, none⟩ = some (.int .i64 0) := pcell hk8 rfl
      have x2 : w8.cell? ⟨w7.heap.size, 2, none⟩ = some (.int .i64 0) := pcell hk8 rfl
      have x3 : w8.cell? ⟨w7.heap.size, 3, none⟩ = some (.int .i64 0) := pcell hk8 rfl
      have x4 : w8.cell? ⟨w7.heap.size, 4, none⟩ = some (.int .i64 0) := pcell hk8 rfl
      have x5 : w8.cell? ⟨w7.heap.size, 5, none⟩ = some (.int .i64 0) := pcell hk8 rfl
      have x6 : w8.cell? ⟨w7.heap.size, 6, none⟩ = some (.int .i64 0) := pcell hk8 rfl
      have x7 : w8.cell? ⟨w7.heap.size, 7, none⟩ = some (.int .i64 0) := pcell hk8 rfl
      have x8 : w8.cell? ⟨w7.heap.size, 8, none⟩ = some (.bool false) := pcell hk8 rfl
      have x9 : w8.cell? ⟨w7.heap.size, 9, none⟩ = some (.slice none 0 0) := pcell hk8 rfl
      have x10 : w8.cell? ⟨w7.heap.size, 10, none⟩ = some (.int .i64 0) := pcell hk8 rfl
      have x11 : w8.cell? ⟨w7.heap.size, 11, none⟩ = some (.int .i64 0) := pcell hk8 rfl
      have x12 : w8.cell? ⟨w7.heap.size, 12, none⟩ = some (.slice none 0 0) := pcell hk8 rfl
      have x13 : w8.cell? ⟨w7.heap.size, 13, none⟩ = some (.slice none 0 0) := pcell hk8 rfl
      clear HD hb hb8 hk8 hbU hS hd HB7
      go_upto_if 102 with fail
      rw [← hw8]
      clear hw8
      go_wp2_with (fail)
      refine HS.out.mono ?_
      rintro e w9 ⟨rfl, hb⟩
      have HB9 : Hid (Below w.heap.size w w9) := HB8.out.trans (hb.mono HB8.out.size)
      clear HS hb HB8 x0 x1 x2 x3 x4 x5 x6 x7 x8 x9 x10 x11 x12 x13
      go_wp2_with fail
      go_ret
      exact ⟨rfl, HB9.out⟩
    | ok N =>
      rw [hX] at hD
      obtain ⟨hrN, heN⟩ := hinv N hX
      have HN : Hid (rightB N = true ∧ encL N = bl) := ⟨hrN, heN⟩
      have HD : Hid (Calls Tryd.prog 14 #[.slice ba bn bc] U fun e w' => ∃ A2, e = .returned (.tuple #[.agg #[.int .i64 N.k, .int .i64 N.f, .int .i64 N.t, .int .i64 N.tm, .int .i64 N.i, .int .i64 N.lt, .int .i64 N.cm, .int .i64 N.rd, .bool N.ok, .slice A2.ea N.es.length A2.ec, .int .i64 N.sx, .int .i64 N.st, .slice A2.na N.ns.length A2.nc, .slice A2.da N.da.length A2.dc], .nilIface]) ∧ LtW w' N A2 ∧ Below U.heap.size U w') := hD.mono fun e w' hq => by
        obtain ⟨h1, A2, h2, h3⟩ := hq
        exact ⟨A2, h2, h3.ltw, h1⟩
      clear hD hX hinv HW hrN heN
      go_wp2_with (fail)
      refine HD.out.mono ?_
      rintro e w7 ⟨A2, rfl, hlw, hb⟩
      obtain ⟨w8, hw8⟩ : ∃ w8, w8 = w7.alloc (.cells #[.int .i64 N.k, .int .i64 N.f, .int .i64 N.t, .int .i64 N.tm, .int .i64 N.i, .int .i64 N.lt, .int .i64 N.cm, .int .i64 N.rd, .bool N.ok, .slice A2.ea N.es.length A2.ec, .int .i64 N.sx, .int .i64 N.st, .slice A2.na N.ns.length A2.nc, .slice A2.da N.da.length A2.dc] 28) := ⟨_, rfl⟩
      have hb8 : Below w7.heap.size w7 w8 := by rw [hw8]; exact (Below.refl _ w7).alloc (Nat.le_refl _) _
      have hk8 : w8.heap[w7.heap.size]? = some (.cells #[.int .i64 N.k, .int .i64 N.f, .int .i64 N.t, .int .i64 N.tm, .int .i64 N.i, .int .i64 N.lt, .int .i64 N.cm, .int .i64 N.rd, .bool N.ok, .slice A2.ea N.es.length A2.ec, .int .i64 N.sx, .int .i64 N.st, .slice A2.na N.ns.length A2.nc, .slice A2.da N.da.length A2.dc] 28 (0, 0)) := by rw [hw8]; exact heap_alloc_new _ _
      have hbU : Below U.heap.size U w8 := hb.trans (hb8.mono hb.size)
      have HB8 : Hid (Below w1.heap.size w1 w8 ∧ Below w.heap.size w w8) := ⟨HB7.out.1.trans (hbU.mono HB7.out.1.size), HB7.out.2.trans (hbU.mono HB7.out.2.size)⟩
      have hE := encode_any N A2 (hlw.below hb8)
      have HE : Hid (Calls Tryd.prog 11 #[.agg #[.int .i64 N.k, .int .i64 N.f, .int .i64 N.t, .int .i64 N.tm, .int .i64 N.i, .int .i64 N.lt, .int .i64 N.cm, .int .i64 N.rd, .bool N.ok, .slice A2.ea N.es.length A2.ec, .int .i64 N.sx, .int .i64 N.st, .slice A2.na N.ns.length A2.nc, .slice A2.da N.da.length A2.dc]] w8 fun e w' => ∃ (a1 : Option Addr) (n1 c1 : Nat), e = .returned (.tuple #[.slice a1 n1 c1, .int .i64 0]) ∧ BRow w' a1 n1 c1 bl ∧ Below w8.heap.size w8 w') := hE.mono fun e w' hq => by
        obtain ⟨h1, h2⟩ := hq
        rcases h2 with ⟨h3, v, h4, h5⟩ | ⟨h3, h4⟩
        · obtain ⟨a9, c9, hv⟩ := own_slice h5
          subst hv
          have h6 := own_brow h5
          rw [HN.out.2] at h4 h6
          exact ⟨a9, _, c9, h4, h6, h1⟩
        · rw [HN.out.1] at h3
          cases h3
      have x0 : w8.cell? ⟨w7.heap.size, 0, none⟩ = some (.int .i64 N.k) := pcell hk8 rfl
      have x1 : w8.cell? ⟨w7.heap.size, 1, none⟩ = some (.int .i64 N.f) := pcell hk8 rfl
      have x2 : w8.cell? ⟨w7.heap.size, 2, none⟩ = some (.int .i64 N.t) := pcell hk8 rfl
      have x3 : w8.cell? ⟨w7.heap.size, 3, none⟩ = some (.int .i64 N.tm) := pcell hk8 rfl
      have x4 : w8.cell? ⟨w7.heap.size, 4, none⟩ = some (.int .i64 N.i) := pcell hk8 rfl
      have x5 : w8.cell? ⟨w7.heap.size, 5, none⟩ = some (.int .i64 N.lt) := pcell hk8 rfl
      have x6 : w8.cell? ⟨w7.heap.size, 6, none⟩ = some (.int .i64 N.cm) := pcell hk8 rfl
      have x7 : w8.cell? ⟨w7.heap.size, 7, none⟩ = some (.int .i64 N.rd) := pcell hk8 rfl
      have x8 : w8.cell? ⟨w7.heap.size, 8, none⟩ = some (.bool N.ok) := pcell hk8 rfl
      have x9 : w8.cell? ⟨w7.heap.size, 9, none⟩ = some (.slice A2.ea N.es.length A2.ec) := pcell hk8 rfl
      have x10 : w8.cell? ⟨w7.heap.size, 10, none⟩ = some (.int .i64 N.sx) := pcell hk8 rfl
      have x11 : w8.cell? ⟨w7.heap.size, 11, none⟩ = some (.int .i64 N.st) := pcell hk8 rfl
      have x12 : w8.cell? ⟨w7.heap.size, 12, none⟩ = some (.slice A2.na N.ns.length A2.nc) := pcell hk8 rfl
      have x13 : w8.cell? ⟨w7.heap.size, 13, none⟩ = some (.slice A2.da N.da.length A2.dc) := pcell hk8 rfl
      clear HD hlw hb hb8 hk8 hbU hE HB7
      go_upto_if 102 with fail
      rw [← hw8]
      clear hw8
      go_wp2_with (fail)
      refine HE.out.mono ?_
      rintro e w9 ⟨a1, n1, c1', rfl, hr, hb⟩
      obtain ⟨S1, hS1⟩ : ∃ S1 : ByteArray, S1 = ⟨bl.toArray⟩ := ⟨_, rfl⟩
      have t1 : (convert 24 9 (.slice a1 n1 c1')).run Tryd.prog w9 = .ok (.string S1) w9 := by rw [hS1]; exact hr.string
      have t2 : (convert 24 9 (.slice ba bn bc)).run Tryd.prog w9 = .ok (.string S1) w9 := by rw [hS1]; exact ((HBs.out _ HB8.out.1).row.below hb).string
      have HB9 : Hid (Below w.heap.size w w9) := HB8.out.2.trans (hb.mono HB8.out.2.size)
      clear HE hb HB8 hr hS1 HBs x0 x1 x2 x3 x4 x5 x6 x7 x8 x9 x10 x11 x12 x13
      go_wp2_with fail
      go_ret
      exact ⟨rfl, HB9.out⟩
end Go.Proofs.YtmlihlnigojmpaaDoor
