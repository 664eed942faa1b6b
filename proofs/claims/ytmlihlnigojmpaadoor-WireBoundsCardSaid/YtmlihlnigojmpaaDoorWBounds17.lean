/- WireBounds: an LAnswer of any numbers: walked. -/
import Derived.Test.YtmlihlnigojmpaaDoorWSh17
import Derived.Test.YtmlihlnigojmpaaDoorWSame
import Derived.Test.YtmlihlnigojmpaaDoorWLen
set_option linter.unusedVariables false
namespace Go.Proofs.YtmlihlnigojmpaaDoor
open Go.RowKit

/-- An answer of these numbers. -/
def ltW4 (f t tm i rd : Int) (ok : Bool) : Lt := { k := 4, f := f, t := t, tm := tm, i := i, lt := 0, cm := 0, rd := rd, ok := ok, es := [], sx := 0, st := 0, ns := [], da := [] }
theorem ltW4_right (f t tm i rd : Int) (ok : Bool) : rightB (ltW4 f t tm i rd ok) = decide (1 ≤ f ∧ f ≤ 5 ∧ 1 ≤ t ∧ t ≤ 5 ∧ f ≠ t ∧ 1 ≤ tm ∧ tm ≤ 999999 ∧ 0 ≤ i ∧ i ≤ 999999 ∧ 0 ≤ rd ∧ rd ≤ 1073741824) := by
  have h1 : nilB (restL (ltW4 f t tm i rd ok)) = true := by
    unfold restL ltW4
    simp [nilB, numB, snpB]
  have h2 : mayB (ltW4 f t tm i rd ok) = true := by unfold mayB ltW4; simp
  unfold rightB
  rw [h1, h2, Bool.and_true, Bool.and_true]
  unfold headB boundsB inB ltW4
  rw [Bool.eq_iff_iff]
  simp
  omega
theorem ltW4_w (f t tm i rd : Int) (ok : Bool) (w : World) (hf : i64B f) (ht : i64B t) (htm : i64B tm) (hi : i64B i) (hrd : i64B rd) : LtW w (ltW4 f t tm i rd ok) ltA0 := by
  have z0 : i64B 0 := by unfold i64B; omega
  have z4 : i64B 4 := by unfold i64B; omega
  exact { es := fun j e h => by simp [ltW4] at h, ns := fun j e h => by simp [ltW4] at h, da := ⟨rfl, .inl ⟨rfl, rfl, rfl⟩⟩, el := Nat.zero_le _, nl := Nat.zero_le _, dl := Nat.zero_le _, dcl := Nat.le_refl _, rk := z4, rf := hf, rt := ht, rtm := htm, ri := hi, rlt := z0, rcm := z0, rrd := hrd, rsx := z0, rst := z0 }
/-- Bytes of one's own may be read. -/
theorem own_src {w : World} {B : Nat} {v : Value} {l : List UInt8} (h : OwnB w B v l) (hl : l.length ≤ 140737488355328) : ∃ a c, v = .slice a l.length c ∧ Src w a l.length c l := by
  obtain ⟨a, c, hv⟩ := own_slice h
  subst hv
  have hr := own_brow h
  refine ⟨a, c, rfl, ?_⟩
  rcases h.2 with ⟨h1, h2⟩ | ⟨g, cap, cur, hv, _, _, h3, h4, _⟩
  · have e1 : c = 0 := by injection h1
    exact ⟨hr, hl, by omega, by omega⟩
  · have e1 : c = cap := by injection hv
    subst e1
    unfold maxLen at h4
    exact ⟨hr, hl, h3, by omega⟩

set_option maxHeartbeats 16000000 in
set_option maxRecDepth 100000 in
theorem bounds17 (f t tm i rd : Int) (ok : Bool) (w : World) (hG : EType w) (hf : i64B f) (ht : i64B t) (htm : i64B tm) (hi : i64B i) (hrd : i64B rd) :
    Calls Tryd.prog 6 #[.int .i64 f, .int .i64 t, .int .i64 tm, .int .i64 i, .int .i64 rd, .bool ok] w fun e w' => e = .returned (.bool true) ∧ Below w.heap.size w w' := by
  have HSh : Hid (Calls Tryd.prog 7 #[] w fun e w' => e = .returned (.bool true) ∧ Below w.heap.size w w') := shown_any w hG
  obtain ⟨MB, hMB⟩ : ∃ B, rightB (ltW4 f t tm i rd ok) = B := ⟨_, rfl⟩
  have HMB : Hid (rightB (ltW4 f t tm i rd ok) = MB ∧ MB = decide (1 ≤ f ∧ f ≤ 5 ∧ 1 ≤ t ∧ t ≤ 5 ∧ f ≠ t ∧ 1 ≤ tm ∧ tm ≤ 999999 ∧ 0 ≤ i ∧ i ≤ 999999 ∧ 0 ≤ rd ∧ rd ≤ 1073741824)) := ⟨hMB, hMB.symm.trans (ltW4_right f t tm i rd ok)⟩
  have HW : Hid (∀ u, LtW u (ltW4 f t tm i rd ok) ltA0) := fun u => ltW4_w f t tm i rd ok u hf ht htm hi hrd
  have f1 : -9223372036854775808 ≤ f := hf.1
  have f2 : f ≤ 9223372036854775807 := hf.2
  clear hMB hG hf ht htm hi hrd
  go_enter Tryd.func6, Tryd.ntmps6
  go_wp2_with (fail)
  refine HSh.out.mono ?_
  rintro e w1 ⟨rfl, hb1⟩
  have HB1 : Hid (Below w.heap.size w w1) := hb1
  clear HSh hb1
  obtain ⟨w2, hw2⟩ : ∃ w2, w2 = w1.alloc (.cells #[.int .i64 4, .int .i64 f, .int .i64 t, .int .i64 tm, .int .i64 i, .int .i64 0, .int .i64 0, .int .i64 rd, .bool ok, .slice none 0 0, .int .i64 0, .int .i64 0, .slice none 0 0, .slice none 0 0] 28) := ⟨_, rfl⟩
  have hb2 : Below w1.heap.size w1 w2 := by rw [hw2]; exact (Below.refl _ w1).alloc (Nat.le_refl _) _
  have hk2 : w2.heap[w1.heap.size]? = some (.cells #[.int .i64 4, .int .i64 f, .int .i64 t, .int .i64 tm, .int .i64 i, .int .i64 0, .int .i64 0, .int .i64 rd, .bool ok, .slice none 0 0, .int .i64 0, .int .i64 0, .slice none 0 0, .slice none 0 0] 28 (0, 0)) := by rw [hw2]; exact heap_alloc_new _ _
  have HK : Hid (w2.heap[w1.heap.size]? = some (.cells #[.int .i64 4, .int .i64 f, .int .i64 t, .int .i64 tm, .int .i64 i, .int .i64 0, .int .i64 0, .int .i64 rd, .bool ok, .slice none 0 0, .int .i64 0, .int .i64 0, .slice none 0 0, .slice none 0 0] 28 (0, 0)) ∧ Below w.heap.size w w2) := ⟨hk2, HB1.out.trans (hb2.mono HB1.out.size)⟩
  clear hb2 hk2
  go_upto_region 3 with fail
  rw [← hw2]
  clear hw2
  go_cut [15] from 29 to 72 (fun X wx => X = .bool MB ∧ wx = w2)
  case first =>
    by_cases c0 : 1 ≤ f
    rotate_left 1
    · have HF : Hid (MB = false) := by show MB = false; rw [HMB.out.2]; simp only [decide_eq_false_iff_not]; omega
      clear HMB HW
      go_wp2_with fail
      go_meet
      exact ⟨by rw [HF.out], rfl⟩
    by_cases c1 : f ≤ 5
    rotate_left 1
    · have HF : Hid (MB = false) := by show MB = false; rw [HMB.out.2]; simp only [decide_eq_false_iff_not]; omega
      clear HMB HW
      go_wp2_with fail
      go_meet
      exact ⟨by rw [HF.out], rfl⟩
    by_cases c2 : 1 ≤ t
    rotate_left 1
    · have HF : Hid (MB = false) := by show MB = false; rw [HMB.out.2]; simp only [decide_eq_false_iff_not]; omega
      clear HMB HW
      go_wp2_with fail
      go_meet
      exact ⟨by rw [HF.out], rfl⟩
    by_cases c3 : t ≤ 5
    rotate_left 1
    · have HF : Hid (MB = false) := by show MB = false; rw [HMB.out.2]; simp only [decide_eq_false_iff_not]; omega
      clear HMB HW
      go_wp2_with fail
      go_meet
      exact ⟨by rw [HF.out], rfl⟩
    by_cases c4 : f ≠ t
    rotate_left 1
    · have q4 : (f != t) = false := by simp at c4 ⊢; exact c4
      have HF : Hid (MB = false) := by show MB = false; rw [HMB.out.2]; simp only [decide_eq_false_iff_not]; omega
      clear HMB HW
      clear c4
      go_wp2_with fail
      go_meet
      exact ⟨by rw [HF.out], rfl⟩
    have q4 : (f != t) = true := by simp at c4 ⊢; exact c4
    by_cases c5 : 1 ≤ tm
    rotate_left 1
    · have HF : Hid (MB = false) := by show MB = false; rw [HMB.out.2]; simp only [decide_eq_false_iff_not]; omega
      clear HMB HW
      go_wp2_with fail
      go_meet
      exact ⟨by rw [HF.out], rfl⟩
    by_cases c6 : tm ≤ 999999
    rotate_left 1
    · have HF : Hid (MB = false) := by show MB = false; rw [HMB.out.2]; simp only [decide_eq_false_iff_not]; omega
      clear HMB HW
      go_wp2_with fail
      go_meet
      exact ⟨by rw [HF.out], rfl⟩
    by_cases c7 : 0 ≤ i
    rotate_left 1
    · have HF : Hid (MB = false) := by show MB = false; rw [HMB.out.2]; simp only [decide_eq_false_iff_not]; omega
      clear HMB HW
      go_wp2_with fail
      go_meet
      exact ⟨by rw [HF.out], rfl⟩
    by_cases c8 : i ≤ 999999
    rotate_left 1
    · have HF : Hid (MB = false) := by show MB = false; rw [HMB.out.2]; simp only [decide_eq_false_iff_not]; omega
      clear HMB HW
      go_wp2_with fail
      go_meet
      exact ⟨by rw [HF.out], rfl⟩
    by_cases c9 : 0 ≤ rd
    rotate_left 1
    · have HF : Hid (MB = false) := by show MB = false; rw [HMB.out.2]; simp only [decide_eq_false_iff_not]; omega
      clear HMB HW
      go_wp2_with fail
      go_meet
      exact ⟨by rw [HF.out], rfl⟩
    by_cases c10 : rd ≤ 1073741824
    rotate_left 1
    · have HF : Hid (MB = false) := by show MB = false; rw [HMB.out.2]; simp only [decide_eq_false_iff_not]; omega
      clear HMB HW
      go_wp2_with fail
      go_meet
      exact ⟨by rw [HF.out], rfl⟩
    have HF : Hid (MB = true) := by show MB = true; rw [HMB.out.2]; simp only [decide_eq_true_eq]; omega
    clear HMB HW c4
    go_wp2_with fail
    go_meet
    exact ⟨by rw [HF.out], rfl⟩
  case rest =>
    obtain ⟨rfl, hw⟩ := hcut
    subst hw
    generalize wc = U at *
    have hR := fun u => right_any (w := u) (ltW4 f t tm i rd ok) ltA0 (HW.out u)
    simp only [HMB.out.1] at hR
    have HR : Hid (∀ u, Calls Tryd.prog 12 #[.agg #[.int .i64 4, .int .i64 f, .int .i64 t, .int .i64 tm, .int .i64 i, .int .i64 0, .int .i64 0, .int .i64 rd, .bool ok, .slice none 0 0, .int .i64 0, .int .i64 0, .slice none 0 0, .slice none 0 0]] u fun e w' => e = .returned (.bool MB) ∧ Below u.heap.size u w') := hR
    have hE := encode_any (w := U) (ltW4 f t tm i rd ok) ltA0 (HW.out U)
    rw [HMB.out.1] at hE
    clear hR
    have x0 : U.cell? ⟨w1.heap.size, 0, none⟩ = some (.int .i64 4) := pcell HK.out.1 rfl
    have x1 : U.cell? ⟨w1.heap.size, 1, none⟩ = some (.int .i64 f) := pcell HK.out.1 rfl
    have x2 : U.cell? ⟨w1.heap.size, 2, none⟩ = some (.int .i64 t) := pcell HK.out.1 rfl
    have x3 : U.cell? ⟨w1.heap.size, 3, none⟩ = some (.int .i64 tm) := pcell HK.out.1 rfl
    have x4 : U.cell? ⟨w1.heap.size, 4, none⟩ = some (.int .i64 i) := pcell HK.out.1 rfl
    have x5 : U.cell? ⟨w1.heap.size, 5, none⟩ = some (.int .i64 0) := pcell HK.out.1 rfl
    have x6 : U.cell? ⟨w1.heap.size, 6, none⟩ = some (.int .i64 0) := pcell HK.out.1 rfl
    have x7 : U.cell? ⟨w1.heap.size, 7, none⟩ = some (.int .i64 rd) := pcell HK.out.1 rfl
    have x8 : U.cell? ⟨w1.heap.size, 8, none⟩ = some (.bool ok) := pcell HK.out.1 rfl
    have x9 : U.cell? ⟨w1.heap.size, 9, none⟩ = some (.slice none 0 0) := pcell HK.out.1 rfl
    have x10 : U.cell? ⟨w1.heap.size, 10, none⟩ = some (.int .i64 0) := pcell HK.out.1 rfl
    have x11 : U.cell? ⟨w1.heap.size, 11, none⟩ = some (.int .i64 0) := pcell HK.out.1 rfl
    have x12 : U.cell? ⟨w1.heap.size, 12, none⟩ = some (.slice none 0 0) := pcell HK.out.1 rfl
    have x13 : U.cell? ⟨w1.heap.size, 13, none⟩ = some (.slice none 0 0) := pcell HK.out.1 rfl
    cases MB with
    | false =>
      have HE : Hid (Calls Tryd.prog 11 #[.agg #[.int .i64 4, .int .i64 f, .int .i64 t, .int .i64 tm, .int .i64 i, .int .i64 0, .int .i64 0, .int .i64 rd, .bool ok, .slice none 0 0, .int .i64 0, .int .i64 0, .slice none 0 0, .slice none 0 0]] U fun e w' => e = .returned (.tuple #[.slice none 0 0, .int .i64 1]) ∧ Below U.heap.size U w') := hE.mono fun e w' h => by
        rcases h.2 with ⟨h1, _⟩ | ⟨_, h2⟩
        · cases h1
        · exact ⟨h2, h.1⟩
      clear hE HMB HW f1 f2
      go_wp2_with (fail)
      refine HE.out.mono ?_
      rintro e w3 ⟨rfl, hb⟩
      have HB3 : Hid (Below w.heap.size w w3) := HK.out.2.trans (hb.mono HK.out.2.size)
      have y0 : w3.cell? ⟨w1.heap.size, 0, none⟩ = some (.int .i64 4) := lt_cell HK.out.1 hb rfl
      have y1 : w3.cell? ⟨w1.heap.size, 1, none⟩ = some (.int .i64 f) := lt_cell HK.out.1 hb rfl
      have y2 : w3.cell? ⟨w1.heap.size, 2, none⟩ = some (.int .i64 t) := lt_cell HK.out.1 hb rfl
      have y3 : w3.cell? ⟨w1.heap.size, 3, none⟩ = some (.int .i64 tm) := lt_cell HK.out.1 hb rfl
      have y4 : w3.cell? ⟨w1.heap.size, 4, none⟩ = some (.int .i64 i) := lt_cell HK.out.1 hb rfl
      have y5 : w3.cell? ⟨w1.heap.size, 5, none⟩ = some (.int .i64 0) := lt_cell HK.out.1 hb rfl
      have y6 : w3.cell? ⟨w1.heap.size, 6, none⟩ = some (.int .i64 0) := lt_cell HK.out.1 hb rfl
      have y7 : w3.cell? ⟨w1.heap.size, 7, none⟩ = some (.int .i64 rd) := lt_cell HK.out.1 hb rfl
      have y8 : w3.cell? ⟨w1.heap.size, 8, none⟩ = some (.bool ok) := lt_cell HK.out.1 hb rfl
      have y9 : w3.cell? ⟨w1.heap.size, 9, none⟩ = some (.slice none 0 0) := lt_cell HK.out.1 hb rfl
      have y10 : w3.cell? ⟨w1.heap.size, 10, none⟩ = some (.int .i64 0) := lt_cell HK.out.1 hb rfl
      have y11 : w3.cell? ⟨w1.heap.size, 11, none⟩ = some (.int .i64 0) := lt_cell HK.out.1 hb rfl
      have y12 : w3.cell? ⟨w1.heap.size, 12, none⟩ = some (.slice none 0 0) := lt_cell HK.out.1 hb rfl
      have y13 : w3.cell? ⟨w1.heap.size, 13, none⟩ = some (.slice none 0 0) := lt_cell HK.out.1 hb rfl
      clear HE hb x0 x1 x2 x3 x4 x5 x6 x7 x8 x9 x10 x11 x12 x13
      go_wp2_with (fail)
      refine (HR.out _).mono ?_
      rintro e w4 ⟨rfl, hb⟩
      have HB4 : Hid (Below w.heap.size w w4) := HB3.out.trans (hb.mono HB3.out.size)
      clear HR hb y0 y1 y2 y3 y4 y5 y6 y7 y8 y9 y10 y11 y12 y13
      go_wp2_with fail
      go_ret
      exact ⟨rfl, HB4.out⟩
    | true =>
      have HE : Hid (Calls Tryd.prog 11 #[.agg #[.int .i64 4, .int .i64 f, .int .i64 t, .int .i64 tm, .int .i64 i, .int .i64 0, .int .i64 0, .int .i64 rd, .bool ok, .slice none 0 0, .int .i64 0, .int .i64 0, .slice none 0 0, .slice none 0 0]] U fun e w' => ∃ v, e = .returned (.tuple #[v, .int .i64 0]) ∧ OwnB w' U.heap.size v (encL (ltW4 f t tm i rd ok)) ∧ Below U.heap.size U w') := hE.mono fun e w' h => by
        rcases h.2 with ⟨_, v, h1, h2⟩ | ⟨h1, _⟩
        · exact ⟨v, h1, h2, h.1⟩
        · cases h1
      clear hE
      go_wp2_with (fail)
      refine HE.out.mono ?_
      rintro e w3 ⟨v3, rfl, hown, hb⟩
      have HB3 : Hid (Below w.heap.size w w3 ∧ Below U.heap.size U w3) := ⟨HK.out.2.trans (hb.mono HK.out.2.size), hb⟩
      obtain ⟨a3, c3, hv3, hsrc⟩ := own_src hown (by have := encL_len HMB.out.1; omega)
      subst hv3
      have hD := decode_any hsrc
      rw [decL_enc HMB.out.1] at hD
      obtain ⟨n3, hn3⟩ : ∃ n, (encL (ltW4 f t tm i rd ok)).length = n := ⟨_, rfl⟩
      rw [hn3] at hD ⊢
      have HD : Hid (Calls Tryd.prog 14 #[.slice a3 n3 c3] w3 fun e w' => ∃ A, e = .returned (.tuple #[.agg #[.int .i64 4, .int .i64 f, .int .i64 t, .int .i64 tm, .int .i64 i, .int .i64 0, .int .i64 0, .int .i64 rd, .bool ok, .slice A.ea 0 A.ec, .int .i64 0, .int .i64 0, .slice A.na 0 A.nc, .slice A.da 0 A.dc], .nilIface]) ∧ LtK w' w3.heap.size (ltW4 f t tm i rd ok) A ∧ Below w3.heap.size w3 w') := hD.mono fun e w' h => by
        obtain ⟨h1, A, h2, h3⟩ := h
        exact ⟨A, h2, h3, h1⟩
      clear HE hb hown hsrc hD hn3 x0 x1 x2 x3 x4 x5 x6 x7 x8 x9 x10 x11 x12 x13
      go_wp2_with (fail)
      refine HD.out.mono ?_
      rintro e w4 ⟨A, rfl, hlk, hb⟩
      obtain ⟨w5, hw5⟩ : ∃ w5, w5 = w4.alloc (.cells #[.int .i64 4, .int .i64 f, .int .i64 t, .int .i64 tm, .int .i64 i, .int .i64 0, .int .i64 0, .int .i64 rd, .bool ok, .slice A.ea 0 A.ec, .int .i64 0, .int .i64 0, .slice A.na 0 A.nc, .slice A.da 0 A.dc] 28) := ⟨_, rfl⟩
      have hb5 : Below w4.heap.size w4 w5 := by rw [hw5]; exact (Below.refl _ w4).alloc (Nat.le_refl _) _
      have hk5 : w5.heap[w4.heap.size]? = some (.cells #[.int .i64 4, .int .i64 f, .int .i64 t, .int .i64 tm, .int .i64 i, .int .i64 0, .int .i64 0, .int .i64 rd, .bool ok, .slice A.ea 0 A.ec, .int .i64 0, .int .i64 0, .slice A.na 0 A.nc, .slice A.da 0 A.dc] 28 (0, 0)) := by rw [hw5]; exact heap_alloc_new _ _
      have hb35 : Below w3.heap.size w3 w5 := hb.trans (hb5.mono hb.size)
      have hbU5 : Below U.heap.size U w5 := HB3.out.2.trans (hb35.mono HB3.out.2.size)
      have hS := same_any (w := w5) (ltW4 f t tm i rd ok) (ltW4 f t tm i rd ok) A ltA0 (hlk.ltw.below hb5) (HW.out w5)
      have hd : decide (ltW4 f t tm i rd ok = ltW4 f t tm i rd ok) = true := by simp
      rw [hd] at hS
      have HS : Hid (Calls Tryd.prog 15 #[.agg #[.int .i64 4, .int .i64 f, .int .i64 t, .int .i64 tm, .int .i64 i, .int .i64 0, .int .i64 0, .int .i64 rd, .bool ok, .slice A.ea 0 A.ec, .int .i64 0, .int .i64 0, .slice A.na 0 A.nc, .slice A.da 0 A.dc], .agg #[.int .i64 4, .int .i64 f, .int .i64 t, .int .i64 tm, .int .i64 i, .int .i64 0, .int .i64 0, .int .i64 rd, .bool ok, .slice none 0 0, .int .i64 0, .int .i64 0, .slice none 0 0, .slice none 0 0]] w5 fun e w' => e = .returned (.bool true) ∧ Below w5.heap.size w5 w') := hS
      have HB5 : Hid (Below w.heap.size w w5 ∧ Below U.heap.size U w5) := ⟨HB3.out.1.trans (hb35.mono HB3.out.1.size), hbU5⟩
      have y0 : w5.cell? ⟨w4.heap.size, 0, none⟩ = some (.int .i64 4) := pcell hk5 rfl
      have y1 : w5.cell? ⟨w4.heap.size, 1, none⟩ = some (.int .i64 f) := pcell hk5 rfl
      have y2 : w5.cell? ⟨w4.heap.size, 2, none⟩ = some (.int .i64 t) := pcell hk5 rfl
      have y3 : w5.cell? ⟨w4.heap.size, 3, none⟩ = some (.int .i64 tm) := pcell hk5 rfl
      have y4 : w5.cell? ⟨w4.heap.size, 4, none⟩ = some (.int .i64 i) := pcell hk5 rfl
      have y5 : w5.cell? ⟨w4.heap.size, 5, none⟩ = some (.int .i64 0) := pcell hk5 rfl
      have y6 : w5.cell? ⟨w4.heap.size, 6, none⟩ = some (.int .i64 0) := pcell hk5 rfl
      have y7 : w5.cell? ⟨w4.heap.size, 7, none⟩ = some (.int .i64 rd) := pcell hk5 rfl
      have y8 : w5.cell? ⟨w4.heap.size, 8, none⟩ = some (.bool ok) := pcell hk5 rfl
      have y9 : w5.cell? ⟨w4.heap.size, 9, none⟩ = some (.slice A.ea 0 A.ec) := pcell hk5 rfl
      have y10 : w5.cell? ⟨w4.heap.size, 10, none⟩ = some (.int .i64 0) := pcell hk5 rfl
      have y11 : w5.cell? ⟨w4.heap.size, 11, none⟩ = some (.int .i64 0) := pcell hk5 rfl
      have y12 : w5.cell? ⟨w4.heap.size, 12, none⟩ = some (.slice A.na 0 A.nc) := pcell hk5 rfl
      have y13 : w5.cell? ⟨w4.heap.size, 13, none⟩ = some (.slice A.da 0 A.dc) := pcell hk5 rfl
      have x0 : w5.cell? ⟨w1.heap.size, 0, none⟩ = some (.int .i64 4) := lt_cell HK.out.1 hbU5 rfl
      have x1 : w5.cell? ⟨w1.heap.size, 1, none⟩ = some (.int .i64 f) := lt_cell HK.out.1 hbU5 rfl
      have x2 : w5.cell? ⟨w1.heap.size, 2, none⟩ = some (.int .i64 t) := lt_cell HK.out.1 hbU5 rfl
      have x3 : w5.cell? ⟨w1.heap.size, 3, none⟩ = some (.int .i64 tm) := lt_cell HK.out.1 hbU5 rfl
      have x4 : w5.cell? ⟨w1.heap.size, 4, none⟩ = some (.int .i64 i) := lt_cell HK.out.1 hbU5 rfl
      have x5 : w5.cell? ⟨w1.heap.size, 5, none⟩ = some (.int .i64 0) := lt_cell HK.out.1 hbU5 rfl
      have x6 : w5.cell? ⟨w1.heap.size, 6, none⟩ = some (.int .i64 0) := lt_cell HK.out.1 hbU5 rfl
      have x7 : w5.cell? ⟨w1.heap.size, 7, none⟩ = some (.int .i64 rd) := lt_cell HK.out.1 hbU5 rfl
      have x8 : w5.cell? ⟨w1.heap.size, 8, none⟩ = some (.bool ok) := lt_cell HK.out.1 hbU5 rfl
      have x9 : w5.cell? ⟨w1.heap.size, 9, none⟩ = some (.slice none 0 0) := lt_cell HK.out.1 hbU5 rfl
      have x10 : w5.cell? ⟨w1.heap.size, 10, none⟩ = some (.int .i64 0) := lt_cell HK.out.1 hbU5 rfl
      have x11 : w5.cell? ⟨w1.heap.size, 11, none⟩ = some (.int .i64 0) := lt_cell HK.out.1 hbU5 rfl
      have x12 : w5.cell? ⟨w1.heap.size, 12, none⟩ = some (.slice none 0 0) := lt_cell HK.out.1 hbU5 rfl
      have x13 : w5.cell? ⟨w1.heap.size, 13, none⟩ = some (.slice none 0 0) := lt_cell HK.out.1 hbU5 rfl
      clear HD hlk hb hb5 hk5 hb35 hbU5 hS hd HMB HW f1 f2
      go_upto_region 8 with fail
      rw [← hw5]
      clear hw5
      go_wp2_with (fail)
      refine HS.out.mono ?_
      rintro e w6 ⟨rfl, hb⟩
      have HB6 : Hid (Below w.heap.size w w6) := HB5.out.1.trans (hb.mono HB5.out.1.size)
      have z0 : w6.cell? ⟨w1.heap.size, 0, none⟩ = some (.int .i64 4) := lt_cell HK.out.1 (HB5.out.2.trans (hb.mono HB5.out.2.size)) rfl
      have z1 : w6.cell? ⟨w1.heap.size, 1, none⟩ = some (.int .i64 f) := lt_cell HK.out.1 (HB5.out.2.trans (hb.mono HB5.out.2.size)) rfl
      have z2 : w6.cell? ⟨w1.heap.size, 2, none⟩ = some (.int .i64 t) := lt_cell HK.out.1 (HB5.out.2.trans (hb.mono HB5.out.2.size)) rfl
      have z3 : w6.cell? ⟨w1.heap.size, 3, none⟩ = some (.int .i64 tm) := lt_cell HK.out.1 (HB5.out.2.trans (hb.mono HB5.out.2.size)) rfl
      have z4 : w6.cell? ⟨w1.heap.size, 4, none⟩ = some (.int .i64 i) := lt_cell HK.out.1 (HB5.out.2.trans (hb.mono HB5.out.2.size)) rfl
      have z5 : w6.cell? ⟨w1.heap.size, 5, none⟩ = some (.int .i64 0) := lt_cell HK.out.1 (HB5.out.2.trans (hb.mono HB5.out.2.size)) rfl
      have z6 : w6.cell? ⟨w1.heap.size, 6, none⟩ = some (.int .i64 0) := lt_cell HK.out.1 (HB5.out.2.trans (hb.mono HB5.out.2.size)) rfl
      have z7 : w6.cell? ⟨w1.heap.size, 7, none⟩ = some (.int .i64 rd) := lt_cell HK.out.1 (HB5.out.2.trans (hb.mono HB5.out.2.size)) rfl
      have z8 : w6.cell? ⟨w1.heap.size, 8, none⟩ = some (.bool ok) := lt_cell HK.out.1 (HB5.out.2.trans (hb.mono HB5.out.2.size)) rfl
      have z9 : w6.cell? ⟨w1.heap.size, 9, none⟩ = some (.slice none 0 0) := lt_cell HK.out.1 (HB5.out.2.trans (hb.mono HB5.out.2.size)) rfl
      have z10 : w6.cell? ⟨w1.heap.size, 10, none⟩ = some (.int .i64 0) := lt_cell HK.out.1 (HB5.out.2.trans (hb.mono HB5.out.2.size)) rfl
      have z11 : w6.cell? ⟨w1.heap.size, 11, none⟩ = some (.int .i64 0) := lt_cell HK.out.1 (HB5.out.2.trans (hb.mono HB5.out.2.size)) rfl
      have z12 : w6.cell? ⟨w1.heap.size, 12, none⟩ = some (.slice none 0 0) := lt_cell HK.out.1 (HB5.out.2.trans (hb.mono HB5.out.2.size)) rfl
      have z13 : w6.cell? ⟨w1.heap.size, 13, none⟩ = some (.slice none 0 0) := lt_cell HK.out.1 (HB5.out.2.trans (hb.mono HB5.out.2.size)) rfl
      clear HS hb x0 x1 x2 x3 x4 x5 x6 x7 x8 x9 x10 x11 x12 x13 y0 y1 y2 y3 y4 y5 y6 y7 y8 y9 y10 y11 y12 y13
      go_wp2_with (fail)
      refine (HR.out _).mono ?_
      rintro e w7 ⟨rfl, hb⟩
      have HB7 : Hid (Below w.heap.size w w7) := HB6.out.trans (hb.mono HB6.out.size)
      clear HR hb z0 z1 z2 z3 z4 z5 z6 z7 z8 z9 z10 z11 z12 z13
      go_wp2_with fail
      go_ret
      exact ⟨rfl, HB7.out⟩
end Go.Proofs.YtmlihlnigojmpaaDoor
