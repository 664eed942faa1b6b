/- How a letter is written: its bytes, walked. -/
import Derived.Test.YtmlihlnigojmpaaDoorWPut2
set_option linter.unusedVariables false
namespace Go.Proofs.YtmlihlnigojmpaaDoor
open Go.RowKit

def okN (b : Bool) : Nat := if b then 1 else 0
set_option maxRecDepth 100000 in
theorem okNumber_any (b : Bool) (w : World) : Calls Tryd.prog 46 #[.bool b] w fun e w' => e = .returned (.int .i64 (okN b : Int)) ∧ w' = w := by
  cases b with
  | false =>
    go_enter Tryd.func46, Tryd.ntmps46
    go_wp2
    go_ret
    exact ⟨rfl, rfl⟩
  | true =>
    go_enter Tryd.func46, Tryd.ntmps46
    go_wp2
    go_ret
    exact ⟨rfl, rfl⟩

/-- What stands behind the Term, by the Kind. -/
def kindL (M : Lt) : List UInt8 :=
  if M.k = 1 then flatN [M.i.toNat, M.lt.toNat]
  else if M.k = 2 then flatN [okN M.ok]
  else if M.k = 3 then flatN [M.i.toNat, M.lt.toNat, M.cm.toNat, M.rd.toNat] ++ entsL M.es
  else if M.k = 4 then flatN [okN M.ok, M.i.toNat, M.rd.toNat]
  else if M.k = 5 then snpL M.sx.toNat M.st.toNat (M.ns.map Int.toNat) M.da ++ flatN [M.rd.toNat]
  else []
/-- A letter's bytes. -/
def encL (M : Lt) : List UInt8 := flatN [M.k.toNat, M.f.toNat, M.t.toNat, M.tm.toNat] ++ kindL M

theorem goB_all {top : Int} : ∀ {es : List En} {i t : Int}, goB top i t es = true → ∀ e ∈ es, e.B = true
  | [], _, _, _ => fun e he => by cases he
  | x :: r, i, t, h => by
    simp only [goB, Bool.and_eq_true] at h
    intro e he
    rcases List.mem_cons.1 he with rfl | he
    · exact h.1.1.1.1
    · exact goB_all h.2 e he
/-- What a letter that is right is. -/
structure RtIs (M : Lt) (k f t tm i lt cm rd : Nat) : Prop where
  ek : M.k = (k : Int)
  ef : M.f = (f : Int)
  et : M.t = (t : Int)
  etm : M.tm = (tm : Int)
  ei : M.i = (i : Int)
  elt : M.lt = (lt : Int)
  ecm : M.cm = (cm : Int)
  erd : M.rd = (rd : Int)
  bk : 1 ≤ k ∧ k ≤ 5
  bf : f ≤ 5
  bt : t ≤ 5
  btm : tm ≤ 999999
  bi : i ≤ 999999
  blt : lt ≤ 999999
  bcm : cm ≤ 999999
  brd : rd ≤ 1073741824
  k3 : k = 3 → M.es.length ≤ 4 ∧ ∀ e ∈ M.es, e.B = true
  k5 : k = 5 → ∃ (X T : Nat) (ns : List Nat), M.sx = (X : Int) ∧ M.st = (T : Int) ∧ X ≤ 999999 ∧ T ≤ 999999 ∧ M.ns = natI ns ∧ (∀ z ∈ ns, 1 ≤ z ∧ z ≤ 5) ∧ ns.length ≤ 5 ∧ ns ≠ [] ∧ M.da.length ≤ 300000
theorem RtIs.all {M : Lt} {k f t tm i lt cm rd : Nat} (h : RtIs M k f t tm i lt cm rd) : (1 ≤ k ∧ k ≤ 5) ∧ f ≤ 5 ∧ t ≤ 5 ∧ tm ≤ 999999 ∧ i ≤ 999999 ∧ lt ≤ 999999 ∧ cm ≤ 999999 ∧ rd ≤ 1073741824 := ⟨h.bk, h.bf, h.bt, h.btm, h.bi, h.blt, h.bcm, h.brd⟩
theorem right_is {M : Lt} (h : rightB M = true) : ∃ k f t tm i lt cm rd, RtIs M k f t tm i lt cm rd := by
  unfold rightB at h
  simp only [Bool.and_eq_true] at h
  obtain ⟨⟨⟨h1, h2⟩, h3⟩, _⟩ := h
  unfold headB inB at h1
  unfold boundsB inB at h2
  simp at h1 h2
  have hk : 1 ≤ M.k ∧ M.k ≤ 5 := by
    unfold mayB at h3
    by_cases h : 1 ≤ M.k ∧ M.k ≤ 5
    · exact h
    · rw [if_neg (by omega), if_neg (by omega), if_neg (by omega)] at h3
      cases h3
  refine ⟨M.k.toNat, M.f.toNat, M.t.toNat, M.tm.toNat, M.i.toNat, M.lt.toNat, M.cm.toNat, M.rd.toNat, ?_⟩
  refine { ek := by omega, ef := by omega, et := by omega, etm := by omega, ei := by omega, elt := by omega, ecm := by omega, erd := by omega, bk := by omega, bf := by omega, bt := by omega, btm := by omega, bi := by omega, blt := by omega, bcm := by omega, brd := by omega, k3 := fun h => ?_, k5 := fun h => ?_ }
  · unfold mayB at h3
    rw [if_neg (by omega), if_pos (by omega)] at h3
    simp at h3
    exact ⟨h3.1, goB_all h3.2⟩
  · unfold mayB at h3
    rw [if_neg (by omega), if_neg (by omega), if_pos (by omega)] at h3
    simp only [Bool.and_eq_true, decide_eq_true_eq] at h3
    have h4 := h3.1
    unfold snapB at h4
    simp only [Bool.and_eq_true, decide_eq_true_eq] at h4
    obtain ⟨⟨⟨h5, h6⟩, h7⟩, h8⟩ := h4
    unfold inB at h5 h6
    simp at h5 h6
    obtain ⟨ns, e1, e2, e3, e4⟩ := groupB_nat h7
    exact ⟨M.sx.toNat, M.st.toNat, ns, by omega, by omega, by omega, by omega, e1, e2, e3, e4, by omega⟩

theorem flat_len {zs : List Nat} {n : Nat} (hz : ∀ z ∈ zs, z < 9223372036854775808) (hn : zs.length ≤ n) : (flatN zs).length ≤ 10 * n := by
  have := flatN_len zs hz
  omega

set_option maxHeartbeats 16000000 in
set_option maxRecDepth 40000 in
theorem letterBytes_any {w : World} (M : Lt) (A : LtA) (h : LtW w M A) (hr : rightB M = true) : Calls Tryd.prog 25 #[ltV M A] w (Made w (encL M)) := by
  obtain ⟨w1, hw1⟩ : ∃ w1, w1 = w.alloc (.cells (ltC M A) 28) := ⟨_, rfl⟩
  have hb1 : Below w.heap.size w w1 := by rw [hw1]; exact (Below.refl _ w).alloc (Nat.le_refl _) _
  have hk1 : w1.heap[w.heap.size]? = some (.cells (ltC M A) 28 (0, 0)) := by rw [hw1]; exact lt_new w M A
  obtain ⟨T, hT⟩ : ∃ T, encL M = T := ⟨_, rfl⟩
  rw [hT]
  obtain ⟨k, f, t, tm, i, lt, cm, rd, HI⟩ := right_is hr
  have HI : Hid (RtIs M k f t tm i lt cm rd) := HI
  obtain ⟨F1, hF1⟩ : ∃ F1, flatN [k, f, t, tm] = F1 := ⟨_, rfl⟩
  have hl1 : F1.length ≤ 40 := by
    rw [← hF1]
    have := HI.out.all
    exact flat_len (n := 4) (by intro z hz; simp at hz; rcases hz with rfl | rfl | rfl | rfl <;> omega) (by simp)
  have HT : Hid (F1 ++ kindL M = T ∧ F1.length ≤ 40) := by
    refine ⟨?_, hl1⟩
    rw [← hT, encL, HI.out.ek, HI.out.ef, HI.out.et, HI.out.etm, ← hF1]
    rfl
  have hP1 := putLay_any (nc := 4) [k, f, t, tm] (brow_nil w1) (by have := HI.out.all; intro z hz; simp at hz; rcases hz with rfl | rfl | rfl | rfl <;> omega) (by simp) (by simp) 4 rfl
  rw [List.nil_append, hF1] at hP1
  have HP1 : Hid (Calls Tryd.prog 45 #[.slice none 0 0, .slice (some ⟨w1.heap.size, 0, none⟩) 4 4] (w1.alloc (.cells #[.int .i64 (k : Int), .int .i64 (f : Int), .int .i64 (t : Int), .int .i64 (tm : Int)] 3)) (Made (w1.alloc (.cells #[.int .i64 (k : Int), .int .i64 (f : Int), .int .i64 (t : Int), .int .i64 (tm : Int)] 3)) F1)) := hP1
  have HW : Hid (LtW w1 M A ∧ Below w.heap.size w w1) := ⟨h.below hb1, hb1⟩
  have HK : Hid (w1.heap[w.heap.size]? = some (.cells (ltC M A) 28 (0, 0))) := hk1
  have x0 : w1.cell? ⟨w.heap.size, 0, none⟩ = some (.int .i64 (k : Int)) := by rw [← HI.out.ek]; exact pcell hk1 rfl
  have x1 : w1.cell? ⟨w.heap.size, 1, none⟩ = some (.int .i64 (f : Int)) := by rw [← HI.out.ef]; exact pcell hk1 rfl
  have x2 : w1.cell? ⟨w.heap.size, 2, none⟩ = some (.int .i64 (t : Int)) := by rw [← HI.out.et]; exact pcell hk1 rfl
  have x3 : w1.cell? ⟨w.heap.size, 3, none⟩ = some (.int .i64 (tm : Int)) := by rw [← HI.out.etm]; exact pcell hk1 rfl
  clear h hr hb1 hk1 hT hF1 hl1 hP1
  go_enter Tryd.func25, Tryd.ntmps25
  unfold ltV
  go_upto_region 1 with fail
  rw [← hw1]
  clear hw1
  go_wp2_with (fail)
  refine HP1.out.mono ?_
  intro e w2 hq
  obtain ⟨a2, c2, rfl, hown, hrow, hb⟩ := hq.row
  have hba : Below w1.heap.size w1 (w1.alloc (.cells #[.int .i64 (k : Int), .int .i64 (f : Int), .int .i64 (t : Int), .int .i64 (tm : Int)] 3)) := (Below.refl _ w1).alloc (Nat.le_refl _) _
  have hb2 : Below w1.heap.size w1 w2 := hba.trans (hb.mono hba.size)
  obtain ⟨f1, hf1⟩ : ∃ f, F1.length = f := ⟨_, rfl⟩
  rw [hf1] at hrow ⊢
  have HU : Hid (BRow w2 a2 f1 c2 F1 ∧ Below w1.heap.size w1 w2 ∧ Below w.heap.size w w2 ∧ F1.length = f1) := ⟨hrow, hb2, HW.out.2.trans (hb2.mono HW.out.2.size), hf1⟩
  have z0 : w2.cell? ⟨w.heap.size, 0, none⟩ = some (.int .i64 (k : Int)) := by rw [← HI.out.ek]; exact lt_cell HK.out hb2 rfl
  have HZ4 : Hid (∀ u, Below w2.heap.size w2 u → u.cell? ⟨w.heap.size, 4, none⟩ = some (.int .i64 (i : Int))) := fun u hu => by rw [← HI.out.ei]; exact lt_cell HK.out (HU.out.2.1.trans (hu.mono HU.out.2.1.size)) rfl
  have HZ5 : Hid (∀ u, Below w2.heap.size w2 u → u.cell? ⟨w.heap.size, 5, none⟩ = some (.int .i64 (lt : Int))) := fun u hu => by rw [← HI.out.elt]; exact lt_cell HK.out (HU.out.2.1.trans (hu.mono HU.out.2.1.size)) rfl
  have HZ6 : Hid (∀ u, Below w2.heap.size w2 u → u.cell? ⟨w.heap.size, 6, none⟩ = some (.int .i64 (cm : Int))) := fun u hu => by rw [← HI.out.ecm]; exact lt_cell HK.out (HU.out.2.1.trans (hu.mono HU.out.2.1.size)) rfl
  have HZ7 : Hid (∀ u, Below w2.heap.size w2 u → u.cell? ⟨w.heap.size, 7, none⟩ = some (.int .i64 (rd : Int))) := fun u hu => by rw [← HI.out.erd]; exact lt_cell HK.out (HU.out.2.1.trans (hu.mono HU.out.2.1.size)) rfl
  have HZ8 : Hid (∀ u, Below w2.heap.size w2 u → u.cell? ⟨w.heap.size, 8, none⟩ = some (.bool M.ok)) := fun u hu => lt_cell HK.out (HU.out.2.1.trans (hu.mono HU.out.2.1.size)) rfl
  have HZ9 : Hid (∀ u, Below w2.heap.size w2 u → u.cell? ⟨w.heap.size, 9, none⟩ = some (.slice A.ea M.es.length A.ec)) := fun u hu => lt_cell HK.out (HU.out.2.1.trans (hu.mono HU.out.2.1.size)) rfl
  have HWu : Hid (∀ u, Below w2.heap.size w2 u → LtW u M A ∧ Below w.heap.size w u) := fun u hu => ⟨(HW.out.1.below HU.out.2.1).below hu, HU.out.2.2.1.trans (hu.mono HU.out.2.2.1.size)⟩
  have b0 := Below.refl w2.heap.size w2
  clear HP1 hq hown hrow hb hb2 hba hf1 x0 x1 x2 x3 HW
  by_cases k1 : k = 1
  · subst k1
    have HE : Hid (F1 ++ flatN [i, lt] = T) := by
      show F1 ++ flatN [i, lt] = T
      have h1 := HT.out.1
      rw [kindL, HI.out.ek] at h1
      simpa [HI.out.ei, HI.out.elt] using h1
    have z4 := HZ4.out w2 b0
    have z5 := HZ5.out w2 b0
    have hP := putLay_any (nc := 2) [i, lt] HU.out.1 (by have := HI.out.all; intro z hz; simp at hz; rcases hz with rfl | rfl <;> omega) (by have := HT.out.2; have := HU.out.2.2.2; simp; omega) (by simp) 2 rfl
    rw [HE.out] at hP
    have HP : Hid (Calls Tryd.prog 45 #[.slice a2 f1 c2, .slice (some ⟨w2.heap.size, 0, none⟩) 2 2] (w2.alloc (.cells #[.int .i64 (i : Int), .int .i64 (lt : Int)] 3)) (Made (w2.alloc (.cells #[.int .i64 (i : Int), .int .i64 (lt : Int)] 3)) T)) := hP
    clear HZ4 HZ5 HZ6 HZ7 HZ8 HZ9
    go_wp2_with (fail)
    refine HP.out.mono ?_
    rintro e w4 ⟨v4, rfl, hown, hb⟩
    have HF : Hid (OwnB w4 w.heap.size v4 T ∧ Below w.heap.size w w4) := by
      have hba : Below w2.heap.size w2 (w2.alloc (.cells #[.int .i64 (i : Int), .int .i64 (lt : Int)] 3)) := (Below.refl _ w2).alloc (Nat.le_refl _) _
      have hb9 := hba.trans (hb.mono hba.size)
      exact ⟨own_lower hown (Nat.le_trans HU.out.2.2.1.size hba.size), (HWu.out w4 hb9).2⟩
    clear HP hown hb z0
    go_wp2
    go_ret
    exact ⟨_, rfl, HF.out.1, HF.out.2⟩
  by_cases k2 : k = 2
  · subst k2
    have HE : Hid (F1 ++ flatN [okN M.ok] = T) := by
      show F1 ++ flatN [okN M.ok] = T
      have h1 := HT.out.1
      rw [kindL, HI.out.ek] at h1
      simpa [okN] using h1
    have z8 := HZ8.out w2 b0
    have hP := putLay_any (nc := 1) [okN M.ok] HU.out.1 (by intro z hz; simp at hz; subst hz; unfold okN; split <;> omega) (by have := HT.out.2; have := HU.out.2.2.2; simp; omega) (by simp) 1 rfl
    rw [HE.out] at hP
    have HP : Hid (Calls Tryd.prog 45 #[.slice a2 f1 c2, .slice (some ⟨w2.heap.size, 0, none⟩) 1 1] (w2.alloc (.cells #[.int .i64 (okN M.ok : Int)] 3)) (Made (w2.alloc (.cells #[.int .i64 (okN M.ok : Int)] 3)) T)) := hP
    have HO : Hid (Calls Tryd.prog 46 #[.bool M.ok] w2 fun e w' => e = .returned (.int .i64 (okN M.ok : Int)) ∧ w' = w2) := okNumber_any M.ok w2
    clear HZ4 HZ5 HZ6 HZ7 HZ8 HZ9
    go_wp2_with (fail)
    refine HO.out.mono ?_
    rintro e w3 ⟨rfl, hw⟩
    subst hw
    clear HO
    go_wp2_with (fail)
    refine HP.out.mono ?_
    rintro e w4 ⟨v4, rfl, hown, hb⟩
    have HF : Hid (OwnB w4 w.heap.size v4 T ∧ Below w.heap.size w w4) := by
      have hba : Below w3.heap.size w3 (w3.alloc (.cells #[.int .i64 (okN M.ok : Int)] 3)) := (Below.refl _ w3).alloc (Nat.le_refl _) _
      have hb9 := hba.trans (hb.mono hba.size)
      exact ⟨own_lower hown (Nat.le_trans HU.out.2.2.1.size hba.size), (HWu.out w4 hb9).2⟩
    clear HP hown hb z0
    go_wp2
    go_ret
    exact ⟨_, rfl, HF.out.1, HF.out.2⟩
  by_cases k3 : k = 3
  · subst k3
    obtain ⟨hes, heB⟩ := HI.out.k3 rfl
    obtain ⟨F3, hF3⟩ : ∃ F3, F1 ++ flatN [i, lt, cm, rd] = F3 := ⟨_, rfl⟩
    have hl3 : F3.length ≤ 80 := by
      have h1 := HT.out.2
      have h2 : (flatN [i, lt, cm, rd]).length ≤ 10 * 4 := flat_len (by have := HI.out.all; intro z hz; simp at hz; rcases hz with rfl | rfl | rfl | rfl <;> omega) (by simp)
      rw [← hF3, List.length_append]
      omega
    have HE : Hid (F3 ++ entsL M.es = T ∧ F3.length ≤ 80) := by
      refine ⟨?_, hl3⟩
      have h1 := HT.out.1
      rw [kindL, HI.out.ek] at h1
      rw [← hF3]
      simpa [HI.out.ei, HI.out.elt, HI.out.ecm, HI.out.erd] using h1
    have z4 := HZ4.out w2 b0
    have z5 := HZ5.out w2 b0
    have z6 := HZ6.out w2 b0
    have z7 := HZ7.out w2 b0
    have hP := putLay_any (nc := 4) [i, lt, cm, rd] HU.out.1 (by have := HI.out.all; intro z hz; simp at hz; rcases hz with rfl | rfl | rfl | rfl <;> omega) (by have := HT.out.2; have := HU.out.2.2.2; simp; omega) (by simp) 4 rfl
    rw [hF3] at hP
    have HP : Hid (Calls Tryd.prog 45 #[.slice a2 f1 c2, .slice (some ⟨w2.heap.size, 0, none⟩) 4 4] (w2.alloc (.cells #[.int .i64 (i : Int), .int .i64 (lt : Int), .int .i64 (cm : Int), .int .i64 (rd : Int)] 3)) (Made (w2.alloc (.cells #[.int .i64 (i : Int), .int .i64 (lt : Int), .int .i64 (cm : Int), .int .i64 (rd : Int)] 3)) F3)) := hP
    have HEs : Hid (M.es.length ≤ 4 ∧ ∀ e ∈ M.es, e.B = true) := ⟨hes, heB⟩
    clear hP hF3 hl3 hes heB HZ4 HZ5 HZ6 HZ7 HZ8
    go_wp2_with (fail)
    refine HP.out.mono ?_
    intro e w3 hq
    obtain ⟨a3, c3, rfl, hown, hrow, hb⟩ := hq.row
    have hba : Below w2.heap.size w2 (w2.alloc (.cells #[.int .i64 (i : Int), .int .i64 (lt : Int), .int .i64 (cm : Int), .int .i64 (rd : Int)] 3)) := (Below.refl _ w2).alloc (Nat.le_refl _) _
    have hb3 : Below w2.heap.size w2 w3 := hba.trans (hb.mono hba.size)
    have hPE := putEntries_any (ec := A.ec) hrow (by have := HE.out.2; omega) (HWu.out w3 hb3).1.es rfl HEs.out.1 HEs.out.2
    rw [HE.out.1] at hPE
    have y9 := HZ9.out w3 hb3
    obtain ⟨f3, hf3⟩ : ∃ f, F3.length = f := ⟨_, rfl⟩
    obtain ⟨en, hen⟩ : ∃ n, M.es.length = n := ⟨_, rfl⟩
    rw [hf3, hen] at hPE
    rw [hen] at y9
    rw [hf3]
    have HPE : Hid (Calls Tryd.prog 47 #[.slice a3 f3 c3, .slice A.ea en A.ec] w3 (Made w3 T)) := hPE
    have HB3 : Hid (Below w.heap.size w w3) := (HWu.out w3 hb3).2
    clear HP hq hown hrow hb hba hb3 hPE HZ9 z0 z4 z5 z6 z7 b0
    go_wp2_with (fail)
    refine HPE.out.mono ?_
    rintro e w4 ⟨v4, rfl, hown, hb⟩
    have HF : Hid (OwnB w4 w.heap.size v4 T ∧ Below w.heap.size w w4) := ⟨own_lower hown HB3.out.size, HB3.out.trans (hb.mono HB3.out.size)⟩
    clear HPE hown hb y9
    go_wp2
    go_ret
    exact ⟨_, rfl, HF.out.1, HF.out.2⟩
  by_cases k4 : k = 4
  · subst k4
    have HE : Hid (F1 ++ flatN [okN M.ok, i, rd] = T) := by
      show F1 ++ flatN [okN M.ok, i, rd] = T
      have h1 := HT.out.1
      rw [kindL, HI.out.ek] at h1
      simpa [HI.out.ei, HI.out.erd] using h1
    have HO : Hid (∀ u, Calls Tryd.prog 46 #[.bool M.ok] u fun e w' => e = .returned (.int .i64 (okN M.ok : Int)) ∧ w' = u) := fun u => okNumber_any M.ok u
    have HPx : Hid (∀ u, Below w2.heap.size w2 u → Calls Tryd.prog 45 #[.slice a2 f1 c2, .slice (some ⟨u.heap.size, 0, none⟩) 3 3] (u.alloc (.cells #[.int .i64 (okN M.ok : Int), .int .i64 (i : Int), .int .i64 (rd : Int)] 3)) (Made (u.alloc (.cells #[.int .i64 (okN M.ok : Int), .int .i64 (i : Int), .int .i64 (rd : Int)] 3)) T)) := fun u hu => by
      have hP := putLay_any (nc := 3) [okN M.ok, i, rd] (HU.out.1.below hu) (by have := HI.out.all; intro z hz; simp at hz; rcases hz with rfl | rfl | rfl <;> first | omega | (unfold okN; split <;> omega)) (by have := HT.out.2; have := HU.out.2.2.2; simp; omega) (by simp) 3 rfl
      rw [HE.out] at hP
      exact hP
    go_upto_region 11 with fail
    refine regionC (fun (w' : World) => Below w2.heap.size w2 w') 10 (by kernel_rfl) ?_
    (try (change wpAnyC _ _ _ _ _ _ _ _ _ (World.drew _)))
    refine nameW (fun W0 hW0 => ?_)
    have hC : Hid (Below w2.heap.size w2 W0) := by show Below _ _ _; rw [hW0]; exact ⟨rfl, rfl, rfl, Nat.le_refl _, fun _ _ => rfl⟩
    clear hW0
    refine takeC (i := 0) (v := ?_) rfl (by kernel_rfl) (by kernel_rfl) (by kernel_rfl) (by kernel_rfl) (by kernel_rfl) (fun _ _ _ h => h) hC.out (Or.inl ⟨by rfl, ?_⟩) ?_
    rotate_left 1
    · intro w' hw'
      skip
      go_simp
      first | done | with_reducible rfl
    (try simp only [Act.put])
    (try simp only [List.setIfInBounds_toArray])
    (try simp only [List.set_cons_succ])
    (try simp only [List.set_cons_zero])
    refine takeC (i := 1) (v := ?_) rfl (by kernel_rfl) (by kernel_rfl) (by kernel_rfl) (by kernel_rfl) (by kernel_rfl) (fun _ _ _ h => h) hC.out (Or.inl ⟨by rfl, ?_⟩) ?_
    rotate_left 1
    · intro w' hw'
      skip
      go_simp
      first | done | with_reducible rfl
    (try simp only [Act.put])
    (try simp only [List.setIfInBounds_toArray])
    (try simp only [List.set_cons_succ])
    (try simp only [List.set_cons_zero])
    refine takeC (i := 2) (v := ?_) rfl (by kernel_rfl) (by kernel_rfl) (by kernel_rfl) (by kernel_rfl) (by kernel_rfl) (fun _ _ _ h => h) hC.out (Or.inl ⟨by rfl, ?_⟩) ?_
    rotate_left 1
    · intro w' hw'
      have z8 := HZ8.out w' hw'
      go_simp
      first | done | with_reducible rfl
    (try simp only [Act.put])
    (try simp only [List.setIfInBounds_toArray])
    (try simp only [List.set_cons_succ])
    (try simp only [List.set_cons_zero])
    refine takeC (i := 4) (v := ?_) rfl (by kernel_rfl) (by kernel_rfl) (by kernel_rfl) (by kernel_rfl) (by kernel_rfl) (fun _ _ _ h => h) hC.out (Or.inl ⟨by rfl, ?_⟩) ?_
    rotate_left 1
    · intro w' hw'
      skip
      go_simp
      first | done | with_reducible rfl
    (try simp only [Act.put])
    (try simp only [List.setIfInBounds_toArray])
    (try simp only [List.set_cons_succ])
    (try simp only [List.set_cons_zero])
    refine takeC (i := 5) (v := ?_) rfl (by kernel_rfl) (by kernel_rfl) (by kernel_rfl) (by kernel_rfl) (by kernel_rfl) (fun _ _ _ h => h) hC.out (Or.inl ⟨by rfl, ?_⟩) ?_
    rotate_left 1
    · intro w' hw'
      have z4 := HZ4.out w' hw'
      go_simp
      first | done | with_reducible rfl
    (try simp only [Act.put])
    (try simp only [List.setIfInBounds_toArray])
    (try simp only [List.set_cons_succ])
    (try simp only [List.set_cons_zero])
    refine takeC (i := 6) (v := ?_) rfl (by kernel_rfl) (by kernel_rfl) (by kernel_rfl) (by kernel_rfl) (by kernel_rfl) (fun _ _ _ h => h) hC.out (Or.inl ⟨by rfl, ?_⟩) ?_
    rotate_left 1
    · intro w' hw'
      skip
      go_simp
      first | done | with_reducible rfl
    (try simp only [Act.put])
    (try simp only [List.setIfInBounds_toArray])
    (try simp only [List.set_cons_succ])
    (try simp only [List.set_cons_zero])
    refine takeC (i := 7) (v := ?_) rfl (by kernel_rfl) (by kernel_rfl) (by kernel_rfl) (by kernel_rfl) (by kernel_rfl) (fun _ _ _ h => h) hC.out (Or.inl ⟨by rfl, ?_⟩) ?_
    rotate_left 1
    · intro w' hw'
      have z7 := HZ7.out w' hw'
      go_simp
      first | done | with_reducible rfl
    (try simp only [Act.put])
    (try simp only [List.setIfInBounds_toArray])
    (try simp only [List.set_cons_succ])
    (try simp only [List.set_cons_zero])
    refine readyC (rs := [3]) (by kernel_rfl) (by simp) ?_
    refine ReadyC.cons rfl (fun K hK => ?_) ReadyC.nil
    refine stepV_call rfl 46 #[.bool M.ok] (by kernel_rfl) (HO.out W0) (fun e' w' h => ?_) ?_
    · obtain ⟨rfl, _⟩ := h
      exact ⟨_, rfl⟩
    intro v1 W2 hq
    obtain ⟨hv1, hW2⟩ := hq
    have hv1' := Ending.returned.inj hv1
    subst hv1'
    subst hW2
    refine hK _ _ (fun _ => hC.out) ?_
    clear hK K hv1 HO
    (try simp only [Act.put])
    (try simp only [List.setIfInBounds_toArray])
    (try simp only [List.set_cons_succ])
    (try simp only [List.set_cons_zero])
    refine readyC (rs := [8]) (by kernel_rfl) (by simp) ?_
    refine ReadyC.cons rfl (fun K hK => ?_) ReadyC.nil
    have hC4 : Below w2.heap.size w2 (W2.alloc (.cells #[.int .i64 (okN M.ok : Int), .int .i64 (i : Int), .int .i64 (rd : Int)] 3)) := hC.out.alloc hC.out.size _
    go_simp
    refine hK _ _ (fun _ => hC4) ?_
    clear hK K
    (try simp only [Act.put])
    (try simp only [List.setIfInBounds_toArray])
    (try simp only [List.set_cons_succ])
    (try simp only [List.set_cons_zero])
    have HC1 := HPx.out W2 hC.out
    obtain ⟨W1, hW1⟩ : ∃ W1, W1 = W2.alloc (.cells #[.int .i64 (okN M.ok : Int), .int .i64 (i : Int), .int .i64 (rd : Int)] 3) := ⟨_, rfl⟩
    rw [← hW1] at HC1 hC4 ⊢
    have HC1h : Hid (Calls Tryd.prog 45 #[.slice a2 f1 c2, .slice (some ⟨W2.heap.size, 0, none⟩) 3 3] W1 (Made W1 T)) := HC1
    replace hC : Hid (Below w2.heap.size w2 W1) := hC4
    clear HC1 hC4 hW1 HPx
    refine readyC (rs := [9]) (by kernel_rfl) (by simp) ?_
    refine ReadyC.cons rfl (fun K hK => ?_) ReadyC.nil
    refine stepV_call rfl 45 #[.slice a2 f1 c2, .slice (some ⟨W2.heap.size, 0, none⟩) 3 3] (by kernel_rfl) HC1h.out (fun e' w' h => ?_) ?_
    · obtain ⟨a, c, rfl, _⟩ := h.row
      exact ⟨_, rfl⟩
    intro v2 W3 hq
    obtain ⟨a3, c3, hv2, hown, hrow, hb⟩ := hq.row
    have hv2' := Ending.returned.inj hv2
    subst hv2'
    have hC3 : Below w2.heap.size w2 W3 := hC.out.trans (hb.mono hC.out.size)
    have HF : Hid (OwnB W3 w.heap.size (.slice a3 T.length c3) T ∧ Below w.heap.size w W3) := ⟨own_lower hown (Nat.le_trans HU.out.2.2.1.size hC.out.size), (HWu.out W3 hC3).2⟩
    refine hK _ _ (fun _ => hC3) ?_
    clear hK K hv2 hown hrow hb hq hC3 HC1h hC
    (try simp only [Act.put])
    (try simp only [List.setIfInBounds_toArray])
    (try simp only [List.set_cons_succ])
    (try simp only [List.set_cons_zero])
    refine readyC (rs := [10]) (by kernel_rfl) (by simp) ?_
    refine ReadyC.cons rfl (fun K hK => ?_) ReadyC.nil
    go_simp
    refine hK _ _ (fun h => absurd rfl h) ?_
    clear hK K
    (try simp only [Act.put])
    (try simp only [List.setIfInBounds_toArray])
    (try simp only [List.set_cons_succ])
    (try simp only [List.set_cons_zero])
    refine doneC (by kernel_rfl) ?_ _
    clear z0 HZ4 HZ5 HZ6 HZ7 HZ8 HZ9
    go_wp2
    go_ret
    exact ⟨_, rfl, HF.out.1, HF.out.2⟩
  have k5 : k = 5 := by have := HI.out.bk; omega
  subst k5
  obtain ⟨X, St, ns, eX, eS, bX, bS, hns, hz, hl, hn0, hd⟩ := HI.out.k5 rfl
  have hnl : M.ns.length = ns.length := by rw [hns]; exact List.length_map ..
  obtain ⟨F3, hF3⟩ : ∃ F3, F1 ++ snpL X St ns M.da = F3 := ⟨_, rfl⟩
  have hl3 : F3.length ≤ 400000 := by
    have h1 := HT.out.2
    have h2 := flat2_len (a := X) (b := St) (by omega) (by omega)
    have h3 := group_len hz hl
    have h4 := putT_len (d := M.da) (by omega)
    rw [← hF3, snpL, List.length_append, List.length_append, List.length_append]
    omega
  have HE : Hid (F3 ++ flatN [rd] = T ∧ F3.length ≤ 400000) := by
    refine ⟨?_, hl3⟩
    have h1 := HT.out.1
    rw [kindL, HI.out.ek, eX, eS, hns, natI_toNat, HI.out.erd] at h1
    rw [← hF3]
    simpa using h1
  obtain ⟨nn, hnn⟩ : ∃ n, M.ns.length = n := ⟨_, rfl⟩
  obtain ⟨dn, hdn⟩ : ∃ n, M.da.length = n := ⟨_, rfl⟩
  have HZs : Hid (∀ u, Below w2.heap.size w2 u → u.cell? ⟨w.heap.size, 10, none⟩ = some (.int .i64 (X : Int)) ∧ u.cell? ⟨w.heap.size, 11, none⟩ = some (.int .i64 (St : Int)) ∧ u.cell? ⟨w.heap.size, 12, none⟩ = some (.slice A.na nn A.nc) ∧ u.cell? ⟨w.heap.size, 13, none⟩ = some (.slice A.da dn A.dc)) := fun u hu => by
    have hb9 := HU.out.2.1.trans (hu.mono HU.out.2.1.size)
    refine ⟨?_, ?_, ?_, ?_⟩
    · rw [← eX]; exact lt_cell HK.out hb9 rfl
    · rw [← eS]; exact lt_cell HK.out hb9 rfl
    · rw [← hnn]; exact lt_cell HK.out hb9 rfl
    · rw [← hdn]; exact lt_cell HK.out hb9 rfl
  have HPS : Hid (∀ u, Below w2.heap.size w2 u → Calls Tryd.prog 48 #[.slice a2 f1 c2, .agg #[.int .i64 (X : Int), .int .i64 (St : Int), .slice A.na nn A.nc, .slice A.da dn A.dc]] u (Made u F3)) := fun u hu => by
    have hw := (HWu.out u hu).1
    have hir : IRow u A.na ns := by
      have := hw.ns
      rw [hns] at this
      exact this.nat
    have hP := putSnap_any (nc := A.nc) (dc := A.dc) (HU.out.1.below hu) (by have := HT.out.2; have := HU.out.2.2.2; omega) bX bS hir (fun z h => (hz z h).2) (hnl.symm.trans hnn) (by omega) hn0 (hdn ▸ hw.da) (by omega)
    rw [hF3] at hP
    exact hP
  have HPN : Hid (∀ (u : World) (a : Option Addr) (c g : Nat), BRow u a F3.length c F3 → u.cell? ⟨g, 0, none⟩ = some (.int .i64 (rd : Int)) → Calls Tryd.prog 45 #[.slice a F3.length c, .slice (some ⟨g, 0, none⟩) 1 1] u (Made u T)) := fun u a c g hrow hc => by
    have hP := putNums_any (nc := 1) (na := some ⟨g, 0, none⟩) (zs := [rd]) hrow (fun j z hj => by
      match j, hj with
      | 0, hj =>
        simp at hj
        subst hj
        exact ⟨_, rfl, by rw [Addr.add_zero']; exact hc⟩) (by have := HI.out.all; intro z hz; simp at hz; omega) (by have := HE.out.2; simp; omega) (by simp)
    rw [HE.out.1] at hP
    exact hP
  clear eX eS bX bS hns hz hl hn0 hd hnl hF3 hl3 hnn hdn
  obtain ⟨f3, hf3⟩ : ∃ f, F3.length = f := ⟨_, rfl⟩
  rw [hf3] at HPN
  have HF3 : Hid (F3.length = f3) := hf3
  clear hf3
  go_upto_region 13 with fail
  refine regionC (fun (w' : World) => Below w2.heap.size w2 w') 8 (by kernel_rfl) ?_
  (try (change wpAnyC _ _ _ _ _ _ _ _ _ (World.drew _)))
  refine nameW (fun W0 hW0 => ?_)
  have hC : Hid (Below w2.heap.size w2 W0) := by show Below _ _ _; rw [hW0]; exact ⟨rfl, rfl, rfl, Nat.le_refl _, fun _ _ => rfl⟩
  clear hW0
  refine takeC (i := 0) (v := ?_) rfl (by kernel_rfl) (by kernel_rfl) (by kernel_rfl) (by kernel_rfl) (by kernel_rfl) (fun _ _ _ h => h) hC.out (Or.inl ⟨by rfl, ?_⟩) ?_
  rotate_left 1
  · intro w' hw'
    skip
    go_simp
    first | done | with_reducible rfl
  (try simp only [Act.put])
  (try simp only [List.setIfInBounds_toArray])
  (try simp only [List.set_cons_succ])
  (try simp only [List.set_cons_zero])
  refine takeC (i := 1) (v := ?_) rfl (by kernel_rfl) (by kernel_rfl) (by kernel_rfl) (by kernel_rfl) (by kernel_rfl) (fun _ _ _ h => h) hC.out (Or.inl ⟨by rfl, ?_⟩) ?_
  rotate_left 1
  · intro w' hw'
    skip
    go_simp
    first | done | with_reducible rfl
  (try simp only [Act.put])
  (try simp only [List.setIfInBounds_toArray])
  (try simp only [List.set_cons_succ])
  (try simp only [List.set_cons_zero])
  refine takeC (i := 2) (v := ?_) rfl (by kernel_rfl) (by kernel_rfl) (by kernel_rfl) (by kernel_rfl) (by kernel_rfl) (fun _ _ _ h => h) hC.out (Or.inl ⟨by rfl, ?_⟩) ?_
  rotate_left 1
  · intro w' hw'
    obtain ⟨z10, z11, z12, z13⟩ := HZs.out w' hw'
    go_simp
    first | done | with_reducible rfl
  (try simp only [Act.put])
  (try simp only [List.setIfInBounds_toArray])
  (try simp only [List.set_cons_succ])
  (try simp only [List.set_cons_zero])
  refine takeC (i := 4) (v := ?_) rfl (by kernel_rfl) (by kernel_rfl) (by kernel_rfl) (by kernel_rfl) (by kernel_rfl) (fun _ _ _ h => h) hC.out (Or.inl ⟨by rfl, ?_⟩) ?_
  rotate_left 1
  · intro w' hw'
    skip
    go_simp
    first | done | with_reducible rfl
  (try simp only [Act.put])
  (try simp only [List.setIfInBounds_toArray])
  (try simp only [List.set_cons_succ])
  (try simp only [List.set_cons_zero])
  refine takeC (i := 5) (v := ?_) rfl (by kernel_rfl) (by kernel_rfl) (by kernel_rfl) (by kernel_rfl) (by kernel_rfl) (fun _ _ _ h => h) hC.out (Or.inl ⟨by rfl, ?_⟩) ?_
  rotate_left 1
  · intro w' hw'
    have z7 := HZ7.out w' hw'
    go_simp
    first | done | with_reducible rfl
  (try simp only [Act.put])
  (try simp only [List.setIfInBounds_toArray])
  (try simp only [List.set_cons_succ])
  (try simp only [List.set_cons_zero])
  refine readyC (rs := [3, 6]) (by kernel_rfl) (by simp) ?_
  refine ReadyC.cons rfl (fun K hK => ?_) (ReadyC.cons rfl (fun K hK => ?_) ReadyC.nil)
  · refine stepV_call rfl 48 #[.slice a2 f1 c2, .agg #[.int .i64 (X : Int), .int .i64 (St : Int), .slice A.na nn A.nc, .slice A.da dn A.dc]] (by kernel_rfl) (HPS.out W0 hC.out) (fun e' w' h => ?_) ?_
    · obtain ⟨a, c, rfl, _⟩ := h.row
      exact ⟨_, rfl⟩
    intro v1 W2 hq
    obtain ⟨a3, c3, hv1, hown, hrow, hb⟩ := hq.row
    have hv1' := Ending.returned.inj hv1
    subst hv1'
    rw [HF3.out] at hrow ⊢
    have hC9 : Below w2.heap.size w2 W2 := hC.out.trans (hb.mono hC.out.size)
    have HR : Hid (BRow W2 a3 f3 c3 F3) := hrow
    refine hK _ _ (fun _ => hC9) ?_
    replace hC : Hid (Below w2.heap.size w2 W2) := hC9
    clear hK K hv1 hown hrow hb hq hC9 HPS
    (try simp only [Act.put])
    (try simp only [List.setIfInBounds_toArray])
    (try simp only [List.set_cons_succ])
    (try simp only [List.set_cons_zero])
    refine readyC (rs := [6]) (by kernel_rfl) (by simp) ?_
    refine ReadyC.cons rfl (fun K hK => ?_) ReadyC.nil
    have hC4 : Below w2.heap.size w2 (W2.alloc (.cells #[.int .i64 (rd : Int)] 3)) := hC.out.alloc hC.out.size _
    go_simp
    refine hK _ _ (fun _ => hC4) ?_
    clear hK K
    (try simp only [Act.put])
    (try simp only [List.setIfInBounds_toArray])
    (try simp only [List.set_cons_succ])
    (try simp only [List.set_cons_zero])
    have HCN : Hid (Calls Tryd.prog 45 #[.slice a3 f3 c3, .slice (some ⟨W2.heap.size, 0, none⟩) 1 1] (W2.alloc (.cells #[.int .i64 (rd : Int)] 3)) (Made (W2.alloc (.cells #[.int .i64 (rd : Int)] 3)) T)) := HPN.out _ a3 c3 _ (HR.out.below ((Below.refl _ W2).alloc (Nat.le_refl _) _)) (pcell (heap_alloc_new _ _) rfl)
    obtain ⟨W1, hW1⟩ : ∃ W1, W1 = W2.alloc (.cells #[.int .i64 (rd : Int)] 3) := ⟨_, rfl⟩
    rw [← hW1] at HCN hC4 ⊢
    replace hC : Hid (Below w2.heap.size w2 W1) := hC4
    clear hC4 hW1 HPN HR
    refine readyC (rs := [7]) (by kernel_rfl) (by simp) ?_
    refine ReadyC.cons rfl (fun K hK => ?_) ReadyC.nil
    refine stepV_call rfl 45 #[.slice a3 f3 c3, .slice (some ⟨W2.heap.size, 0, none⟩) 1 1] (by kernel_rfl) HCN.out (fun e' w' h => ?_) ?_
    · obtain ⟨a, c, rfl, _⟩ := h.row
      exact ⟨_, rfl⟩
    intro v2 W5 hq
    obtain ⟨a5, c5, hv2, hown, hrow, hb⟩ := hq.row
    have hv2' := Ending.returned.inj hv2
    subst hv2'
    have hC5 : Below w2.heap.size w2 W5 := hC.out.trans (hb.mono hC.out.size)
    have HF : Hid (OwnB W5 w.heap.size (.slice a5 T.length c5) T ∧ Below w.heap.size w W5) := ⟨own_lower hown (Nat.le_trans HU.out.2.2.1.size hC.out.size), (HWu.out W5 hC5).2⟩
    refine hK _ _ (fun _ => hC5) ?_
    clear hK K hv2 hown hrow hb hq hC5 HCN hC
    (try simp only [Act.put])
    (try simp only [List.setIfInBounds_toArray])
    (try simp only [List.set_cons_succ])
    (try simp only [List.set_cons_zero])
    refine readyC (rs := [8]) (by kernel_rfl) (by simp) ?_
    refine ReadyC.cons rfl (fun K hK => ?_) ReadyC.nil
    go_simp
    refine hK _ _ (fun h => absurd rfl h) ?_
    clear hK K
    (try simp only [Act.put])
    (try simp only [List.setIfInBounds_toArray])
    (try simp only [List.set_cons_succ])
    (try simp only [List.set_cons_zero])
    refine doneC (by kernel_rfl) ?_ _
    clear z0 HZ4 HZ5 HZ6 HZ7 HZ8 HZ9
    go_wp2
    go_ret
    exact ⟨_, rfl, HF.out.1, HF.out.2⟩
  · have hC4 : Below w2.heap.size w2 (W0.alloc (.cells #[.int .i64 (rd : Int)] 3)) := hC.out.alloc hC.out.size _
    go_simp
    refine hK _ _ (fun _ => hC4) ?_
    clear hK K
    (try simp only [Act.put])
    (try simp only [List.setIfInBounds_toArray])
    (try simp only [List.set_cons_succ])
    (try simp only [List.set_cons_zero])
    have HRd : Hid ((W0.alloc (.cells #[.int .i64 (rd : Int)] 3)).heap[W0.heap.size]? = some (.cells #[.int .i64 (rd : Int)] 3 (0, 0))) := heap_alloc_new _ _
    obtain ⟨W1, hW1⟩ : ∃ W1, W1 = W0.alloc (.cells #[.int .i64 (rd : Int)] 3) := ⟨_, rfl⟩
    rw [← hW1] at HRd hC4 ⊢
    replace hC : Hid (Below w2.heap.size w2 W1) := hC4
    clear hC4 hW1
    refine readyC (rs := [3]) (by kernel_rfl) (by simp) ?_
    refine ReadyC.cons rfl (fun K hK => ?_) ReadyC.nil
    refine stepV_call rfl 48 #[.slice a2 f1 c2, .agg #[.int .i64 (X : Int), .int .i64 (St : Int), .slice A.na nn A.nc, .slice A.da dn A.dc]] (by kernel_rfl) (HPS.out W1 hC.out) (fun e' w' h => ?_) ?_
    · obtain ⟨a, c, rfl, _⟩ := h.row
      exact ⟨_, rfl⟩
    intro v1 W3 hq
    obtain ⟨a3, c3, hv1, hown, hrow, hb⟩ := hq.row
    have hv1' := Ending.returned.inj hv1
    subst hv1'
    rw [HF3.out] at hrow ⊢
    have hC9 : Below w2.heap.size w2 W3 := hC.out.trans (hb.mono hC.out.size)
    have HCN : Hid (Calls Tryd.prog 45 #[.slice a3 f3 c3, .slice (some ⟨W0.heap.size, 0, none⟩) 1 1] W3 (Made W3 T)) := HPN.out _ a3 c3 _ hrow (lt_cell HRd.out hb rfl)
    refine hK _ _ (fun _ => hC9) ?_
    replace hC : Hid (Below w2.heap.size w2 W3) := hC9
    clear hK K hv1 hown hrow hb hq hC9 HPS HPN HRd
    (try simp only [Act.put])
    (try simp only [List.setIfInBounds_toArray])
    (try simp only [List.set_cons_succ])
    (try simp only [List.set_cons_zero])
    refine readyC (rs := [7]) (by kernel_rfl) (by simp) ?_
    refine ReadyC.cons rfl (fun K hK => ?_) ReadyC.nil
    refine stepV_call rfl 45 #[.slice a3 f3 c3, .slice (some ⟨W0.heap.size, 0, none⟩) 1 1] (by kernel_rfl) HCN.out (fun e' w' h => ?_) ?_
    · obtain ⟨a, c, rfl, _⟩ := h.row
      exact ⟨_, rfl⟩
    intro v2 W5 hq
    obtain ⟨a5, c5, hv2, hown, hrow, hb⟩ := hq.row
    have hv2' := Ending.returned.inj hv2
    subst hv2'
    have hC5 : Below w2.heap.size w2 W5 := hC.out.trans (hb.mono hC.out.size)
    have HF : Hid (OwnB W5 w.heap.size (.slice a5 T.length c5) T ∧ Below w.heap.size w W5) := ⟨own_lower hown (Nat.le_trans HU.out.2.2.1.size hC.out.size), (HWu.out W5 hC5).2⟩
    refine hK _ _ (fun _ => hC5) ?_
    clear hK K hv2 hown hrow hb hq hC5 HCN hC
    (try simp only [Act.put])
    (try simp only [List.setIfInBounds_toArray])
    (try simp only [List.set_cons_succ])
    (try simp only [List.set_cons_zero])
    refine readyC (rs := [8]) (by kernel_rfl) (by simp) ?_
    refine ReadyC.cons rfl (fun K hK => ?_) ReadyC.nil
    go_simp
    refine hK _ _ (fun h => absurd rfl h) ?_
    clear hK K
    (try simp only [Act.put])
    (try simp only [List.setIfInBounds_toArray])
    (try simp only [List.set_cons_succ])
    (try simp only [List.set_cons_zero])
    refine doneC (by kernel_rfl) ?_ _
    clear z0 HZ4 HZ5 HZ6 HZ7 HZ8 HZ9
    go_wp2
    go_ret
    exact ⟨_, rfl, HF.out.1, HF.out.2⟩
end Go.Proofs.YtmlihlnigojmpaaDoor
