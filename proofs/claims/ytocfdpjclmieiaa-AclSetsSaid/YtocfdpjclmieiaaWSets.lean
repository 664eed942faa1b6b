/- AclSets: a right is given, or taken away, or refused; walked. -/
import Derived.Test.YtocfdpjclmieiaaASrc
set_option linter.unusedVariables false
namespace Go.Proofs.Ytocfdpjclmieiaa
open Go.RowKit

set_option maxHeartbeats 16000000 in
set_option maxRecDepth 20000 in
theorem wsets (l : List GrA) (hle : Lens2 l) (a : Option Addr) (cap : Nat) (sh : ShA a l.length cap) (g : GrA) (h1 : g.tenant.length ≤ 9223372036854775000) (hg : g.who.length ≤ 9223372036854775000) (w : World) (hv : GrsAt w (.slice a l.length cap) l) :
    Calls Try.prog 4 #[.slice a l.length cap, aggA g] w fun e w' => e = .returned (.bool true) ∧ Below w.heap.size w w' := by
  have HS : Hid (∀ u, Calls Try.prog 5 #[] u fun e w' => e = .returned (.bool true) ∧ Below u.heap.size u w') := fun u => ashown_any u
  have HX0 : Hid (∀ u, Below w.heap.size w u → Calls Try.prog 15 #[.slice a l.length cap, aggA g] u fun e w' => (∃ v', e = .returned (.tuple #[v', .int .i64 (errA l g)]) ∧ w'.ownsRow u.heap.size 33 3 v' (rowE (errA l g) (setL l g)).length (grCs (rowE (errA l g) (setL l g)))) ∧ Below u.heap.size u w') := fun u hu => (xset_any l hle g h1 hg _ u (hv.below hu)).mono fun e w' q => setP_row q
  have HA0 : Hid (∀ (u : World) (a' : Option Addr) (c' : Nat), ShA a' l.length c' → GrsAt u (.slice a' l.length c') l → Calls Try.prog 16 #[.slice a' l.length c', aggA g] u fun e w' => (∃ v', e = .returned (.tuple #[v', .int .i64 (errA l g)]) ∧ w'.ownsRow u.heap.size 33 3 v' (rowE (errA l g) (setL l g)).length (grCs (rowE (errA l g) (setL l g)))) ∧ Below u.heap.size u w') := fun u a' c' s' v' => (aset_all l (fun x hx => (hle x hx).2) g hg a' c' s' u v').mono fun e w' q => setP_row (E := errA l g) (L := setL l g) q
  have HRl := (show Hid ((rowE (errA l g) (setL l g)).length ≤ l.length + 1) from rowE_len l g)
  have HSa : Hid (∀ (L : List GrA) (v1 v2 : Value) (u : World), L.length ≤ 9223372036854775000 → GrsAt u v1 L → GrsAt u v2 L → Calls Try.prog 17 #[v1, v2] u fun e w' => e = .returned (.bool true) ∧ Below u.heap.size u w') := fun L v1 v2 u q p1 p2 => asame_any L q v1 v2 u p1 p2
  generalize errA l g = E at *
  generalize rowE E (setL l g) = XL at *
  obtain ⟨t, h, r⟩ := g
  have HX : Hid (∀ u, Below w.heap.size w u → Calls Try.prog 15 #[.slice a l.length cap, .agg #[strA t, strA h, .int .i64 r]] u fun e w' => (∃ v', e = .returned (.tuple #[v', .int .i64 E]) ∧ w'.ownsRow u.heap.size 33 3 v' XL.length (grCs XL)) ∧ Below u.heap.size u w') := HX0
  have HA : Hid (∀ (u : World) (a' : Option Addr) (c' : Nat), ShA a' l.length c' → GrsAt u (.slice a' l.length c') l → Calls Try.prog 16 #[.slice a' l.length c', .agg #[strA t, strA h, .int .i64 r]] u fun e w' => (∃ v', e = .returned (.tuple #[v', .int .i64 E]) ∧ w'.ownsRow u.heap.size 33 3 v' XL.length (grCs XL)) ∧ Below u.heap.size u w') := HA0
  clear HX0 HA0 hle h1 hg
  have HV := (show Hid (GrsAt w (.slice a l.length cap) l) from hv)
  have HSh := (show Hid (ShA a l.length cap) from sh)
  clear hv sh
  have HA1 : Hid (Below w.heap.size w (w.alloc (.cells #[strA t, strA h, .int .i64 r] 33))) := (Below.refl _ _).alloc (Nat.le_refl _) _
  have HKB : Hid ((w.alloc (.cells #[strA t, strA h, .int .i64 r] 33)).heap[w.heap.size]? = some (.cells #[strA t, strA h, .int .i64 r] 33 (0, 0))) := blk_new _ _ _
  show Calls Try.prog 4 #[.slice a l.length cap, .agg #[strA t, strA h, .int .i64 r]] w fun e w' => e = .returned (.bool true) ∧ Below w.heap.size w w'
  go_enter Try.func4, Try.ntmps4
  go_wp2_with (go_at_call 5; refine Calls.mono (HS.out _) ?_)
  rintro e wa1 ⟨rfl, hb1⟩
  have HB1 := (show Hid (Below w.heap.size w wa1) from HA1.out.trans (hb1.mono HA1.out.size))
  have HK1 := (show Hid (wa1.heap[w.heap.size]? = some (.cells #[strA t, strA h, .int .i64 r] 33 (0, 0))) from blk_belowA HKB.out hb1)
  clear hb1 HKB HA1 HS
  by_cases h200 : 200 < l.length
  · have hi : (200 : Int) < (l.length : Int) := by omega
    clear HX HA HSa HRl HV HSh HK1
    go_wp2
    go_ret
    exact ⟨rfl, HB1.out⟩
  have hi200 : ¬ (200 : Int) < (l.length : Int) := by omega
  have hl200 : l.length ≤ 200 := by omega
  obtain ⟨i0, hi, hz0, hz1, hz2⟩ := info_parts info11G
  have HV1 := (show Hid (GrsAt wa1 (.slice a l.length cap) l) from HV.out.below HB1.out)
  have HW0 : Hid (∀ o, Below wa1.heap.size wa1 (wa1.alloc o)) := fun o => (Below.refl _ _).alloc (Nat.le_refl _) o
  have hsrc := fun o => grs_src HSh.out (HV1.out.below (HW0.out o))
  go_wp2_with (first | (at_builtin; refine wpList_append_src rfl _ _ 22 rfl wa1.heap.size 33 i0 (.agg #[.string ⟨#[]⟩, .string ⟨#[]⟩, .int .i64 0]) 3 40 Try.underlying22 hi hz0 hz1 hz2 rfl (by decide) _ _ _ rfl (World.ownsRow_lit wa1 #[] 0 (Nat.le_refl _) (Nat.zero_le _) rfl) a l.length cap (grCs l) rfl (hsrc _) ?d1 ?d2 ?d3 ?_))
  case d1 => unfold maxLen; omega
  case d2 => omega
  case d3 => simp
  intro v2 wa2 hown2 hb2
  have HB2 := (show Hid (Below wa1.heap.size wa1 wa2) from (HW0.out _).trans hb2)
  have HO2 := (show Hid (wa2.ownsRow wa1.heap.size 33 3 v2 l.length (grCs l)) from hown2)
  obtain ⟨av2, cv2, hv2⟩ := arow_len HO2.out
  subst hv2
  clear hown2 hb2 hsrc HW0
  go_wp2_with (at_builtin; refine wpList_append_own_at _ rfl _ _ 22 rfl wa1.heap.size 33 i0 (.agg #[.string ⟨#[]⟩, .string ⟨#[]⟩, .int .i64 0]) 3 40 Try.underlying22 hi hz0 hz1 hz2 rfl (by decide) _ _ _ rfl (World.ownsRow.alloc HO2.out _) ⟨wa2.heap.size, 0, none⟩ 1 1 [.string ⟨#[]⟩, .string ⟨#[]⟩, .int .i64 77] rfl rfl (lit_cells _ _ _) ?d3 ?d4 ?d5 ?d6 ?_)
  case d3 => first | (intro u hu; simp at hu; rcases hu with rfl | rfl | rfl <;> rfl) | exact ⟨rfl, rfl, rfl⟩
  case d4 => unfold maxLen; omega
  case d5 => omega
  case d6 => have := HB2.out.size; simp; omega
  intro v3 wa3 hown3 hgrow3 _ _
  have HB3 := (show Hid (Below wa1.heap.size wa1 wa3) from (HB2.out.alloc HB2.out.size _).grown hgrow3 (by have := HB2.out.size; simp; omega) (fun k hk => (World.ownsRow.lt HO2.out k hk).1))
  have HO3 := (show Hid (wa3.ownsRow wa1.heap.size 33 3 v3 (l ++ [(⟨[], [], 77⟩ : GrA)]).length (grCs (l ++ [(⟨[], [], 77⟩ : GrA)]))) from (by rw [List.length_append, grCs_app]; exact hown3))
  obtain ⟨ao, co, hv3⟩ := arow_len HO3.out
  subst hv3
  obtain ⟨go, hao, hgo, hc77⟩ := arow_cell HO3.out (j := l.length * 3 + 2) (u := .int .i64 77) (by rw [grCs_app, List.getElem?_append_right (by rw [grCs_len]; omega), grCs_len, show l.length * 3 + 2 - l.length * 3 = 2 by omega]; rfl)
  subst hao
  have HBw3 := (show Hid (Below w.heap.size w wa3) from HB1.out.trans (HB3.out.mono HB1.out.size))
  have hcap : l.length + 1 ≤ co ∧ co ≤ 9223372036854775807 := by
    obtain ⟨a', c', e, hc, _⟩ := grs_shape HO3.out
    cases e
    rw [List.length_append] at hc
    exact hc
  have HG3 := (show Hid (GrsAt wa3 (.slice (some ⟨go, 0, none⟩) (l ++ [(⟨[], [], 77⟩ : GrA)]).length co) (l ++ [(⟨[], [], 77⟩ : GrA)])) from grs_row HO3.out)
  have HC77 := (show Hid (wa3.cell? ⟨go, l.length * 3 + 2, none⟩ = some (.int .i64 77)) from hc77)
  have hk3 := blk_belowA HK1.out HB3.out
  have c0 : wa3.cell? ⟨w.heap.size, 0, none⟩ = some (strA t) := cell_blkA hk3 (i := 0) rfl
  have c1 : wa3.cell? ⟨w.heap.size, 1, none⟩ = some (strA h) := cell_blkA hk3 (i := 1) rfl
  have c2 : wa3.cell? ⟨w.heap.size, 2, none⟩ = some (.int .i64 r) := cell_blkA hk3 (i := 2) rfl
  have HK3 := (show Hid _ from hk3)
  have hln : (l ++ [(⟨[], [], 77⟩ : GrA)]).length = l.length + 1 := by rw [List.length_append]; rfl
  rw [hln] at HG3 ⊢
  clear hown3 hgrow3 HO2 HO3 hc77 hk3 HK1 hln
  go_wp2_with (go_at_call 15; refine Calls.mono (HX.out _ HBw3.out) ?_)
  rintro e wa4 ⟨⟨v4, rfl, h4⟩, hb4⟩
  have HB4 := (show Hid (Below w.heap.size w wa4) from HBw3.out.trans (hb4.mono HBw3.out.size))
  have HK4 := (show Hid (wa4.heap[w.heap.size]? = some (.cells #[strA t, strA h, .int .i64 r] 33 (0, 0))) from blk_belowA HK3.out hb4)
  have HGo := (show Hid (GrsAt wa4 (.slice (some ⟨go, 0, none⟩) l.length co) l) from grs_front (HG3.out.below hb4))
  have HG77 := (show Hid (wa4.cell? ⟨go, l.length * 3 + 2, none⟩ = some (.int .i64 77)) from (hb4.cell (p := ⟨go, l.length * 3 + 2, none⟩) hgo).trans HC77.out)
  have hgo4 : go < wa4.heap.size := Nat.lt_of_lt_of_le hgo hb4.size
  have HGv := (show Hid (GrsAt wa4 v4 XL) from grs_row h4)
  have HGl := (show Hid (GrsAt wa4 (.slice a l.length cap) l) from HV.out.below HB4.out)
  obtain ⟨aw, cw, hv4⟩ := arow_len h4
  subst hv4
  have hXl : XL.length ≤ 201 := by have := HRl.out; omega
  have hlc1 : (l.length : Int) + 1 ≤ (co : Int) := by omega
  have hlc2 : (co : Int) ≤ 9223372036854775807 := by omega
  have hlc3 : (l.length : Int) ≤ (co : Int) := by omega
  have HShO : Hid (ShA (some ⟨go, 0, none⟩) l.length co) := ⟨⟨by omega, hcap.2⟩, .inr (.inl ⟨go, 0, rfl⟩)⟩
  clear c0 c1 c2 h4 hb4 HK3 HG3 HC77 HBw3 HB3 HB2 HV HV1 HSh HX HRl hgo hcap HB1
  go_wp2
  go_loopw [9] (fun i wr => ∃ k : Nat, i = .int .i64 (k : Int) ∧ k ≤ 2 ∧ Hid (Below wa4.heap.size wa4 wr)) (fun i _ => 2 - (intOf i).toNat)
  case atStart => exact ⟨0, rfl, Nat.zero_le _, Below.refl _ _⟩
  case round =>
    obtain ⟨k, rfl, hk, HB⟩ := hrel
    by_cases hlt : k < 2
    · have hlt1 : (k : Int) < 2 := by omega
      have hbb : ∀ u : BwA wr, Below wa4.heap.size wa4 u.wo := fun u => HB.out.trans (u.is.mono HB.out.size)
      have x0 : ∀ u : BwA wr, u.wo.cell? ⟨w.heap.size, 0, none⟩ = some (strA t) := fun u => cell_blkA (blk_belowA HK4.out (hbb u)) rfl
      have x1 : ∀ u : BwA wr, u.wo.cell? ⟨w.heap.size, 1, none⟩ = some (strA h) := fun u => cell_blkA (blk_belowA HK4.out (hbb u)) rfl
      have x2 : ∀ u : BwA wr, u.wo.cell? ⟨w.heap.size, 2, none⟩ = some (.int .i64 r) := fun u => cell_blkA (blk_belowA HK4.out (hbb u)) rfl
      have HAu : Hid (∀ u, Below wa4.heap.size wa4 u → Calls Try.prog 16 #[.slice (some ⟨go, 0, none⟩) l.length co, .agg #[strA t, strA h, .int .i64 r]] u fun e w' => (∃ v', e = .returned (.tuple #[v', .int .i64 E]) ∧ w'.ownsRow u.heap.size 33 3 v' XL.length (grCs XL)) ∧ Below u.heap.size u w') := fun u hu => HA.out u _ co HShO.out (HGo.out.below hu)
      clear hbb HA
      go_wp2
      refine region_mid (fun w' => ∃ u : BwA wr, w' = u.wo) (fun w2 w3 => ∃ u : BwA w2, w3 = u.wo) 5 #[true, true, true, true, true, false, false, false, false, false, false] (by kernel_rfl) (by kernel_rfl) (BwA.first wr) (fun u => ⟨BwA.of (Below.refl _ _), rfl⟩) ?_
      haveI := BwA.some wr
      simp only [List.take_succ_cons, List.take_zero]
      repeat (go_big_quiet_step (exact rfl))
      refine wpQuiet_nil ?_
      intro w5 hw5
      obtain ⟨U5, hu5⟩ := hw5
      subst hu5
      have hb5 := U5.is
      clear x0 x1 x2
      generalize U5.wo = wa5 at *
      have HB5 := (show Hid (Below wa4.heap.size wa4 wa5) from HB.out.trans (hb5.mono HB.out.size))
      clear hb5 HB
      refine mid_call (R := fun v w' => (∃ v', v = .tuple #[v', .int .i64 E] ∧ w'.ownsRow wa5.heap.size 33 3 v' XL.length (grCs XL)) ∧ Below wa5.heap.size wa5 w') rfl rfl rfl (by kernel_rfl) ((HAu.out wa5 HB5.out).mono (fun e w' q => ?_)) ?_
      · obtain ⟨⟨v', rfl, q1⟩, q2⟩ := q
        exact ⟨_, rfl, ⟨v', rfl, q1⟩, q2⟩
      rintro v wa6 ⟨⟨vX, rfl, hrX⟩, hb6⟩
      obtain ⟨aX, cX, hvX⟩ := arow_len hrX
      subst hvX
      have HO6 := (show Hid (wa6.ownsRow wa4.heap.size 33 3 (.slice aX XL.length cX) XL.length (grCs XL)) from arow_baseX hrX HB5.out.size)
      have HB6 := (show Hid (Below wa4.heap.size wa4 wa6) from HB5.out.trans (hb6.mono HB5.out.size))
      clear hrX hb6 HB5 HAu
      haveI := BwA.some wa6
      simp only [List.drop_succ_cons, List.drop_zero, List.setIfInBounds_toArray, List.set_cons_succ, List.set_cons_zero]
      repeat (go_big_quiet_step (exact rfl))
      refine wpQuiet_nil ?_
      intro w7 hw7
      obtain ⟨U7, hu7⟩ := hw7
      subst hu7
      have hb7 := U7.is
      have HO7 := (show Hid (World.ownsRow U7.wo wa4.heap.size 33 3 (.slice aX XL.length cX) XL.length (grCs XL)) from arow_keepsX HO6.out hb7)
      have HB7 := (show Hid (Below wa4.heap.size wa4 U7.wo) from HB6.out.trans (hb7.mono HB6.out.size))
      clear hb7 HO6 HB6
      generalize U7.wo = wa7 at *
      have hS7 := HSa.out XL (.slice aX XL.length cX) (.slice aw XL.length cw) wa7 (by omega) (grs_row HO7.out) (HGv.out.below HB7.out)
      have HS7 := (show Hid (Calls Try.prog 17 #[.slice aX XL.length cX, .slice aw XL.length cw] wa7 fun e w' => e = .returned (.bool true) ∧ Below wa7.heap.size wa7 w') from hS7)
      clear hS7
      have hEE : (E == E) = true := by simp
      have hEN : (E != E) = false := by simp
      go_wp2_with (go_at_call 17; refine Calls.mono HS7.out ?_)
      first | (intro e wa8 he8 hb8; subst he8) | rintro e wa8 ⟨rfl, hb8⟩
      have HO8 := (show Hid (wa8.ownsRow wa4.heap.size 33 3 (.slice aX XL.length cX) XL.length (grCs XL)) from arow_keepsX HO7.out hb8)
      have HB8 := (show Hid (Below wa4.heap.size wa4 wa8) from HB7.out.trans (hb8.mono HB7.out.size))
      clear hb8 HO7 HB7 HS7
      go_wp2_with (at_builtin; refine wpList_append_own_at _ rfl _ _ 22 rfl wa4.heap.size 33 i0 (.agg #[.string ⟨#[]⟩, .string ⟨#[]⟩, .int .i64 0]) 3 40 Try.underlying22 hi hz0 hz1 hz2 rfl (by decide) _ _ _ rfl (World.ownsRow.alloc HO8.out _) ⟨wa8.heap.size, 0, none⟩ 1 1 [.string ⟨#[]⟩, .string ⟨#[]⟩, .int .i64 0] rfl rfl (lit_cells _ _ _) ?d3 ?d4 ?d5 ?d6 ?_)
      case d3 => first | (intro u hu; simp at hu; rcases hu with rfl | rfl | rfl <;> rfl) | exact ⟨rfl, rfl, rfl⟩
      case d4 => unfold maxLen; omega
      case d5 => omega
      case d6 => have := HB8.out.size; simp; omega
      intro v9 wa9 hown9 hgrow9 _ _
      have HB9 := (show Hid (Below wa4.heap.size wa4 wa9) from (HB8.out.alloc HB8.out.size _).grown hgrow9 (by have := HB8.out.size; simp; omega) (fun k hk => (World.ownsRow.lt HO8.out k hk).1))
      obtain ⟨M, hM⟩ : ∃ M, M = XL.length + 1 := ⟨_, rfl⟩
      obtain ⟨XS, hXS⟩ : ∃ XS, XS = grCs XL ++ [.string ⟨#[]⟩, .string ⟨#[]⟩, .int .i64 0] := ⟨_, rfl⟩
      rw [← hM, ← hXS] at hown9
      have hM2 : M ≤ 202 := by omega
      have HO9 := (show Hid (∃ xs, wa9.ownsRow wa4.heap.size 33 3 v9 M xs) from ⟨_, hown9⟩)
      obtain ⟨a9, c9, hv9⟩ := arow_len hown9
      subst hv9
      have hMi : (M : Int) ≤ 202 := by omega
      clear hown9 hgrow9 HO8 HB8 hM hXS
      go_wp2
      go_loopw [13] (fun i wx => ∃ j : Nat, i = .int .i64 (j : Int) ∧ j ≤ M ∧ Hid (∃ xs, wx.ownsRow wa4.heap.size 33 3 (.slice a9 M c9) M xs) ∧ Hid (Below wa4.heap.size wa4 wx)) (fun i _ => M - (intOf i).toNat)
      case atStart => exact ⟨0, rfl, Nat.zero_le _, HO9, HB9⟩
      case round =>
        obtain ⟨j, rfl, hj, HOx, HBx⟩ := hrel
        by_cases hjl : j < M
        · have hjl1 : (j : Int) < (M : Int) := by omega
          obtain ⟨xs, hox⟩ := HOx.out
          obtain ⟨gx, hgx, hgx2⟩ : ∃ gx, a9 = some ⟨gx, 0, none⟩ ∧ wa4.heap.size ≤ gx := by
            rcases hox.2 with ⟨hn, h0⟩ | ⟨gx, cp, cur, hn, hb, _⟩
            · omega
            · cases hn
              exact ⟨gx, rfl, hb⟩
          subst hgx
          have hxl : xs.length = M * 3 := hox.1
          obtain ⟨y0, hy0⟩ : ∃ y0, xs[j * 3]? = some y0 := ⟨_, List.getElem?_eq_getElem (by omega)⟩
          obtain ⟨y1, hy1⟩ : ∃ y1, xs[j * 3 + 1]? = some y1 := ⟨_, List.getElem?_eq_getElem (by omega)⟩
          obtain ⟨y2, hy2⟩ : ∃ y2, xs[j * 3 + 2]? = some y2 := ⟨_, List.getElem?_eq_getElem (by omega)⟩
          have k0 : wr.cell? ⟨gx, j * 3, none⟩ = some y0 := (hox.cellAt _ (by omega)).trans hy0
          have k1 : wr.cell? ⟨gx, j * 3 + 1, none⟩ = some y1 := (hox.cellAt _ (by omega)).trans hy1
          have k2 : wr.cell? ⟨gx, j * 3 + 2, none⟩ = some y2 := (hox.cellAt _ (by omega)).trans hy2
          have f0 : wr.frozen? ⟨gx, j * 3, none⟩ = false := hox.frozenAt _
          have f1 : wr.frozen? ⟨gx, j * 3 + 1, none⟩ = false := hox.frozenAt _
          have f2 : wr.frozen? ⟨gx, j * 3 + 2, none⟩ = false := hox.frozenAt _
          have HOy := (show Hid (wr.ownsRow wa4.heap.size 33 3 (.slice (some ⟨gx, 0, none⟩) M c9) M xs) from hox)
          clear hy0 hy1 hy2 hox HOx hxl
          go_wp2
          refine ⟨⟨j + 1, by go_num, by omega, ?_, ?_⟩, by (simp [intOf]) <;> omega⟩
          · exact ⟨_, (((HOy.out.stored _ _).1.stored _ _).1.stored _ _).1⟩
          · exact ((HBx.out.setCell hgx2 _).setCell hgx2 _).setCell hgx2 _
        · have hjl1 : ¬ (j : Int) < (M : Int) := by omega
          go_wp2
          go_roundw
          case rel => exact ⟨k + 1, by go_num, by omega, HBx⟩
          case measure => (simp [intOf]) <;> omega
    · have hlt1 : ¬ (k : Int) < 2 := by omega
      have hSf := HSa.out l (.slice (some ⟨go, 0, none⟩) l.length co) (.slice a l.length cap) wr (by omega) (HGo.out.below HB.out) (HGl.out.below HB.out)
      have HSf := (show Hid (Calls Try.prog 17 #[.slice (some ⟨go, 0, none⟩) l.length co, .slice a l.length cap] wr fun e w' => e = .returned (.bool true) ∧ Below wr.heap.size wr w') from hSf)
      clear hSf HA HSa
      go_wp2_with (go_at_call 17; refine Calls.mono HSf.out ?_)
      first | (intro e wa8 he8 hb8; subst he8) | rintro e wa8 ⟨rfl, hb8⟩
      have HB8 := (show Hid (Below wa4.heap.size wa4 wa8) from HB.out.trans (hb8.mono HB.out.size))
      have HBf := (show Hid (Below w.heap.size w wa8) from HB4.out.trans (HB8.out.mono HB4.out.size))
      have c77 : wa8.cell? ⟨go, l.length * 3 + 2, none⟩ = some (.int .i64 77) := (HB8.out.cell (p := ⟨go, l.length * 3 + 2, none⟩) hgo4).trans HG77.out
      have hll1 : (l.length : Int) < (l.length : Int) + 1 := by omega
      clear hb8 HSf HB HB8
      go_wp2
      go_ret
      exact ⟨rfl, HBf.out⟩
end Go.Proofs.Ytocfdpjclmieiaa
