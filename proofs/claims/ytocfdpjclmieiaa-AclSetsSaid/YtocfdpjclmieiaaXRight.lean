/- Right of the document's answer (layer 11); walked. -/
import Derived.Test.YtocfdpjclmieiaaXBelow
set_option linter.unusedVariables false
namespace Go.Proofs.Ytocfdpjclmieiaa
open Go.RowKit

def Lens2 (l : List GrA) : Prop := ∀ g ∈ l, g.tenant.length ≤ 9223372036854775000 ∧ g.who.length ≤ 9223372036854775000

set_option maxHeartbeats 8000000 in
set_option maxRecDepth 8000 in
theorem xright_any (l : List GrA) (hle : Lens2 l) (v : Value) (w : World) (hv : GrsAt w v l) : Calls Try.prog 12 #[v] w fun e w' => e = .returned (.bool (rightA l)) ∧ Below w.heap.size w w' := by
  obtain ⟨a, cap, rfl, hc⟩ := hv
  by_cases h64 : 64 < l.length
  · have hi : (64 : Int) < (l.length : Int) := by omega
    go_enter Try.func12, Try.ntmps12
    go_wp2
    go_ret
    exact ⟨ret_bool (by unfold rightA; rw [decide_eq_false (by omega)]; rfl), Below.refl _ _⟩
  · have hi : ¬ (64 : Int) < (l.length : Int) := by omega
    have HC := (show Hid (∀ i g, l[i]? = some g → ∃ b o, a = some ⟨b, o, none⟩ ∧ b < w.heap.size ∧ w.cell? ⟨b, o + i * 3, none⟩ = some (strA g.tenant) ∧ w.cell? ⟨b, o + i * 3 + 1, none⟩ = some (strA g.who) ∧ w.cell? ⟨b, o + i * 3 + 2, none⟩ = some (.int .i64 g.right)) from hc)
    have HLe := (show Hid (Lens2 l) from hle)
    clear hc hle
    go_enter Try.func12, Try.ntmps12
    go_wp2
    go_loopw [3] (fun i wr => ∃ k : Nat, i = .int .i64 (k : Int) ∧ k ≤ l.length ∧ Hid (RtP l k) ∧ Hid (Below w.heap.size w wr)) (fun i _ => l.length - (intOf i).toNat)
    case atStart => exact ⟨0, rfl, Nat.zero_le _, (fun i g h => absurd h (Nat.not_lt_zero _)), Below.refl _ _⟩
    case round =>
      obtain ⟨k, rfl, hk, HP, HB⟩ := hrel
      by_cases hlt : k < l.length
      · have hlt1 : (k : Int) < (l.length : Int) := by omega
        obtain ⟨g, hg⟩ : ∃ g, l[k]? = some g := ⟨_, List.getElem?_eq_getElem hlt⟩
        rcases Nat.eq_zero_or_pos k with hk0 | hk0
        · subst hk0
          obtain ⟨b, o, ha, hbw, c0, c1, c2⟩ := HC.out (0) g hg
          subst ha
          simp only [Nat.zero_mul, Nat.add_zero] at c0 c1 c2
          have HNo := (show Hid (fitsA g 1 = false ∨ (∃ p, 0 < 0 ∧ l[0 - 1]? = some p ∧ ¬ ordL p g < 0) → rightA l = false) from right_not hg)
          have HNx := (show Hid (fitsA g 1 = true → (∀ p, 0 < 0 → l[0 - 1]? = some p → ordL p g < 0) → RtP l (0 + 1)) from rtp_next HP.out hg)
          have HFk := (show Hid (fitsA g 1 = (keyA g && decide (1 ≤ g.right) && decide (g.right ≤ 3))) from fits_key g 1)
          have hgl := HLe.out g (List.mem_of_getElem? hg)
          have HM0 : Hid (∀ u, Calls Try.prog 24 #[aggA g] u fun e w' => e = .returned (.bool (keyA g)) ∧ Below u.heap.size u w') := fun u => xmay0_any g hgl.1 hgl.2 u
          have HO1 : Hid (fitsA g 1 = true → RtP l (0 + 1)) := fun hf => HNx.out hf (fun p h => absurd h (Nat.lt_irrefl _))
          have HNf : Hid (fitsA g 1 = false → rightA l = false) := fun h => HNo.out (.inl h)
          clear HNo HNx HP hg HLe hgl HC
          obtain ⟨t, h, r⟩ := g
          have HM : Hid (∀ u, Calls Try.prog 24 #[.agg #[strA t, strA h, .int .i64 r]] u fun e w' => e = .returned (.bool (keyA ⟨t, h, r⟩)) ∧ Below u.heap.size u w') := HM0
          clear HM0
          simp only at HFk c0 c1 c2
          have d0 : wr.cell? ⟨b, o, none⟩ = some (strA t) := (HB.out.cell (p := ⟨b, o, none⟩) hbw).trans c0
          have d1 : wr.cell? ⟨b, o + 1, none⟩ = some (strA h) := (HB.out.cell (p := ⟨b, o + 1, none⟩) hbw).trans c1
          have d2 : wr.cell? ⟨b, o + 2, none⟩ = some (.int .i64 r) := (HB.out.cell (p := ⟨b, o + 2, none⟩) hbw).trans c2
          have HCur := (show Hid (w.cell? ⟨b, o, none⟩ = some (strA t) ∧ w.cell? ⟨b, o + 1, none⟩ = some (strA h) ∧ w.cell? ⟨b, o + 2, none⟩ = some (.int .i64 r)) from ⟨c0, c1, c2⟩)
          clear c0 c1 c2
          generalize keyA ⟨t, h, r⟩ = KY at *
          generalize fitsA ⟨t, h, r⟩ 1 = FI at *
          go_wp2_with (go_at_call 24; refine Calls.mono (HM.out _) ?_)
          first | (intro e u1 he1 hb1; subst he1) | rintro e u1 ⟨rfl, hb1⟩
          have HB1 := (show Hid (Below w.heap.size w u1) from HB.out.trans (hb1.mono HB.out.size))
          have hcu : ∀ u : BwA u1, Below w.heap.size w u.wo := fun u => HB1.out.trans (u.is.mono HB1.out.size)
          have f0 : ∀ u : BwA u1, u.wo.cell? ⟨b, o, none⟩ = some (strA t) := fun u => ((hcu u).cell (p := ⟨b, o, none⟩) hbw).trans HCur.out.1
          have f1 : ∀ u : BwA u1, u.wo.cell? ⟨b, o + 1, none⟩ = some (strA h) := fun u => ((hcu u).cell (p := ⟨b, o + 1, none⟩) hbw).trans HCur.out.2.1
          have f2 : ∀ u : BwA u1, u.wo.cell? ⟨b, o + 2, none⟩ = some (.int .i64 r) := fun u => ((hcu u).cell (p := ⟨b, o + 2, none⟩) hbw).trans HCur.out.2.2
          clear hb1 HM d0 d1 d2 hcu HCur HB
          cases KY
          · have HRR : Hid (rightA l = false) := HNf.out (by rw [HFk.out]; simp; try omega)
            clear HNf HO1 HFk
            go_wp2
            refine region_classA (fun w' => ∃ u : BwA u1, w' = u.wo) (by kernel_rfl) (by kernel_rfl) (BwA.first u1) ?_
            haveI := BwA.some u1
            repeat (go_big_quiet_step (exact rfl))
            refine wpQuiet_nil ?_
            intro w5 hw5
            obtain ⟨u, hu⟩ := hw5
            subst hu
            have HB2 := (show Hid (Below w.heap.size w u.wo) from HB1.out.trans (u.is.mono HB1.out.size))
            clear f0 f1 f2 HB1
            generalize u.wo = w6 at *
            go_wp2
            go_ret
            exact ⟨ret_bool HRR.out.symm, HB2.out⟩
          · by_cases hr1 : r < 1
            · have HRR : Hid (rightA l = false) := HNf.out (by rw [HFk.out]; simp; try omega)
              clear HNf HO1 HFk
              go_wp2
              refine region_classA (fun w' => ∃ u : BwA u1, w' = u.wo) (by kernel_rfl) (by kernel_rfl) (BwA.first u1) ?_
              haveI := BwA.some u1
              repeat (go_big_quiet_step (exact rfl))
              refine wpQuiet_nil ?_
              intro w5 hw5
              obtain ⟨u, hu⟩ := hw5
              subst hu
              have HB2 := (show Hid (Below w.heap.size w u.wo) from HB1.out.trans (u.is.mono HB1.out.size))
              clear f0 f1 f2 HB1
              generalize u.wo = w6 at *
              go_wp2
              go_ret
              exact ⟨ret_bool HRR.out.symm, HB2.out⟩
            · have hr1b : 1 ≤ r := by omega
              clear hr1
              by_cases hr3 : 3 < r
              · have HRR : Hid (rightA l = false) := HNf.out (by rw [HFk.out]; simp; try omega)
                clear HNf HO1 HFk
                go_wp2
                have hn1 : ¬ r < 1 := by omega
                have hq1 : decide (r < 1) = false := decide_eq_false hn1
                refine region_classA (fun w' => ∃ u : BwA u1, w' = u.wo) (by kernel_rfl) (by kernel_rfl) (BwA.first u1) ?_
                haveI := BwA.some u1
                repeat (go_big_quiet_step (exact rfl))
                refine wpQuiet_nil ?_
                intro w5 hw5
                obtain ⟨u, hu⟩ := hw5
                subst hu
                have HB2 := (show Hid (Below w.heap.size w u.wo) from HB1.out.trans (u.is.mono HB1.out.size))
                clear f0 f1 f2 HB1
                generalize u.wo = w6 at *
                go_wp2
                go_ret
                exact ⟨ret_bool HRR.out.symm, HB2.out⟩
              · have hr3b : r ≤ 3 := by omega
                have hFI : FI = true := by rw [HFk.out]; simp; omega
                clear hr3
                have HNx2 : Hid (RtP l (0 + 1)) := HO1.out hFI
                clear hFI
                clear HNf HO1 HFk
                go_wp2
                have hn1 : ¬ r < 1 := by omega
                have hq1 : decide (r < 1) = false := decide_eq_false hn1
                have hn3 : ¬ 3 < r := by omega
                have hq3 : decide (3 < r) = false := decide_eq_false hn3
                refine region_classA (fun w' => ∃ u : BwA u1, w' = u.wo) (by kernel_rfl) (by kernel_rfl) (BwA.first u1) ?_
                haveI := BwA.some u1
                repeat (go_big_quiet_step (exact rfl))
                refine wpQuiet_nil ?_
                intro w5 hw5
                obtain ⟨u, hu⟩ := hw5
                subst hu
                have HB2 := (show Hid (Below w.heap.size w u.wo) from HB1.out.trans (u.is.mono HB1.out.size))
                clear f0 f1 f2 HB1
                generalize u.wo = w6 at *
                go_wp2
                exact ⟨⟨0 + 1, by go_num, by omega, HNx2, HB2⟩, by (simp [intOf]) <;> omega⟩
        · obtain ⟨j, rfl⟩ : ∃ j, k = j + 1 := ⟨k - 1, by omega⟩
          obtain ⟨b, o, ha, hbw, c0, c1, c2⟩ := HC.out (j + 1) g hg
          subst ha
          have HNo := (show Hid (fitsA g 1 = false ∨ (∃ p, 0 < j + 1 ∧ l[j + 1 - 1]? = some p ∧ ¬ ordL p g < 0) → rightA l = false) from right_not hg)
          have HNx := (show Hid (fitsA g 1 = true → (∀ p, 0 < j + 1 → l[j + 1 - 1]? = some p → ordL p g < 0) → RtP l (j + 1 + 1)) from rtp_next HP.out hg)
          have HFk := (show Hid (fitsA g 1 = (keyA g && decide (1 ≤ g.right) && decide (g.right ≤ 3))) from fits_key g 1)
          have hgl := HLe.out g (List.mem_of_getElem? hg)
          have HM0 : Hid (∀ u, Calls Try.prog 24 #[aggA g] u fun e w' => e = .returned (.bool (keyA g)) ∧ Below u.heap.size u w') := fun u => xmay0_any g hgl.1 hgl.2 u
          rw [Nat.add_sub_cancel] at HNo HNx
          obtain ⟨pv, hpv⟩ : ∃ pv, l[j]? = some pv := ⟨_, List.getElem?_eq_getElem (by omega)⟩
          obtain ⟨b', o', ha', hb', p0, p1, p2⟩ := HC.out j pv hpv
          have eb : b' = b := by cases ha'; rfl
          have eo : o' = o := by cases ha'; rfl
          rw [eb, eo] at p0 p1 p2
          clear ha' hb' eb eo
          have HX0 : Hid (∀ u, Calls Try.prog 25 #[aggA pv, aggA g] u fun e w' => e = .returned (.bool (decide (ordL pv g < 0))) ∧ Below u.heap.size u w') := fun u => xbelow_any pv g u
          have hjz : (0 : Int) < ((j : Int) + 1) := by omega
          have HO1 : Hid (ordL pv g < 0 → fitsA g 1 = true → RtP l (j + 1 + 1)) := fun hO hf => HNx.out hf (fun p _ hp => by rw [hpv] at hp; cases hp; exact hO)
          have HO2 : Hid (¬ ordL pv g < 0 → rightA l = false) := fun hO => HNo.out (.inr ⟨pv, by omega, hpv, hO⟩)
          clear hpv
          have HNf : Hid (fitsA g 1 = false → rightA l = false) := fun h => HNo.out (.inl h)
          clear HNo HNx HP hg HLe hgl HC
          obtain ⟨t, h, r⟩ := g
          obtain ⟨t', h', r'⟩ := pv
          have HM : Hid (∀ u, Calls Try.prog 24 #[.agg #[strA t, strA h, .int .i64 r]] u fun e w' => e = .returned (.bool (keyA ⟨t, h, r⟩)) ∧ Below u.heap.size u w') := HM0
          clear HM0
          have HX : Hid (∀ u, Calls Try.prog 25 #[.agg #[strA t', strA h', .int .i64 r'], .agg #[strA t, strA h, .int .i64 r]] u fun e w' => e = .returned (.bool (decide (ordL ⟨t', h', r'⟩ ⟨t, h, r⟩ < 0))) ∧ Below u.heap.size u w') := HX0
          clear HX0
          simp only at HFk c0 c1 c2 p0 p1 p2
          have d0 : wr.cell? ⟨b, o + (j + 1) * 3, none⟩ = some (strA t) := (HB.out.cell (p := ⟨b, o + (j + 1) * 3, none⟩) hbw).trans c0
          have d1 : wr.cell? ⟨b, o + (j + 1) * 3 + 1, none⟩ = some (strA h) := (HB.out.cell (p := ⟨b, o + (j + 1) * 3 + 1, none⟩) hbw).trans c1
          have d2 : wr.cell? ⟨b, o + (j + 1) * 3 + 2, none⟩ = some (.int .i64 r) := (HB.out.cell (p := ⟨b, o + (j + 1) * 3 + 2, none⟩) hbw).trans c2
          have HCur := (show Hid (w.cell? ⟨b, o + (j + 1) * 3, none⟩ = some (strA t) ∧ w.cell? ⟨b, o + (j + 1) * 3 + 1, none⟩ = some (strA h) ∧ w.cell? ⟨b, o + (j + 1) * 3 + 2, none⟩ = some (.int .i64 r)) from ⟨c0, c1, c2⟩)
          have HPr := (show Hid (w.cell? ⟨b, o + j * 3, none⟩ = some (strA t') ∧ w.cell? ⟨b, o + j * 3 + 1, none⟩ = some (strA h') ∧ w.cell? ⟨b, o + j * 3 + 2, none⟩ = some (.int .i64 r')) from ⟨p0, p1, p2⟩)
          clear p0 p1 p2
          clear c0 c1 c2
          generalize keyA ⟨t, h, r⟩ = KY at *
          generalize ordL ⟨t', h', r'⟩ ⟨t, h, r⟩ = O at *
          generalize fitsA ⟨t, h, r⟩ 1 = FI at *
          go_wp2_with (go_at_call 24; refine Calls.mono (HM.out _) ?_)
          first | (intro e u1 he1 hb1; subst he1) | rintro e u1 ⟨rfl, hb1⟩
          have HB1 := (show Hid (Below w.heap.size w u1) from HB.out.trans (hb1.mono HB.out.size))
          have hcu : ∀ u : BwA u1, Below w.heap.size w u.wo := fun u => HB1.out.trans (u.is.mono HB1.out.size)
          have f0 : ∀ u : BwA u1, u.wo.cell? ⟨b, o + (j + 1) * 3, none⟩ = some (strA t) := fun u => ((hcu u).cell (p := ⟨b, o + (j + 1) * 3, none⟩) hbw).trans HCur.out.1
          have f1 : ∀ u : BwA u1, u.wo.cell? ⟨b, o + (j + 1) * 3 + 1, none⟩ = some (strA h) := fun u => ((hcu u).cell (p := ⟨b, o + (j + 1) * 3 + 1, none⟩) hbw).trans HCur.out.2.1
          have f2 : ∀ u : BwA u1, u.wo.cell? ⟨b, o + (j + 1) * 3 + 2, none⟩ = some (.int .i64 r) := fun u => ((hcu u).cell (p := ⟨b, o + (j + 1) * 3 + 2, none⟩) hbw).trans HCur.out.2.2
          have y0 : ∀ u : BwA u1, u.wo.cell? ⟨b, o + j * 3, none⟩ = some (strA t') := fun u => ((hcu u).cell (p := ⟨b, o + j * 3, none⟩) hbw).trans HPr.out.1
          have y1 : ∀ u : BwA u1, u.wo.cell? ⟨b, o + j * 3 + 1, none⟩ = some (strA h') := fun u => ((hcu u).cell (p := ⟨b, o + j * 3 + 1, none⟩) hbw).trans HPr.out.2.1
          have y2 : ∀ u : BwA u1, u.wo.cell? ⟨b, o + j * 3 + 2, none⟩ = some (.int .i64 r') := fun u => ((hcu u).cell (p := ⟨b, o + j * 3 + 2, none⟩) hbw).trans HPr.out.2.2
          have HXj : Hid (∀ u : BwA u1, Calls Try.prog 25 #[.agg #[strA t', strA h', .int .i64 r'], .agg #[strA t, strA h, .int .i64 r]] u.wo fun e w' => e = .returned (.bool (decide (O < 0))) ∧ ∃ u' : BwA u1, w' = u'.wo) := fun u => (HX.out u.wo).mono fun e w' q => ⟨q.1, BwA.of (u.is.trans (q.2.mono u.is.size)), rfl⟩
          clear HX HPr
          clear hb1 HM d0 d1 d2 hcu HCur HB
          cases KY
          · have HRR : Hid (rightA l = false) := HNf.out (by rw [HFk.out]; simp; try omega)
            clear HNf HO1 HFk HO2
            go_wp2
            refine region_classA (fun w' => ∃ u : BwA u1, w' = u.wo) (by kernel_rfl) (by kernel_rfl) (BwA.first u1) ?_
            haveI := BwA.some u1
            repeat (go_big_quiet_step (first | (go_at_call 25; exact HXj.out _) | exact rfl))
            refine wpQuiet_nil ?_
            intro w5 hw5
            obtain ⟨u, hu⟩ := hw5
            subst hu
            have HB2 := (show Hid (Below w.heap.size w u.wo) from HB1.out.trans (u.is.mono HB1.out.size))
            clear f0 f1 f2 HB1 y0 y1 y2 HXj
            generalize u.wo = w6 at *
            go_wp2
            go_ret
            exact ⟨ret_bool HRR.out.symm, HB2.out⟩
          · by_cases hr1 : r < 1
            · have HRR : Hid (rightA l = false) := HNf.out (by rw [HFk.out]; simp; try omega)
              clear HNf HO1 HFk HO2
              go_wp2
              refine region_classA (fun w' => ∃ u : BwA u1, w' = u.wo) (by kernel_rfl) (by kernel_rfl) (BwA.first u1) ?_
              haveI := BwA.some u1
              repeat (go_big_quiet_step (first | (go_at_call 25; exact HXj.out _) | exact rfl))
              refine wpQuiet_nil ?_
              intro w5 hw5
              obtain ⟨u, hu⟩ := hw5
              subst hu
              have HB2 := (show Hid (Below w.heap.size w u.wo) from HB1.out.trans (u.is.mono HB1.out.size))
              clear f0 f1 f2 HB1 y0 y1 y2 HXj
              generalize u.wo = w6 at *
              go_wp2
              go_ret
              exact ⟨ret_bool HRR.out.symm, HB2.out⟩
            · have hr1b : 1 ≤ r := by omega
              clear hr1
              by_cases hr3 : 3 < r
              · have HRR : Hid (rightA l = false) := HNf.out (by rw [HFk.out]; simp; try omega)
                clear HNf HO1 HFk HO2
                go_wp2
                have hn1 : ¬ r < 1 := by omega
                have hq1 : decide (r < 1) = false := decide_eq_false hn1
                refine region_classA (fun w' => ∃ u : BwA u1, w' = u.wo) (by kernel_rfl) (by kernel_rfl) (BwA.first u1) ?_
                haveI := BwA.some u1
                repeat (go_big_quiet_step (first | (go_at_call 25; exact HXj.out _) | exact rfl))
                refine wpQuiet_nil ?_
                intro w5 hw5
                obtain ⟨u, hu⟩ := hw5
                subst hu
                have HB2 := (show Hid (Below w.heap.size w u.wo) from HB1.out.trans (u.is.mono HB1.out.size))
                clear f0 f1 f2 HB1 y0 y1 y2 HXj
                generalize u.wo = w6 at *
                go_wp2
                go_ret
                exact ⟨ret_bool HRR.out.symm, HB2.out⟩
              · have hr3b : r ≤ 3 := by omega
                have hFI : FI = true := by rw [HFk.out]; simp; omega
                clear hr3
                by_cases hO : O < 0
                · have HNx2 : Hid (RtP l (j + 1 + 1)) := HO1.out hO hFI
                  rw [decide_eq_true hO] at HXj
                  clear hFI hO
                  clear HNf HO1 HFk HO2
                  go_wp2
                  have hn1 : ¬ r < 1 := by omega
                  have hq1 : decide (r < 1) = false := decide_eq_false hn1
                  have hn3 : ¬ 3 < r := by omega
                  have hq3 : decide (3 < r) = false := decide_eq_false hn3
                  refine region_classA (fun w' => ∃ u : BwA u1, w' = u.wo) (by kernel_rfl) (by kernel_rfl) (BwA.first u1) ?_
                  haveI := BwA.some u1
                  repeat (go_big_quiet_step (first | (go_at_call 25; exact HXj.out _) | exact rfl))
                  refine wpQuiet_nil ?_
                  intro w5 hw5
                  obtain ⟨u, hu⟩ := hw5
                  subst hu
                  have HB2 := (show Hid (Below w.heap.size w u.wo) from HB1.out.trans (u.is.mono HB1.out.size))
                  clear f0 f1 f2 HB1 y0 y1 y2 HXj
                  generalize u.wo = w6 at *
                  go_wp2
                  exact ⟨⟨j + 1 + 1, by go_num, by omega, HNx2, HB2⟩, by (simp [intOf]) <;> omega⟩
                · have HRR : Hid (rightA l = false) := HO2.out (by omega)
                  rw [decide_eq_false hO] at HXj
                  clear hFI hO
                  clear HNf HO1 HFk HO2
                  go_wp2
                  have hn1 : ¬ r < 1 := by omega
                  have hq1 : decide (r < 1) = false := decide_eq_false hn1
                  have hn3 : ¬ 3 < r := by omega
                  have hq3 : decide (3 < r) = false := decide_eq_false hn3
                  refine region_classA (fun w' => ∃ u : BwA u1, w' = u.wo) (by kernel_rfl) (by kernel_rfl) (BwA.first u1) ?_
                  haveI := BwA.some u1
                  repeat (go_big_quiet_step (first | (go_at_call 25; exact HXj.out _) | exact rfl))
                  refine wpQuiet_nil ?_
                  intro w5 hw5
                  obtain ⟨u, hu⟩ := hw5
                  subst hu
                  have HB2 := (show Hid (Below w.heap.size w u.wo) from HB1.out.trans (u.is.mono HB1.out.size))
                  clear f0 f1 f2 HB1 y0 y1 y2 HXj
                  generalize u.wo = w6 at *
                  go_wp2
                  go_ret
                  exact ⟨ret_bool HRR.out.symm, HB2.out⟩
      · have hlt1 : ¬ (k : Int) < (l.length : Int) := by omega
        obtain rfl : k = l.length := by omega
        have HR : Hid (rightA l = true) := right_all (by omega) HP.out
        clear HP
        go_wp2
        go_ret
        exact ⟨ret_bool HR.out.symm, HB.out⟩
end Go.Proofs.Ytocfdpjclmieiaa
