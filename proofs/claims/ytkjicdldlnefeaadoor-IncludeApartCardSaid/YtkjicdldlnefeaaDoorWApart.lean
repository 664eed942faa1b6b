/- IncludeApart: what may not be read does not matter; walked. -/
import Derived.Test.YtkjicdldlnefeaaDoorNLaw
import Derived.Test.YtkjicdldlnefeaaDoorPlainApart
set_option linter.unusedVariables false
namespace Go.Proofs.YtkjicdldlnefeaaDoor
open Go.RowKit

theorem infoPg : (Tryd.prog.info? 38).map (fun i => (i.zero, i.size, i.bytes)) = some (some (.agg #[.string ⟨#[]⟩, .string ⟨#[]⟩, .int .i64 0, .string ⟨#[]⟩]), 4, 56) := by kernel_rfl
/-- Two rows of pages that a call owns, apart. -/
structure TwoP (B : Nat) (W : World) (v1 v2 : Value) (l1 l2 : List PgA) : Prop where
  one : W.ownsRow B 38 4 v1 l1.length (pgCs l1)
  two : W.ownsRow B 38 4 v2 l2.length (pgCs l2)
  ap : ∀ g, v1.ownBlock = some g → v2.ownBlock ≠ some g
theorem TwoP.below {B : Nat} {W W' : World} {v1 v2 : Value} {l1 l2 : List PgA} (h : TwoP B W v1 v2 l1 l2) (hb : Below W.heap.size W W') : TwoP B W' v1 v2 l1 l2 := ⟨nrow_below h.one hb, nrow_below h.two hb, h.ap⟩
theorem TwoP.swap {B : Nat} {W : World} {v1 v2 : Value} {l1 l2 : List PgA} (h : TwoP B W v1 v2 l1 l2) : TwoP B W v2 v1 l2 l1 := ⟨h.two, h.one, fun g h1 h2 => h.ap g h2 h1⟩
theorem TwoP.push {B : Nat} {W W' : World} {v1 v2 v1' : Value} {l1 l2 : List PgA} {p : PgA} {ts : List Value} (h : TwoP B W v1 v2 l1 l2) (hts : ts = pgCs [p]) (ho : W'.ownsRow B 38 4 v1' (l1.length + 1) (pgCs l1 ++ ts)) (hg : W.grownBy W' v1.ownBlock) (hat : v1'.ownBlock = v1.ownBlock ∨ v1'.ownBlock = some W.heap.size) : TwoP B W' v1' v2 (l1 ++ [p]) l2 := by
  refine ⟨?_, nrow_kept h.two fun g cs hgv _ hb => (hg.block g (Array.getElem?_eq_some_iff.1 hb).1 (fun e => h.ap g e.symm hgv)).trans hb, fun g h1 h2 => ?_⟩
  · rw [List.length_append, pgCs_app, ← hts]
    exact ho
  · rcases hat with q | q
    · exact h.ap g (q ▸ h1) h2
    · rw [q] at h1
      have := (World.ownsRow.lt h.two g h2).2
      cases h1
      omega

set_option maxHeartbeats 16000000 in
set_option maxRecDepth 20000 in
theorem wapart (pages : List PgA) (hl : pages.length ≤ 9223372036854775000) (htx : ∀ p ∈ pages, p.text.length ≤ 140737488355328) (may : List StrA) (hm : may.length ≤ 9223372036854775000) (r : RfA) (T : StrA) (a : Option Addr) (cap : Nat) (a2 : Option Addr) (cap2 : Nat) (w : World) (hp : PgsN w (.slice a pages.length cap) pages) (hms : StrsN w (.slice a2 may.length cap2) may) :
    Calls Tryd.prog 5 #[.slice a pages.length cap, .slice a2 may.length cap2, aggR r, strA T] w fun e w' => e = .returned (.bool true) ∧ Below w.heap.size w w' := by
  have HS : Hid (∀ u, Calls Tryd.prog 9 #[] u fun e w' => e = .returned (.bool true) ∧ Below u.heap.size u w') := fun u => nshown_any u
  have HL : Hid (∀ u, Below w.heap.size w u → Calls Tryd.prog 14 #[.slice a pages.length cap] u fun e w' => LargeP pages u e w') := fun u hu => nlarge_any pages hl htx _ u (hp.below hu)
  have HX0 : Hid (∀ (P : List PgA), P.length ≤ 200 → (∀ p ∈ P, p.text.length ≤ 40000) → expandA P may r = expandA pages may r → ∀ (u : World) (v : Value), Below w.heap.size w u → PgsN u v P → Calls Tryd.prog 16 #[v, .slice a2 may.length cap2, aggR r] u fun e w' => (∃ v', e = .returned (.tuple #[strA (expandA pages may r).1, v', .int .i64 (expandA pages may r).2.2]) ∧ w'.ownsRow u.heap.size 24 3 v' (expandA pages may r).2.1.length (rfCs (expandA pages may r).2.1)) ∧ Below u.heap.size u w') := fun P q1 q2 q3 u v hu hv => by
    have := nexpand_any P (by omega) (fun p hp => Nat.le_trans (q2 p hp) (by decide)) may hm r v (.slice a2 may.length cap2) u hv (hms.below hu)
    rw [q3] at this
    exact this
  have HRf : Hid (∀ (L : List RfA) (v1 v2 : Value) (u : World), L.length ≤ 300 → RfsN u v1 L → RfsN u v2 L → Calls Tryd.prog 17 #[v1, v2] u fun e w' => e = .returned (.bool true) ∧ Below u.heap.size u w') := fun L v1 v2 u q p1 p2 => nrefs_any L (by omega) v1 v2 u p1 p2
  have HXl := (show Hid ((expandA pages may r).2.1.length ≤ 300) from expand_met pages may r)
  have HXo := (show Hid (expandA (outA may pages) may r = expandA pages may r) from expand_out may pages r)
  have HXt := (show Hid (expandA (otherA may T pages) may r = expandA pages may r) from expand_other may T pages r)
  have HP := (show Hid (PgsN w (.slice a pages.length cap) pages) from hp)
  have HMs := (show Hid (StrsN w (.slice a2 may.length cap2) may) from hms)
  obtain ⟨t, d, v⟩ := r
  have HX : Hid (∀ (P : List PgA), P.length ≤ 200 → (∀ p ∈ P, p.text.length ≤ 40000) → expandA P may ⟨t, d, v⟩ = expandA pages may ⟨t, d, v⟩ → ∀ (u : World) (va : Value), Below w.heap.size w u → PgsN u va P → Calls Tryd.prog 16 #[va, .slice a2 may.length cap2, .agg #[strA t, strA d, .int .i64 v]] u fun e w' => (∃ v', e = .returned (.tuple #[strA (expandA pages may ⟨t, d, v⟩).1, v', .int .i64 (expandA pages may ⟨t, d, v⟩).2.2]) ∧ w'.ownsRow u.heap.size 24 3 v' (expandA pages may ⟨t, d, v⟩).2.1.length (rfCs (expandA pages may ⟨t, d, v⟩).2.1)) ∧ Below u.heap.size u w') := HX0
  obtain ⟨i0, hi, hz0, hz1, hz2⟩ := info_parts infoPg
  clear HX0 hp hms htx hl hm
  have HA1 : Hid (Below w.heap.size w (w.alloc (.cells #[strA t, strA d, .int .i64 v] 24))) := (Below.refl _ _).alloc (Nat.le_refl _) _
  have HKB : Hid ((w.alloc (.cells #[strA t, strA d, .int .i64 v] 24)).heap[w.heap.size]? = some (.cells #[strA t, strA d, .int .i64 v] 24 (0, 0))) := blk_newN _ _ _
  show Calls Tryd.prog 5 #[.slice a pages.length cap, .slice a2 may.length cap2, .agg #[strA t, strA d, .int .i64 v], strA T] w _
  go_enter Tryd.func5, Tryd.ntmps5
  go_wp2_with (go_at_call 9; refine Calls.mono (HS.out _) ?_)
  rintro e wa ⟨rfl, hb1⟩
  have HB2 := (show Hid (Below w.heap.size w wa) from HA1.out.trans (hb1.mono HA1.out.size))
  have HK2 := (show Hid (wa.heap[w.heap.size]? = some (.cells #[strA t, strA d, .int .i64 v] 24 (0, 0))) from blk_belowN HKB.out hb1)
  have HL2 := (show Hid (Calls Tryd.prog 14 #[.slice a pages.length cap] wa fun e w' => LargeP pages wa e w') from HL.out wa HB2.out)
  clear hb1 HKB HA1 HS HL
  go_wp2_with (go_at_call 14; refine Calls.mono HL2.out ?_)
  rintro e wb ⟨⟨B, rfl, hB⟩, hu3⟩
  subst hu3
  have HBg := (show Hid (B = false → pages.length ≤ 200 ∧ ∀ p ∈ pages, p.text.length ≤ 40000) from hB)
  clear hB HL2
  cases B
  case true =>
    clear HX HRf HXl HXo HXt HP HMs HK2 HBg
    go_wp2
    go_ret
    exact ⟨rfl, HB2.out⟩
  by_cases h100 : 100 < may.length
  · have h100i : (100 : Int) < (may.length : Int) := by omega
    clear HX HRf HXl HXo HXt HP HMs HK2 HBg
    go_wp2
    go_ret
    exact ⟨rfl, HB2.out⟩
  have h100i : ¬ (100 : Int) < (may.length : Int) := by omega
  by_cases h1000 : 1000 < T.length
  · have h1000i : (1000 : Int) < (T.length : Int) := by omega
    clear HX HRf HXl HXo HXt HP HMs HK2 HBg
    go_wp2
    go_ret
    exact ⟨rfl, HB2.out⟩
  have h1000i : ¬ (1000 : Int) < (T.length : Int) := by omega
  obtain ⟨hpl, hpt⟩ := HBg.out rfl
  have HPt := (show Hid (∀ p ∈ pages, p.text.length ≤ 40000) from hpt)
  have hpli : (pages.length : Int) ≤ 200 := by omega
  have hmli : (may.length : Int) ≤ 100 := by omega
  clear HBg hpt h100
  go_wp2
  go_loopw [11, 12, 13] (fun x y i wr => ∃ k : Nat, i = .int .i64 (k : Int) ∧ k ≤ pages.length ∧ Hid (TwoP wb.heap.size wr x y (outA may (pages.take k)) (otherA may T (pages.take k))) ∧ Hid (Below wb.heap.size wb wr)) (fun _ _ i _ => pages.length - (intOf i).toNat)
  case atStart => exact ⟨0, rfl, Nat.zero_le _, ⟨by rw [List.take_zero]; exact World.ownsRow_nil _ _ _ _, by rw [List.take_zero]; exact World.ownsRow_nil _ _ _ _, fun g hg => by cases hg⟩, Below.refl _ _⟩
  case round =>
    obtain ⟨k, rfl, hk, HTw, HB⟩ := hrel
    obtain ⟨wo, hwo⟩ : ∃ wo : World, wo = wr := ⟨wr, rfl⟩
    subst hwo
    obtain ⟨ao, co, hvo⟩ := nrow_len HTw.out.one
    obtain ⟨at0, ct, hvt⟩ := nrow_len HTw.out.two
    subst hvo
    subst hvt
    have HBw := (show Hid (Below w.heap.size w wo) from HB2.out.trans (HB.out.mono HB2.out.size))
    by_cases hlt : k < pages.length
    · have hlt1 : (k : Int) < (pages.length : Int) := by omega
      obtain ⟨p, hpk⟩ : ∃ p, pages[k]? = some p := ⟨_, List.getElem?_eq_getElem hlt⟩
      obtain ⟨aa, cc, e1, hcP⟩ := HP.out
      cases e1
      obtain ⟨b, o, ha, hbw, p0, p1, p2, p3⟩ := hcP k p hpk
      subst ha
      have HCp := (show Hid (∀ u, Below w.heap.size w u → u.cell? ⟨b, o + k * 4, none⟩ = some (strA p.ref.tenant) ∧ u.cell? ⟨b, o + k * 4 + 1, none⟩ = some (strA p.ref.doc) ∧ u.cell? ⟨b, o + k * 4 + 2, none⟩ = some (.int .i64 p.ref.ver) ∧ u.cell? ⟨b, o + k * 4 + 3, none⟩ = some (strA p.text)) from fun u hu => ⟨(hu.cell (p := ⟨b, o + k * 4, none⟩) hbw).trans p0, (hu.cell (p := ⟨b, o + k * 4 + 1, none⟩) hbw).trans p1, (hu.cell (p := ⟨b, o + k * 4 + 2, none⟩) hbw).trans p2, (hu.cell (p := ⟨b, o + k * 4 + 3, none⟩) hbw).trans p3⟩)
      have HO1 := (show Hid (outA may (pages.take (k + 1)) = outA may (pages.take k) ++ (if hasS may p.ref.tenant = true then [p] else [])) from out_next hpk)
      have HO2 := (show Hid (otherA may T (pages.take (k + 1)) = otherA may T (pages.take k) ++ [if hasS may p.ref.tenant = true then p else ⟨p.ref, T⟩]) from other_next hpk)
      have HN1 : Hid ((outA may (pages.take k)).length ≤ 200) := by show _ ≤ _; have := out_len may (pages.take k); rw [List.length_take] at this; omega
      have HN2 : Hid ((otherA may T (pages.take k)).length ≤ 200) := by show _ ≤ _; rw [other_len, List.length_take]; omega
      clear hcP p0 p1 p2 p3 hpk HX HXo HXt HRf HXl HK2
      obtain ⟨⟨pt, pd, pv⟩, px⟩ := p
      simp only at HCp HO1 HO2
      go_wp2
      go_loopw [14, 15] (fun q j wx => ∃ m : Nat, j = .int .i64 (m : Int) ∧ m ≤ may.length ∧ q = .bool (hasS (may.take m) pt) ∧ Hid (Below wo.heap.size wo wx)) (fun _ j _ => may.length - (intOf j).toNat)
      case atStart => exact ⟨0, rfl, Nat.zero_le _, (by rw [List.take_zero]; rfl), Below.refl _ _⟩
      case round =>
        obtain ⟨m, rfl, hmm, rfl, HBx⟩ := hrel
        by_cases hmlt : m < may.length
        · have hmlt1 : (m : Int) < (may.length : Int) := by omega
          obtain ⟨s, hs⟩ : ∃ s, may[m]? = some s := ⟨_, List.getElem?_eq_getElem hmlt⟩
          obtain ⟨aa, cc, e2, hcM⟩ := HMs.out
          cases e2
          obtain ⟨b', o', ha', hb', q0⟩ := hcM m s hs
          subst ha'
          have HSn := (show Hid (hasS (may.take (m + 1)) pt = (hasS (may.take m) pt || (s == pt))) from hasS_snoc hs)
          have hbx : ∀ u : BwN wr, Below w.heap.size w u.wo := fun u => (HBw.out.trans (HBx.out.mono HBw.out.size)).trans (u.is.mono (Nat.le_trans HBw.out.size HBx.out.size))
          have y0 : ∀ u : BwN wr, u.wo.cell? ⟨b', o' + m, none⟩ = some (strA s) := fun u => ((hbx u).cell (p := ⟨b', o' + m, none⟩) hb').trans q0
          have y1 : ∀ u : BwN wr, u.wo.cell? ⟨b, o + k * 4, none⟩ = some (strA pt) := fun u => (HCp.out u.wo (hbx u)).1
          clear hcM q0 hs hbx
          generalize hasS (may.take m) pt = HQ at *
          obtain ⟨SQ, hSQ⟩ : ∃ SQ, (s == pt) = SQ := ⟨_, rfl⟩
          rw [hSQ] at HSn
          cases HQ
          all_goals
            go_wp2
            refine region_classN (fun w' => ∃ u : BwN wr, w' = u.wo) (by kernel_rfl) (by kernel_rfl) (BwN.first wr) ?_
            haveI := BwN.some wr
            repeat (go_big_quiet_step (exact rfl))
            refine wpQuiet_nil ?_
            intro w5 hw5
            obtain ⟨uu, huu⟩ := hw5
            subst huu
            have HBx2 := (show Hid (Below wo.heap.size wo uu.wo) from HBx.out.trans (uu.is.mono HBx.out.size))
            clear y0 y1
            generalize uu.wo = w6 at *
            go_wp2
            exact ⟨⟨m + 1, by go_num, by omega, (by rw [HSn.out]; rfl), HBx2⟩, by (simp [intOf]) <;> omega⟩
        · have hmlt1 : ¬ (m : Int) < (may.length : Int) := by omega
          obtain rfl : m = may.length := by omega
          have hml : may.take may.length = may := List.take_of_length_le (Nat.le_refl _)
          rw [hml]
          have HBm := (show Hid (Below wb.heap.size wb wr) from HB.out.trans (HBx.out.mono HB.out.size))
          have HTm := (show Hid (TwoP wb.heap.size wr (.slice ao (outA may (pages.take k)).length co) (.slice at0 (otherA may T (pages.take k)).length ct) (outA may (pages.take k)) (otherA may T (pages.take k))) from HTw.out.below HBx.out)
          have hbwm : Below w.heap.size w wr := HBw.out.trans (HBx.out.mono HBw.out.size)
          obtain ⟨z0, z1, z2, z3⟩ := HCp.out wr hbwm
          obtain ⟨P1, hP1⟩ : ∃ P1, P1 = outA may (pages.take k) := ⟨_, rfl⟩
          obtain ⟨P2, hP2⟩ : ∃ P2, P2 = otherA may T (pages.take k) := ⟨_, rfl⟩
          rw [← hP1] at HN1 HTm HO1 ⊢
          rw [← hP2] at HN2 HTm HO2 ⊢
          have hn1 : P1.length ≤ 200 := HN1.out
          have hn2 : P2.length ≤ 200 := HN2.out
          clear hP1 hP2 hml hbwm HCp HBx HTw HB HBw HN1 HN2
          cases hq : hasS may pt
          · rw [hq] at HO1 HO2
            obtain ⟨WA, hWA⟩ : ∃ WA, WA = wr.alloc (.cells #[strA pt, strA pd, .int .i64 pv, strA T] 38) := ⟨_, rfl⟩
            have HSZ : Hid (wr.heap.size + 1 = WA.heap.size) := by show _ = _; rw [hWA]; simp
            have hbA : Below wr.heap.size wr WA := by rw [hWA]; exact (Below.refl _ _).alloc (Nat.le_refl _) _
            have HTA := (show Hid _ from HTm.out.below hbA)
            have HBA := (show Hid (Below wb.heap.size wb WA) from HBm.out.trans (hbA.mono HBm.out.size))
            have HO1' : Hid (outA may (pages.take (k + 1)) = P1) := by show _ = _; rw [HO1.out]; simp
            have HO2' : Hid (otherA may T (pages.take (k + 1)) = P2 ++ [⟨⟨pt, pd, pv⟩, T⟩]) := by show _ = _; rw [HO2.out]; simp
            clear hbA HTm HBm HO1 HO2 hq
            go_wp2_with (at_builtin; rw [← hWA, HSZ.out]; refine wpList_append_own_at _ rfl _ _ 28 rfl wb.heap.size 38 i0 (.agg #[.string ⟨#[]⟩, .string ⟨#[]⟩, .int .i64 0, .string ⟨#[]⟩]) 4 56 Tryd.underlying28 hi hz0 hz1 hz2 rfl (by decide) _ _ _ rfl (World.ownsRow.alloc HTA.out.two _) ⟨WA.heap.size, 0, none⟩ 1 1 [strA pt, strA pd, .int .i64 pv, strA T] rfl rfl (lit_cells _ _ _) ?d3 ?d4 ?d5 ?d6 ?_)
            case d3 => first | (intro u hu; simp at hu; rcases hu with rfl | rfl | rfl | rfl <;> rfl) | exact ⟨rfl, rfl, rfl, rfl⟩
            case d4 => unfold maxLen; omega
            case d5 => omega
            case d6 => have := HBA.out.size; have := HSZ.out; simp; omega
            intro v3 w3 hown3 hgrow3 _ hat3
            (try rw [← hWA] at hgrow3)
            have hT3 := ((HTA.out.below ((Below.refl _ _).alloc (Nat.le_refl _) _)).swap.push (p := ⟨⟨pt, pd, pv⟩, T⟩) rfl hown3 hgrow3 (by have := HSZ.out; rcases hat3 with q | q; (· exact .inl q); (· exact .inr (by rw [q]; simp; try omega)))).swap
            have HT3 := (show Hid _ from hT3)
            have HB3 := (show Hid (Below wb.heap.size wb w3) from (HBA.out.alloc HBA.out.size _).grown hgrow3 (by have := HBA.out.size; simp; omega) (fun k hk => (World.ownsRow.lt HTA.out.two k hk).1))
            obtain ⟨a3, c3, hv3⟩ := nrow_len hT3.two
            subst hv3
            clear hT3 hown3 hgrow3 hat3 HTA HBA hWA HSZ z0 z1 z2 z3
            go_wp2
            exact ⟨⟨k + 1, by go_num, by omega, (by rw [HO1'.out, HO2'.out]; exact HT3), HB3⟩, by (simp [intOf]) <;> omega⟩
          · rw [hq] at HO1 HO2
            obtain ⟨WA, hWA⟩ : ∃ WA, WA = wr.alloc (.cells #[strA pt, strA pd, .int .i64 pv, strA px] 38) := ⟨_, rfl⟩
            have HSZ : Hid (wr.heap.size + 1 = WA.heap.size) := by show _ = _; rw [hWA]; simp
            have hbA : Below wr.heap.size wr WA := by rw [hWA]; exact (Below.refl _ _).alloc (Nat.le_refl _) _
            have HKA : Hid (WA.heap[wr.heap.size]? = some (.cells #[strA pt, strA pd, .int .i64 pv, strA px] 38 (0, 0))) := by show _ = _; rw [hWA]; exact blk_newN _ _ _
            have HTA := (show Hid _ from HTm.out.below hbA)
            have HBA := (show Hid (Below wb.heap.size wb WA) from HBm.out.trans (hbA.mono HBm.out.size))
            have HLt := (show Hid (∀ g, (Value.slice ao P1.length co).ownBlock = some g → g < wr.heap.size) from fun g hg => (World.ownsRow.lt HTm.out.one g hg).2)
            have HO1' : Hid (outA may (pages.take (k + 1)) = P1 ++ [⟨⟨pt, pd, pv⟩, px⟩]) := by show _ = _; rw [HO1.out]; simp
            have HO2' : Hid (otherA may T (pages.take (k + 1)) = P2 ++ [⟨⟨pt, pd, pv⟩, px⟩]) := by show _ = _; rw [HO2.out]; simp
            clear hbA HTm HBm HO1 HO2 hq
            go_wp2_with (at_builtin; rw [← hWA, HSZ.out]; refine wpList_append_own_at _ rfl _ _ 28 rfl wb.heap.size 38 i0 (.agg #[.string ⟨#[]⟩, .string ⟨#[]⟩, .int .i64 0, .string ⟨#[]⟩]) 4 56 Tryd.underlying28 hi hz0 hz1 hz2 rfl (by decide) _ _ _ rfl (World.ownsRow.alloc HTA.out.one _) ⟨WA.heap.size, 0, none⟩ 1 1 [strA pt, strA pd, .int .i64 pv, strA px] rfl rfl (lit_cells _ _ _) ?d3 ?d4 ?d5 ?d6 ?_)
            case d3 => first | (intro u hu; simp at hu; rcases hu with rfl | rfl | rfl | rfl <;> rfl) | exact ⟨rfl, rfl, rfl, rfl⟩
            case d4 => unfold maxLen; omega
            case d5 => omega
            case d6 => have := HBA.out.size; have := HSZ.out; simp; omega
            intro v3 w3 hown3 hgrow3 _ hat3
            (try rw [← hWA] at hgrow3)
            have hT3 := (HTA.out.below ((Below.refl _ _).alloc (Nat.le_refl _) _)).push (p := ⟨⟨pt, pd, pv⟩, px⟩) rfl hown3 hgrow3 (by have := HSZ.out; rcases hat3 with q | q; (· exact .inl q); (· exact .inr (by rw [q]; simp; try omega)))
            have HT3 := (show Hid _ from hT3)
            have HB3 := (show Hid (Below wb.heap.size wb w3) from (HBA.out.alloc HBA.out.size _).grown hgrow3 (by have := HBA.out.size; simp; omega) (fun k hk => (World.ownsRow.lt HTA.out.one k hk).1))
            have hk3 : w3.heap[wr.heap.size]? = some (.cells #[strA pt, strA pd, .int .i64 pv, strA px] 38 (0, 0)) := by
              have h4 := blk_allocN HKA.out (.cells #[strA pt, strA pd, .int .i64 pv, strA px] 38)
              exact (hgrow3.block wr.heap.size (Array.getElem?_eq_some_iff.1 h4).1 (fun e => by have := HLt.out _ e.symm; omega)).trans h4
            have s0 := cell_blkN hk3 (i := 0) (v := strA pt) rfl
            have s1 := cell_blkN hk3 (i := 1) (v := strA pd) rfl
            have s2 := cell_blkN hk3 (i := 2) (v := .int .i64 pv) rfl
            have s3 := cell_blkN hk3 (i := 3) (v := strA px) rfl
            obtain ⟨a3, c3, hv3⟩ := nrow_len hT3.one
            subst hv3
            clear hT3 hown3 hgrow3 hat3 HTA HBA hWA HSZ z0 z1 z2 z3 HKA HLt hk3
            obtain ⟨Q1, hQ1⟩ : ∃ Q1, Q1 = P1 ++ [(⟨⟨pt, pd, pv⟩, px⟩ : PgA)] := ⟨_, rfl⟩
            rw [← hQ1] at HT3 HO1' ⊢
            clear hQ1
            go_wp2_with (at_builtin; refine wpList_append_own_at _ rfl _ _ 28 rfl wb.heap.size 38 i0 (.agg #[.string ⟨#[]⟩, .string ⟨#[]⟩, .int .i64 0, .string ⟨#[]⟩]) 4 56 Tryd.underlying28 hi hz0 hz1 hz2 rfl (by decide) _ _ _ rfl (World.ownsRow.alloc HT3.out.two _) ⟨w3.heap.size, 0, none⟩ 1 1 [strA pt, strA pd, .int .i64 pv, strA px] rfl rfl (lit_cells _ _ _) ?d3 ?d4 ?d5 ?d6 ?_)
            case d3 => first | (intro u hu; simp at hu; rcases hu with rfl | rfl | rfl | rfl <;> rfl) | exact ⟨rfl, rfl, rfl, rfl⟩
            case d4 => unfold maxLen; omega
            case d5 => omega
            case d6 => have := HB3.out.size; simp; omega
            intro v5 w5 hown5 hgrow5 _ hat5
            have hT5 := ((HT3.out.below ((Below.refl _ _).alloc (Nat.le_refl _) _)).swap.push (p := ⟨⟨pt, pd, pv⟩, px⟩) rfl hown5 hgrow5 (by rcases hat5 with q | q; (· exact .inl q); (· exact .inr (by rw [q]; simp)))).swap
            have HT5 := (show Hid _ from hT5)
            have HB5 := (show Hid (Below wb.heap.size wb w5) from (HB3.out.alloc HB3.out.size _).grown hgrow5 (by have := HB3.out.size; simp; omega) (fun k hk => (World.ownsRow.lt HT3.out.two k hk).1))
            obtain ⟨a5, c5, hv5⟩ := nrow_len hT5.two
            subst hv5
            clear hT5 hown5 hgrow5 hat5 HT3 HB3 s0 s1 s2 s3
            go_wp2
            exact ⟨⟨k + 1, by go_num, by omega, (by rw [HO1'.out, HO2'.out]; exact HT5), HB5⟩, by (simp [intOf]) <;> omega⟩
    · have hlt1 : ¬ (k : Int) < (pages.length : Int) := by omega
      obtain rfl : k = pages.length := by omega
      have hkl : pages.take pages.length = pages := List.take_of_length_le (Nat.le_refl _)
      rw [hkl] at HTw ⊢
      have hoL : (outA may pages).length ≤ 200 := Nat.le_trans (out_len may pages) (by omega)
      have hoT : ∀ p ∈ outA may pages, p.text.length ≤ 40000 := fun p hp => HPt.out p (List.mem_filter.1 hp).1
      have htL : (otherA may T pages).length ≤ 200 := by rw [other_len]; omega
      have htT : ∀ p ∈ otherA may T pages, p.text.length ≤ 40000 := fun p hp => by
        obtain ⟨q, hq, rfl⟩ := List.mem_map.1 hp
        split
        · exact HPt.out q hq
        · show T.length ≤ 40000
          omega
      have XA := (show Hid _ from HX.out pages (by omega) HPt.out rfl)
      have XB := (show Hid _ from HX.out (outA may pages) hoL hoT HXo.out)
      have XC := (show Hid _ from HX.out (otherA may T pages) htL htT HXt.out)
      have kk := blk_belowN HK2.out HB.out
      have y0 := cell_blkN kk (i := 0) (v := strA t) rfl
      have y1 := cell_blkN kk (i := 1) (v := strA d) rfl
      have y2 := cell_blkN kk (i := 2) (v := .int .i64 v) rfl
      have HK := (show Hid _ from kk)
      generalize expandA pages may ⟨t, d, v⟩ = RX at *
      obtain ⟨S, L, E⟩ := RX
      simp only at XA XB XC HXl
      generalize outA may pages = P1 at *
      generalize otherA may T pages = P2 at *
      clear HX HXo HXt kk hoT htT hkl hoL htL HPt
      go_wp2_with (go_at_call 16; refine Calls.mono (XA.out wo _ HBw.out (HP.out.below HBw.out)) ?_)
      first | (intro e w1 v1 he h1 hb1; subst he) | (rintro e w1 ⟨v1, rfl, h1⟩ hb1) | (rintro e w1 ⟨⟨v1, rfl, h1⟩, hb1⟩)
      obtain ⟨a1, c1, hv1⟩ := nrow_len h1
      subst hv1
      have HBw1 := (show Hid (Below w.heap.size w w1) from HBw.out.trans (hb1.mono HBw.out.size))
      have HT1 := (show Hid _ from HTw.out.below hb1)
      have HK1 := (show Hid _ from blk_belowN HK.out hb1)
      have HR1 := (show Hid (RfsN w1 (.slice a1 L.length c1) L) from rfs_row h1)
      clear y0 y1 y2 h1 hb1 HTw HK XA HP HBw HB
      have y0 := cell_blkN HK1.out (i := 0) (v := strA t) rfl
      have y1 := cell_blkN HK1.out (i := 1) (v := strA d) rfl
      have y2 := cell_blkN HK1.out (i := 2) (v := .int .i64 v) rfl
      go_wp2_with (go_at_call 16; refine Calls.mono (XB.out w1 _ HBw1.out (pgs_row HT1.out.one)) ?_)
      first | (intro e w2 v2 he h2 hb2; subst he) | (rintro e w2 ⟨v2, rfl, h2⟩ hb2) | (rintro e w2 ⟨⟨v2, rfl, h2⟩, hb2⟩)
      obtain ⟨a2', c2, hv2⟩ := nrow_len h2
      subst hv2
      have HBw2 := (show Hid (Below w.heap.size w w2) from HBw1.out.trans (hb2.mono HBw1.out.size))
      have HT2 := (show Hid _ from HT1.out.below hb2)
      have HK2' := (show Hid _ from blk_belowN HK1.out hb2)
      have HR2 := (show Hid (RfsN w2 (.slice a2' L.length c2) L) from rfs_row h2)
      have HR12 := (show Hid (RfsN w2 (.slice a1 L.length c1) L) from HR1.out.below hb2)
      clear y0 y1 y2 h2 hb2 HT1 HK1 XB HBw1 HR1
      have y0 := cell_blkN HK2'.out (i := 0) (v := strA t) rfl
      have y1 := cell_blkN HK2'.out (i := 1) (v := strA d) rfl
      have y2 := cell_blkN HK2'.out (i := 2) (v := .int .i64 v) rfl
      go_wp2_with (go_at_call 16; refine Calls.mono (XC.out w2 _ HBw2.out (pgs_row HT2.out.two)) ?_)
      first | (intro e w3 v3 he h3 hb3; subst he) | (rintro e w3 ⟨v3, rfl, h3⟩ hb3) | (rintro e w3 ⟨⟨v3, rfl, h3⟩, hb3⟩)
      obtain ⟨a3, c3, hv3⟩ := nrow_len h3
      subst hv3
      have HBw3 := (show Hid (Below w.heap.size w w3) from HBw2.out.trans (hb3.mono HBw2.out.size))
      have HR3 := (show Hid (RfsN w3 (.slice a3 L.length c3) L) from rfs_row h3)
      have HR13 := (show Hid (RfsN w3 (.slice a1 L.length c1) L) from HR12.out.below hb3)
      have HR23 := (show Hid (RfsN w3 (.slice a2' L.length c2) L) from HR2.out.below hb3)
      clear y0 y1 y2 h3 hb3 HT2 HK2' XC HBw2 HR2 HR12
      go_wp2_with (go_at_call 17; refine Calls.mono (HRf.out L _ _ w3 HXl.out HR13.out HR23.out) ?_)
      first | (intro e w4 he hb4; subst he) | (rintro e w4 ⟨rfl, hb4⟩)
      have HBw4 := (show Hid (Below w.heap.size w w4) from HBw3.out.trans (hb4.mono HBw3.out.size))
      have HR34 := (show Hid (RfsN w4 (.slice a3 L.length c3) L) from HR3.out.below hb4)
      have HR14 := (show Hid (RfsN w4 (.slice a1 L.length c1) L) from HR13.out.below hb4)
      clear hb4 HR3 HR13 HR23 HBw3
      go_wp2_with (go_at_call 17; refine Calls.mono (HRf.out L _ _ w4 HXl.out HR14.out HR34.out) ?_)
      first | (intro e w5 he hb5; subst he) | (rintro e w5 ⟨rfl, hb5⟩)
      have HBw5 := (show Hid (Below w.heap.size w w5) from HBw4.out.trans (hb5.mono HBw4.out.size))
      have e1 : (S == S) = true := by simp
      have e2 : (E == E) = true := by simp
      clear hb5 HR34 HR14 HBw4 HRf
      go_wp2
      go_ret
      exact ⟨rfl, HBw5.out⟩
end Go.Proofs.YtkjicdldlnefeaaDoor
