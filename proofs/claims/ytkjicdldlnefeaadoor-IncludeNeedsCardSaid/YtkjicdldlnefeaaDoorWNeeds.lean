/- IncludeNeeds: what is told hangs on the pages that are told alone; walked. -/
import Derived.Test.YtkjicdldlnefeaaDoorNLaw
import Derived.Test.YtkjicdldlnefeaaDoorPlainNeeds
set_option linter.unusedVariables false
namespace Go.Proofs.YtkjicdldlnefeaaDoor
open Go.RowKit

theorem infoPg2 : (Tryd.prog.info? 38).map (fun i => (i.zero, i.size, i.bytes)) = some (some (.agg #[.string ⟨#[]⟩, .string ⟨#[]⟩, .int .i64 0, .string ⟨#[]⟩]), 4, 56) := by kernel_rfl
def needL (at0 : RfA) (L : List RfA) (P : List PgA) : List PgA := P.filter (fun p => needK at0 L p.ref)
theorem need_next {at0 : RfA} {L : List RfA} {pages : List PgA} {k : Nat} {p : PgA} (h : pages[k]? = some p) : needL at0 L (pages.take (k + 1)) = needL at0 L (pages.take k) ++ (if needK at0 L p.ref = true then [p] else []) := by
  unfold needL
  rw [List.take_add_one, h, List.filter_append]
  congr 1
  show List.filter _ [p] = _
  rw [List.filter_cons]
  rfl
theorem anyR_snoc {l : List RfA} {k : Nat} {s x : RfA} (hs : l[k]? = some s) : (l.take (k + 1)).any (fun z => eqR z x) = ((l.take k).any (fun z => eqR z x) || eqR s x) := by
  rw [List.take_add_one, hs, List.any_append]
  simp

set_option maxHeartbeats 32000000 in
set_option maxRecDepth 20000 in
theorem wneeds (pages : List PgA) (hl : pages.length ≤ 9223372036854775000) (htx : ∀ p ∈ pages, p.text.length ≤ 140737488355328) (may : List StrA) (hm : may.length ≤ 9223372036854775000) (r : RfA) (a : Option Addr) (cap : Nat) (a2 : Option Addr) (cap2 : Nat) (w : World) (hp : PgsN w (.slice a pages.length cap) pages) (hms : StrsN w (.slice a2 may.length cap2) may) :
    Calls Tryd.prog 6 #[.slice a pages.length cap, .slice a2 may.length cap2, aggR r] w fun e w' => e = .returned (.bool true) ∧ Below w.heap.size w w' := by
  have HS : Hid (∀ u, Calls Tryd.prog 9 #[] u fun e w' => e = .returned (.bool true) ∧ Below u.heap.size u w') := fun u => nshown_any u
  have HL : Hid (∀ u, Below w.heap.size w u → Calls Tryd.prog 14 #[.slice a pages.length cap] u fun e w' => LargeP pages u e w') := fun u hu => nlarge_any pages hl htx _ u (hp.below hu)
  have HX0 : Hid (∀ (P : List PgA), P.length ≤ 200 → (∀ p ∈ P, p.text.length ≤ 40000) → expandA P may r = expandA pages may r → ∀ (u : World) (v : Value), Below w.heap.size w u → PgsN u v P → Calls Tryd.prog 16 #[v, .slice a2 may.length cap2, aggR r] u fun e w' => (∃ v', e = .returned (.tuple #[strA (expandA pages may r).1, v', .int .i64 (expandA pages may r).2.2]) ∧ w'.ownsRow u.heap.size 24 3 v' (expandA pages may r).2.1.length (rfCs (expandA pages may r).2.1)) ∧ Below u.heap.size u w') := fun P q1 q2 q3 u v hu hv => by
    have := nexpand_any P (by omega) (fun p hp => Nat.le_trans (q2 p hp) (by decide)) may hm r v (.slice a2 may.length cap2) u hv (hms.below hu)
    rw [q3] at this
    exact this
  have HRf : Hid (∀ (L : List RfA) (v1 v2 : Value) (u : World), L.length ≤ 300 → RfsN u v1 L → RfsN u v2 L → Calls Tryd.prog 17 #[v1, v2] u fun e w' => e = .returned (.bool true) ∧ Below u.heap.size u w') := fun L v1 v2 u q p1 p2 => nrefs_any L (by omega) v1 v2 u p1 p2
  have HXl := (show Hid ((expandA pages may r).2.1.length ≤ 300) from expand_met2 pages may r)
  have HXs := (show Hid ((expandA pages may r).1.length ≤ 16384) from expand_out_len pages may r)
  have HXb := (show Hid ((expandA pages may r).2.2 ≠ 0 → (expandA pages may r).1 = [] ∧ (expandA pages may r).2.1 = []) from expand_bad)
  have HXn := (show Hid ((expandA pages may r).2.2 = 0 → expandA (needL r (expandA pages may r).2.1 pages) may r = expandA pages may r) from expand_needs)
  have HP := (show Hid (PgsN w (.slice a pages.length cap) pages) from hp)
  obtain ⟨t, d, v⟩ := r
  have HX : Hid (∀ (P : List PgA), P.length ≤ 200 → (∀ p ∈ P, p.text.length ≤ 40000) → expandA P may ⟨t, d, v⟩ = expandA pages may ⟨t, d, v⟩ → ∀ (u : World) (va : Value), Below w.heap.size w u → PgsN u va P → Calls Tryd.prog 16 #[va, .slice a2 may.length cap2, .agg #[strA t, strA d, .int .i64 v]] u fun e w' => (∃ v', e = .returned (.tuple #[strA (expandA pages may ⟨t, d, v⟩).1, v', .int .i64 (expandA pages may ⟨t, d, v⟩).2.2]) ∧ w'.ownsRow u.heap.size 24 3 v' (expandA pages may ⟨t, d, v⟩).2.1.length (rfCs (expandA pages may ⟨t, d, v⟩).2.1)) ∧ Below u.heap.size u w') := HX0
  obtain ⟨i0, hi, hz0, hz1, hz2⟩ := info_parts infoPg2
  clear HX0 hp hms htx hl hm
  have HA1 : Hid (Below w.heap.size w (w.alloc (.cells #[strA t, strA d, .int .i64 v] 24))) := (Below.refl _ _).alloc (Nat.le_refl _) _
  have HKB : Hid ((w.alloc (.cells #[strA t, strA d, .int .i64 v] 24)).heap[w.heap.size]? = some (.cells #[strA t, strA d, .int .i64 v] 24 (0, 0))) := blk_newN _ _ _
  show Calls Tryd.prog 6 #[.slice a pages.length cap, .slice a2 may.length cap2, .agg #[strA t, strA d, .int .i64 v]] w _
  go_enter Tryd.func6, Tryd.ntmps6
  go_wp2_with (go_at_call 9; refine Calls.mono (HS.out _) ?_)
  rintro e wa ⟨rfl, hb1⟩
  have HB2 := (show Hid (Below w.heap.size w wa) from HA1.out.trans (hb1.mono HA1.out.size))
  have HK2 := (show Hid (wa.heap[w.heap.size]? = some (.cells #[strA t, strA d, .int .i64 v] 24 (0, 0))) from blk_belowN HKB.out hb1)
  have HL2 := (show Hid (Calls Tryd.prog 14 #[.slice a pages.length cap] wa fun e w' => LargeP pages wa e w') from HL.out wa HB2.out)
  clear hb1 HKB HA1 HS HL
  go_wp2_with (go_at_call 14; refine Calls.mono HL2.out ?_)
  rintro e wb ⟨⟨B, rfl, hB⟩, hu3⟩
  subst hu3
  have HBg := (show Hid (B = false → pages.length ≤ 200 ∧ ∀ p ∈ pages, p.text.length ≤ 40000) from hB)
  clear hB HL2
  cases B
  case true =>
    clear HX HRf HXl HXs HXb HXn HP HK2 HBg
    go_wp2
    go_ret
    exact ⟨rfl, HB2.out⟩
  by_cases h100 : 100 < may.length
  · have h100i : (100 : Int) < (may.length : Int) := by omega
    clear HX HRf HXl HXs HXb HXn HP HK2 HBg
    go_wp2
    go_ret
    exact ⟨rfl, HB2.out⟩
  have h100i : ¬ (100 : Int) < (may.length : Int) := by omega
  obtain ⟨hpl, hpt⟩ := HBg.out rfl
  have HPt := (show Hid (∀ p ∈ pages, p.text.length ≤ 40000) from hpt)
  have hpli : (pages.length : Int) ≤ 200 := by omega
  have XA := (show Hid _ from HX.out pages (by omega) hpt rfl)
  have HXQ := (show Hid (∀ Q : List PgA, Q.length ≤ 200 → (∀ p ∈ Q, p.text.length ≤ 40000) → expandA Q may ⟨t, d, v⟩ = expandA pages may ⟨t, d, v⟩ → _) from fun Q q1 q2 q3 => HX.out Q q1 q2 q3)
  have y0 := cell_blkN HK2.out (i := 0) (v := strA t) rfl
  have y1 := cell_blkN HK2.out (i := 1) (v := strA d) rfl
  have y2 := cell_blkN HK2.out (i := 2) (v := .int .i64 v) rfl
  obtain ⟨RX, hRX⟩ : ∃ RX, expandA pages may ⟨t, d, v⟩ = RX := ⟨_, rfl⟩
  rw [hRX] at XA HXQ HXl HXs HXb HXn
  clear hRX HX HBg hpt h100
  obtain ⟨S, L, E⟩ := RX
  simp only at XA HXQ HXl HXs HXb HXn
  go_wp2_with (go_at_call 16; refine Calls.mono (XA.out wb _ HB2.out (HP.out.below HB2.out)) ?_)
  first | (intro e wc v1 he h1 hb1; subst he) | (rintro e wc ⟨v1, rfl, h1⟩ hb1) | (rintro e wc ⟨⟨v1, rfl, h1⟩, hb1⟩)
  obtain ⟨a1, c1, hv1⟩ := nrow_len h1
  subst hv1
  have HBc := (show Hid (Below w.heap.size w wc) from HB2.out.trans (hb1.mono HB2.out.size))
  have HKc := (show Hid _ from blk_belowN HK2.out hb1)
  have HRc := (show Hid (RfsN wc (.slice a1 L.length c1) L) from rfs_row h1)
  clear y0 y1 y2 h1 hb1 HK2 XA HB2
  by_cases hE : E = 0
  case neg =>
    obtain ⟨hS, hL⟩ := HXb.out hE
    subst hS
    subst hL
    have hEb : (E != 0) = true := by simpa using hE
    clear HXb HXn HXQ HXl HXs HRf HP HKc HRc hE
    go_wp2
    go_ret
    exact ⟨rfl, HBc.out⟩
  subst hE
  have HQe := (show Hid (expandA (needL ⟨t, d, v⟩ L pages) may ⟨t, d, v⟩ = (S, L, 0)) from HXn.out rfl)
  have hLl : L.length ≤ 300 := HXl.out
  have hLli : (L.length : Int) ≤ 300 := by omega
  clear HXb HXn
  go_wp2
  go_loopw [12, 13] (fun x i wr => ∃ k : Nat, i = .int .i64 (k : Int) ∧ k ≤ pages.length ∧ Hid (wr.ownsRow wc.heap.size 38 4 x (needL ⟨t, d, v⟩ L (pages.take k)).length (pgCs (needL ⟨t, d, v⟩ L (pages.take k)))) ∧ Hid (Below wc.heap.size wc wr)) (fun _ i _ => pages.length - (intOf i).toNat)
  case atStart => exact ⟨0, rfl, Nat.zero_le _, (by rw [List.take_zero]; exact World.ownsRow_nil _ _ _ _), Below.refl _ _⟩
  case round =>
    obtain ⟨k, rfl, hk, HOw, HB⟩ := hrel
    obtain ⟨wo, hwo⟩ : ∃ wo : World, wo = wr := ⟨wr, rfl⟩
    subst hwo
    obtain ⟨ao, co, hvo⟩ := nrow_len HOw.out
    subst hvo
    have HBw := (show Hid (Below w.heap.size w wo) from HBc.out.trans (HB.out.mono HBc.out.size))
    by_cases hlt : k < pages.length
    · have hlt1 : (k : Int) < (pages.length : Int) := by omega
      obtain ⟨p, hpk⟩ : ∃ p, pages[k]? = some p := ⟨_, List.getElem?_eq_getElem hlt⟩
      obtain ⟨aa, cc, e1, hcP⟩ := HP.out
      cases e1
      obtain ⟨b, o, ha, hbw, p0, p1, p2, p3⟩ := hcP k p hpk
      subst ha
      have HCp := (show Hid (∀ u, Below w.heap.size w u → u.cell? ⟨b, o + k * 4, none⟩ = some (strA p.ref.tenant) ∧ u.cell? ⟨b, o + k * 4 + 1, none⟩ = some (strA p.ref.doc) ∧ u.cell? ⟨b, o + k * 4 + 2, none⟩ = some (.int .i64 p.ref.ver) ∧ u.cell? ⟨b, o + k * 4 + 3, none⟩ = some (strA p.text)) from fun u hu => ⟨(hu.cell (p := ⟨b, o + k * 4, none⟩) hbw).trans p0, (hu.cell (p := ⟨b, o + k * 4 + 1, none⟩) hbw).trans p1, (hu.cell (p := ⟨b, o + k * 4 + 2, none⟩) hbw).trans p2, (hu.cell (p := ⟨b, o + k * 4 + 3, none⟩) hbw).trans p3⟩)
      have HO1 := (show Hid (needL ⟨t, d, v⟩ L (pages.take (k + 1)) = needL ⟨t, d, v⟩ L (pages.take k) ++ (if needK ⟨t, d, v⟩ L p.ref = true then [p] else [])) from need_next hpk)
      have HN1 : Hid ((needL ⟨t, d, v⟩ L (pages.take k)).length ≤ 200) := by show _ ≤ _; have := List.length_filter_le (fun p => needK ⟨t, d, v⟩ L p.ref) (pages.take k); rw [List.length_take] at this; unfold needL; omega
      clear hcP p0 p1 p2 p3 hpk HXQ HQe HRf HXl HXs
      obtain ⟨⟨pt, pd, pv⟩, px⟩ := p
      simp only at HCp HO1
      obtain ⟨z0, z1, z2, z3⟩ := HCp.out wo HBw.out
      have g0 : ∀ o', (wo.alloc o').cell? ⟨w.heap.size, 0, none⟩ = some (strA t) := fun o' => cell_blkN (blk_allocN (blk_belowN HKc.out HB.out) o') (i := 0) rfl
      have g1 : ∀ o', (wo.alloc o').cell? ⟨w.heap.size, 1, none⟩ = some (strA d) := fun o' => cell_blkN (blk_allocN (blk_belowN HKc.out HB.out) o') (i := 1) rfl
      have g2 : ∀ o', (wo.alloc o').cell? ⟨w.heap.size, 2, none⟩ = some (.int .i64 v) := fun o' => cell_blkN (blk_allocN (blk_belowN HKc.out HB.out) o') (i := 2) rfl
      obtain ⟨WA, hWA⟩ : ∃ WA, WA = wo.alloc (.cells #[strA pt, strA pd, .int .i64 pv] 24) := ⟨_, rfl⟩
      have hbA : Below wo.heap.size wo WA := by rw [hWA]; exact (Below.refl _ _).alloc (Nat.le_refl _) _
      have HBA := (show Hid (Below wc.heap.size wc WA) from HB.out.trans (hbA.mono HB.out.size))
      have HBwA := (show Hid (Below w.heap.size w WA) from HBw.out.trans (hbA.mono HBw.out.size))
      have HKA : Hid (WA.heap[wo.heap.size]? = some (.cells #[strA pt, strA pd, .int .i64 pv] 24 (0, 0))) := by show _ = _; rw [hWA]; exact blk_newN _ _ _
      have HOA := (show Hid (WA.ownsRow wc.heap.size 38 4 (.slice ao (needL ⟨t, d, v⟩ L (pages.take k)).length co) (needL ⟨t, d, v⟩ L (pages.take k)).length (pgCs (needL ⟨t, d, v⟩ L (pages.take k)))) from nrow_below HOw.out hbA)
      obtain ⟨P1, hP1⟩ : ∃ P1, P1 = needL ⟨t, d, v⟩ L (pages.take k) := ⟨_, rfl⟩
      rw [← hP1] at HN1 HOA HO1 ⊢
      have hn1 : P1.length ≤ 200 := HN1.out
      have HNk : Hid (needK ⟨t, d, v⟩ L ⟨pt, pd, pv⟩ = (((pt == t) && (pd == d) && ((v == 0) || (pv == v))) || L.any (fun z => eqR z ⟨pt, pd, pv⟩))) := rfl
      clear hP1 hbA HN1 HOw HB HBw
      have hsplit : ∃ q1 q2 q3 q4, (pt == t) = q1 ∧ (pd == d) = q2 ∧ (v == 0) = q3 ∧ (pv == v) = q4 := ⟨_, _, _, _, rfl, rfl, rfl, rfl⟩
      obtain ⟨q1, q2, q3, q4, e1, e2, e3, e4⟩ := hsplit
      rw [e1, e2, e3, e4] at HNk
      obtain ⟨B0, hB0⟩ : ∃ B0, (q1 && q2 && (q3 || q4)) = B0 := ⟨_, rfl⟩
      rw [hB0] at HNk
      have h5 : (q1 = false ∧ B0 = false) ∨ (q1 = true ∧ q2 = false ∧ B0 = false) ∨ (q1 = true ∧ q2 = true ∧ q3 = true ∧ B0 = true) ∨ (q1 = true ∧ q2 = true ∧ q3 = false ∧ q4 = true ∧ B0 = true) ∨ (q1 = true ∧ q2 = true ∧ q3 = false ∧ q4 = false ∧ B0 = false) := by
        rw [← hB0]
        cases q1 <;> cases q2 <;> cases q3 <;> cases q4 <;> simp
      clear hB0
      rcases h5 with ⟨rfl, rfl⟩ | ⟨rfl, rfl, rfl⟩ | ⟨rfl, rfl, rfl, rfl⟩ | ⟨rfl, rfl, rfl, rfl, rfl⟩ | ⟨rfl, rfl, rfl, rfl, rfl⟩
      · skip
        go_wp2
        rw [← hWA]
        clear g0 g1 g2 z0 z1 z2 z3 e1 e2 hWA
        go_loopw [15, 16] (fun q j wx => ∃ m : Nat, j = .int .i64 (m : Int) ∧ m ≤ L.length ∧ (∃ Bv, q = .bool Bv ∧ Hid (Bv = (false || (L.take m).any (fun z => eqR z ⟨pt, pd, pv⟩)))) ∧ Hid (Below WA.heap.size WA wx)) (fun _ j _ => L.length - (intOf j).toNat)
        case atStart => exact ⟨0, rfl, Nat.zero_le _, ⟨_, rfl, (by show _ = _; rw [List.take_zero]; rfl)⟩, Below.refl _ _⟩
        case round =>
          obtain ⟨m, rfl, hmm, ⟨Bv, rfl, HBv⟩, HBx⟩ := hrel
          by_cases hmlt : m < L.length
          · have hmlt1 : (m : Int) < (L.length : Int) := by omega
            obtain ⟨s, hs⟩ : ∃ s, L[m]? = some s := ⟨_, List.getElem?_eq_getElem hmlt⟩
            have HBcx := (show Hid (Below wc.heap.size wc wr) from HBA.out.trans (HBx.out.mono HBA.out.size))
            obtain ⟨aa, cc, e9, hcM⟩ := HRc.out
            cases e9
            obtain ⟨b', o', ha', hb', q0, q1', q2'⟩ := hcM m s hs
            subst ha'
            have hbx : ∀ u : BwN wr, Below wc.heap.size wc u.wo := fun u => HBcx.out.trans (u.is.mono HBcx.out.size)
            have hbA : ∀ u : BwN wr, Below WA.heap.size WA u.wo := fun u => HBx.out.trans (u.is.mono HBx.out.size)
            have y0 : ∀ u : BwN wr, u.wo.cell? ⟨b', o' + m * 3, none⟩ = some (strA s.tenant) := fun u => ((hbx u).cell (p := ⟨b', o' + m * 3, none⟩) hb').trans q0
            have y1 : ∀ u : BwN wr, u.wo.cell? ⟨b', o' + m * 3 + 1, none⟩ = some (strA s.doc) := fun u => ((hbx u).cell (p := ⟨b', o' + m * 3 + 1, none⟩) hb').trans q1'
            have y2 : ∀ u : BwN wr, u.wo.cell? ⟨b', o' + m * 3 + 2, none⟩ = some (.int .i64 s.ver) := fun u => ((hbx u).cell (p := ⟨b', o' + m * 3 + 2, none⟩) hb').trans q2'
            have x0 : ∀ u : BwN wr, u.wo.cell? ⟨wo.heap.size, 0, none⟩ = some (strA pt) := fun u => cell_blkN (blk_belowN HKA.out (hbA u)) (i := 0) rfl
            have x1 : ∀ u : BwN wr, u.wo.cell? ⟨wo.heap.size, 1, none⟩ = some (strA pd) := fun u => cell_blkN (blk_belowN HKA.out (hbA u)) (i := 1) rfl
            have x2 : ∀ u : BwN wr, u.wo.cell? ⟨wo.heap.size, 2, none⟩ = some (.int .i64 pv) := fun u => cell_blkN (blk_belowN HKA.out (hbA u)) (i := 2) rfl
            have HSn := (show Hid ((L.take (m + 1)).any (fun z => eqR z ⟨pt, pd, pv⟩) = ((L.take m).any (fun z => eqR z ⟨pt, pd, pv⟩) || ((s.tenant == pt) && (s.doc == pd) && (s.ver == pv)))) from anyR_snoc hs)
            clear hcM q0 q1' q2' hs hbx hbA HBcx
            obtain ⟨st, sd, sv⟩ := s
            simp only at y0 y1 y2 HSn
            generalize (L.take m).any (fun z => eqR z ⟨pt, pd, pv⟩) = HQ at *
            have hsp : ∃ c1 c2 c3, (st == pt) = c1 ∧ (sd == pd) = c2 ∧ (sv == pv) = c3 := ⟨_, _, _, rfl, rfl, rfl⟩
            obtain ⟨s1, s2, s3, f1, f2, f3⟩ := hsp
            rw [f1, f2, f3] at HSn
            have HSw : Hid ((false || (L.take (m + 1)).any (fun z => eqR z ⟨pt, pd, pv⟩)) = (Bv || (s1 && s2 && s3))) := by show _ = _; rw [HSn.out, HBv.out]; cases HQ <;> rfl
            clear HSn HBv
            cases Bv
            · have h4 : s1 = false ∨ (s1 = true ∧ s2 = false) ∨ (s1 = true ∧ s2 = true ∧ s3 = false) ∨ (s1 = true ∧ s2 = true ∧ s3 = true) := by cases s1 <;> cases s2 <;> cases s3 <;> simp
              rcases h4 with rfl | ⟨rfl, rfl⟩ | ⟨rfl, rfl, rfl⟩ | ⟨rfl, rfl, rfl⟩
              all_goals
                have HSv := (show Hid _ from HSw.out.symm)
                go_wp2
                refine region_classN (fun w' => ∃ u : BwN wr, w' = u.wo) (by kernel_rfl) (by kernel_rfl) (BwN.first wr) ?_
                haveI := BwN.some wr
                repeat (go_big_quiet_step (exact rfl))
                refine wpQuiet_nil ?_
                intro w5 hw5
                obtain ⟨uu, huu⟩ := hw5
                subst huu
                have HBx2 := (show Hid (Below WA.heap.size WA uu.wo) from HBx.out.trans (uu.is.mono HBx.out.size))
                clear y0 y1 y2 x0 x1 x2
                generalize uu.wo = w6 at *
                go_wp2
                exact ⟨⟨m + 1, by go_num, by omega, ⟨_, rfl, HSv⟩, HBx2⟩, by (simp [intOf]) <;> omega⟩
            · have HSv : Hid (true = _) := (by have := HSw.out.symm; exact this)
              clear f1 f2 f3
              go_wp2
              refine region_classN (fun w' => ∃ u : BwN wr, w' = u.wo) (by kernel_rfl) (by kernel_rfl) (BwN.first wr) ?_
              haveI := BwN.some wr
              repeat (go_big_quiet_step (exact rfl))
              refine wpQuiet_nil ?_
              intro w5 hw5
              obtain ⟨uu, huu⟩ := hw5
              subst huu
              have HBx2 := (show Hid (Below WA.heap.size WA uu.wo) from HBx.out.trans (uu.is.mono HBx.out.size))
              clear y0 y1 y2 x0 x1 x2
              generalize uu.wo = w6 at *
              go_wp2
              exact ⟨⟨m + 1, by go_num, by omega, ⟨_, rfl, HSv⟩, HBx2⟩, by (simp [intOf]) <;> omega⟩
          · have hmlt1 : ¬ (m : Int) < (L.length : Int) := by omega
            obtain rfl : m = L.length := by omega
            have hml : L.take L.length = L := List.take_of_length_le (Nat.le_refl _)
            have HBv2 := HBv.out
            rw [hml] at HBv2
            have HBm := (show Hid (Below wc.heap.size wc wr) from HBA.out.trans (HBx.out.mono HBA.out.size))
            have HOm := (show Hid (wr.ownsRow wc.heap.size 38 4 (.slice ao P1.length co) P1.length (pgCs P1)) from nrow_below HOA.out HBx.out)
            have hbwm : Below w.heap.size w wr := HBwA.out.trans (HBx.out.mono HBwA.out.size)
            obtain ⟨z0, z1, z2, z3⟩ := HCp.out wr hbwm
            clear hml hbwm HCp HBx HBA HBwA HOA HKA
            have hNK := HNk.out
            rw [← HBv2] at hNK
            clear HBv2 HBv
            cases Bv
            · have HO2 : Hid (needL ⟨t, d, v⟩ L (pages.take (k + 1)) = P1) := by show _ = _; rw [HO1.out, hNK]; simp
              clear HO1 hNK HNk
              go_wp2
              exact ⟨⟨k + 1, by go_num, by omega, (by rw [HO2.out]; exact HOm), HBm⟩, by (simp [intOf]) <;> omega⟩
            · have HO2 : Hid (needL ⟨t, d, v⟩ L (pages.take (k + 1)) = P1 ++ [⟨⟨pt, pd, pv⟩, px⟩]) := by show _ = _; rw [HO1.out, hNK]; rfl
              clear HO1 hNK HNk
              go_wp2_with (at_builtin; refine wpList_append_own_at _ rfl _ _ 28 rfl wc.heap.size 38 i0 (.agg #[.string ⟨#[]⟩, .string ⟨#[]⟩, .int .i64 0, .string ⟨#[]⟩]) 4 56 Tryd.underlying28 hi hz0 hz1 hz2 rfl (by decide) _ _ _ rfl (World.ownsRow.alloc HOm.out _) ⟨wr.heap.size, 0, none⟩ 1 1 [strA pt, strA pd, .int .i64 pv, strA px] rfl rfl (lit_cells _ _ _) ?d3 ?d4 ?d5 ?d6 ?_)
              case d3 => first | (intro u hu; simp at hu; rcases hu with rfl | rfl | rfl | rfl <;> rfl) | exact ⟨rfl, rfl, rfl, rfl⟩
              case d4 => unfold maxLen; omega
              case d5 => omega
              case d6 => have := HBm.out.size; simp; omega
              intro v5 w5 hown5 hgrow5 _ _
              have HO5 := (show Hid (w5.ownsRow wc.heap.size 38 4 v5 (P1 ++ [(⟨⟨pt, pd, pv⟩, px⟩ : PgA)]).length (pgCs (P1 ++ [(⟨⟨pt, pd, pv⟩, px⟩ : PgA)]))) from (by rw [List.length_append, pgCs_app]; exact hown5))
              have HB5 := (show Hid (Below wc.heap.size wc w5) from (HBm.out.alloc HBm.out.size _).grown hgrow5 (by have := HBm.out.size; simp; omega) (fun k hk => (World.ownsRow.lt HOm.out k hk).1))
              obtain ⟨a5, c5, hv5⟩ := nrow_len HO5.out
              subst hv5
              clear hown5 hgrow5 HOm HBm z0 z1 z2 z3
              go_wp2
              exact ⟨⟨k + 1, by go_num, by omega, (by rw [HO2.out]; exact HO5), HB5⟩, by (simp [intOf]) <;> omega⟩
      · skip
        go_wp2
        rw [← hWA]
        clear g0 g1 g2 z0 z1 z2 z3 e1 e2 hWA
        go_loopw [15, 16] (fun q j wx => ∃ m : Nat, j = .int .i64 (m : Int) ∧ m ≤ L.length ∧ (∃ Bv, q = .bool Bv ∧ Hid (Bv = (false || (L.take m).any (fun z => eqR z ⟨pt, pd, pv⟩)))) ∧ Hid (Below WA.heap.size WA wx)) (fun _ j _ => L.length - (intOf j).toNat)
        case atStart => exact ⟨0, rfl, Nat.zero_le _, ⟨_, rfl, (by show _ = _; rw [List.take_zero]; rfl)⟩, Below.refl _ _⟩
        case round =>
          obtain ⟨m, rfl, hmm, ⟨Bv, rfl, HBv⟩, HBx⟩ := hrel
          by_cases hmlt : m < L.length
          · have hmlt1 : (m : Int) < (L.length : Int) := by omega
            obtain ⟨s, hs⟩ : ∃ s, L[m]? = some s := ⟨_, List.getElem?_eq_getElem hmlt⟩
            have HBcx := (show Hid (Below wc.heap.size wc wr) from HBA.out.trans (HBx.out.mono HBA.out.size))
            obtain ⟨aa, cc, e9, hcM⟩ := HRc.out
            cases e9
            obtain ⟨b', o', ha', hb', q0, q1', q2'⟩ := hcM m s hs
            subst ha'
            have hbx : ∀ u : BwN wr, Below wc.heap.size wc u.wo := fun u => HBcx.out.trans (u.is.mono HBcx.out.size)
            have hbA : ∀ u : BwN wr, Below WA.heap.size WA u.wo := fun u => HBx.out.trans (u.is.mono HBx.out.size)
            have y0 : ∀ u : BwN wr, u.wo.cell? ⟨b', o' + m * 3, none⟩ = some (strA s.tenant) := fun u => ((hbx u).cell (p := ⟨b', o' + m * 3, none⟩) hb').trans q0
            have y1 : ∀ u : BwN wr, u.wo.cell? ⟨b', o' + m * 3 + 1, none⟩ = some (strA s.doc) := fun u => ((hbx u).cell (p := ⟨b', o' + m * 3 + 1, none⟩) hb').trans q1'
            have y2 : ∀ u : BwN wr, u.wo.cell? ⟨b', o' + m * 3 + 2, none⟩ = some (.int .i64 s.ver) := fun u => ((hbx u).cell (p := ⟨b', o' + m * 3 + 2, none⟩) hb').trans q2'
            have x0 : ∀ u : BwN wr, u.wo.cell? ⟨wo.heap.size, 0, none⟩ = some (strA pt) := fun u => cell_blkN (blk_belowN HKA.out (hbA u)) (i := 0) rfl
            have x1 : ∀ u : BwN wr, u.wo.cell? ⟨wo.heap.size, 1, none⟩ = some (strA pd) := fun u => cell_blkN (blk_belowN HKA.out (hbA u)) (i := 1) rfl
            have x2 : ∀ u : BwN wr, u.wo.cell? ⟨wo.heap.size, 2, none⟩ = some (.int .i64 pv) := fun u => cell_blkN (blk_belowN HKA.out (hbA u)) (i := 2) rfl
            have HSn := (show Hid ((L.take (m + 1)).any (fun z => eqR z ⟨pt, pd, pv⟩) = ((L.take m).any (fun z => eqR z ⟨pt, pd, pv⟩) || ((s.tenant == pt) && (s.doc == pd) && (s.ver == pv)))) from anyR_snoc hs)
            clear hcM q0 q1' q2' hs hbx hbA HBcx
            obtain ⟨st, sd, sv⟩ := s
            simp only at y0 y1 y2 HSn
            generalize (L.take m).any (fun z => eqR z ⟨pt, pd, pv⟩) = HQ at *
            have hsp : ∃ c1 c2 c3, (st == pt) = c1 ∧ (sd == pd) = c2 ∧ (sv == pv) = c3 := ⟨_, _, _, rfl, rfl, rfl⟩
            obtain ⟨s1, s2, s3, f1, f2, f3⟩ := hsp
            rw [f1, f2, f3] at HSn
            have HSw : Hid ((false || (L.take (m + 1)).any (fun z => eqR z ⟨pt, pd, pv⟩)) = (Bv || (s1 && s2 && s3))) := by show _ = _; rw [HSn.out, HBv.out]; cases HQ <;> rfl
            clear HSn HBv
            cases Bv
            · have h4 : s1 = false ∨ (s1 = true ∧ s2 = false) ∨ (s1 = true ∧ s2 = true ∧ s3 = false) ∨ (s1 = true ∧ s2 = true ∧ s3 = true) := by cases s1 <;> cases s2 <;> cases s3 <;> simp
              rcases h4 with rfl | ⟨rfl, rfl⟩ | ⟨rfl, rfl, rfl⟩ | ⟨rfl, rfl, rfl⟩
              all_goals
                have HSv := (show Hid _ from HSw.out.symm)
                go_wp2
                refine region_classN (fun w' => ∃ u : BwN wr, w' = u.wo) (by kernel_rfl) (by kernel_rfl) (BwN.first wr) ?_
                haveI := BwN.some wr
                repeat (go_big_quiet_step (exact rfl))
                refine wpQuiet_nil ?_
                intro w5 hw5
                obtain ⟨uu, huu⟩ := hw5
                subst huu
                have HBx2 := (show Hid (Below WA.heap.size WA uu.wo) from HBx.out.trans (uu.is.mono HBx.out.size))
                clear y0 y1 y2 x0 x1 x2
                generalize uu.wo = w6 at *
                go_wp2
                exact ⟨⟨m + 1, by go_num, by omega, ⟨_, rfl, HSv⟩, HBx2⟩, by (simp [intOf]) <;> omega⟩
            · have HSv : Hid (true = _) := (by have := HSw.out.symm; exact this)
              clear f1 f2 f3
              go_wp2
              refine region_classN (fun w' => ∃ u : BwN wr, w' = u.wo) (by kernel_rfl) (by kernel_rfl) (BwN.first wr) ?_
              haveI := BwN.some wr
              repeat (go_big_quiet_step (exact rfl))
              refine wpQuiet_nil ?_
              intro w5 hw5
              obtain ⟨uu, huu⟩ := hw5
              subst huu
              have HBx2 := (show Hid (Below WA.heap.size WA uu.wo) from HBx.out.trans (uu.is.mono HBx.out.size))
              clear y0 y1 y2 x0 x1 x2
              generalize uu.wo = w6 at *
              go_wp2
              exact ⟨⟨m + 1, by go_num, by omega, ⟨_, rfl, HSv⟩, HBx2⟩, by (simp [intOf]) <;> omega⟩
          · have hmlt1 : ¬ (m : Int) < (L.length : Int) := by omega
            obtain rfl : m = L.length := by omega
            have hml : L.take L.length = L := List.take_of_length_le (Nat.le_refl _)
            have HBv2 := HBv.out
            rw [hml] at HBv2
            have HBm := (show Hid (Below wc.heap.size wc wr) from HBA.out.trans (HBx.out.mono HBA.out.size))
            have HOm := (show Hid (wr.ownsRow wc.heap.size 38 4 (.slice ao P1.length co) P1.length (pgCs P1)) from nrow_below HOA.out HBx.out)
            have hbwm : Below w.heap.size w wr := HBwA.out.trans (HBx.out.mono HBwA.out.size)
            obtain ⟨z0, z1, z2, z3⟩ := HCp.out wr hbwm
            clear hml hbwm HCp HBx HBA HBwA HOA HKA
            have hNK := HNk.out
            rw [← HBv2] at hNK
            clear HBv2 HBv
            cases Bv
            · have HO2 : Hid (needL ⟨t, d, v⟩ L (pages.take (k + 1)) = P1) := by show _ = _; rw [HO1.out, hNK]; simp
              clear HO1 hNK HNk
              go_wp2
              exact ⟨⟨k + 1, by go_num, by omega, (by rw [HO2.out]; exact HOm), HBm⟩, by (simp [intOf]) <;> omega⟩
            · have HO2 : Hid (needL ⟨t, d, v⟩ L (pages.take (k + 1)) = P1 ++ [⟨⟨pt, pd, pv⟩, px⟩]) := by show _ = _; rw [HO1.out, hNK]; rfl
              clear HO1 hNK HNk
              go_wp2_with (at_builtin; refine wpList_append_own_at _ rfl _ _ 28 rfl wc.heap.size 38 i0 (.agg #[.string ⟨#[]⟩, .string ⟨#[]⟩, .int .i64 0, .string ⟨#[]⟩]) 4 56 Tryd.underlying28 hi hz0 hz1 hz2 rfl (by decide) _ _ _ rfl (World.ownsRow.alloc HOm.out _) ⟨wr.heap.size, 0, none⟩ 1 1 [strA pt, strA pd, .int .i64 pv, strA px] rfl rfl (lit_cells _ _ _) ?d3 ?d4 ?d5 ?d6 ?_)
              case d3 => first | (intro u hu; simp at hu; rcases hu with rfl | rfl | rfl | rfl <;> rfl) | exact ⟨rfl, rfl, rfl, rfl⟩
              case d4 => unfold maxLen; omega
              case d5 => omega
              case d6 => have := HBm.out.size; simp; omega
              intro v5 w5 hown5 hgrow5 _ _
              have HO5 := (show Hid (w5.ownsRow wc.heap.size 38 4 v5 (P1 ++ [(⟨⟨pt, pd, pv⟩, px⟩ : PgA)]).length (pgCs (P1 ++ [(⟨⟨pt, pd, pv⟩, px⟩ : PgA)]))) from (by rw [List.length_append, pgCs_app]; exact hown5))
              have HB5 := (show Hid (Below wc.heap.size wc w5) from (HBm.out.alloc HBm.out.size _).grown hgrow5 (by have := HBm.out.size; simp; omega) (fun k hk => (World.ownsRow.lt HOm.out k hk).1))
              obtain ⟨a5, c5, hv5⟩ := nrow_len HO5.out
              subst hv5
              clear hown5 hgrow5 HOm HBm z0 z1 z2 z3
              go_wp2
              exact ⟨⟨k + 1, by go_num, by omega, (by rw [HO2.out]; exact HO5), HB5⟩, by (simp [intOf]) <;> omega⟩
      · skip
        go_wp2
        rw [← hWA]
        clear g0 g1 g2 z0 z1 z2 z3 e1 e2 hWA
        go_loopw [15, 16] (fun q j wx => ∃ m : Nat, j = .int .i64 (m : Int) ∧ m ≤ L.length ∧ (∃ Bv, q = .bool Bv ∧ Hid (Bv = (true || (L.take m).any (fun z => eqR z ⟨pt, pd, pv⟩)))) ∧ Hid (Below WA.heap.size WA wx)) (fun _ j _ => L.length - (intOf j).toNat)
        case atStart => exact ⟨0, rfl, Nat.zero_le _, ⟨_, rfl, (by show _ = _; rw [List.take_zero]; rfl)⟩, Below.refl _ _⟩
        case round =>
          obtain ⟨m, rfl, hmm, ⟨Bv, rfl, HBv⟩, HBx⟩ := hrel
          by_cases hmlt : m < L.length
          · have hmlt1 : (m : Int) < (L.length : Int) := by omega
            obtain ⟨s, hs⟩ : ∃ s, L[m]? = some s := ⟨_, List.getElem?_eq_getElem hmlt⟩
            have HBcx := (show Hid (Below wc.heap.size wc wr) from HBA.out.trans (HBx.out.mono HBA.out.size))
            obtain ⟨aa, cc, e9, hcM⟩ := HRc.out
            cases e9
            obtain ⟨b', o', ha', hb', q0, q1', q2'⟩ := hcM m s hs
            subst ha'
            have hbx : ∀ u : BwN wr, Below wc.heap.size wc u.wo := fun u => HBcx.out.trans (u.is.mono HBcx.out.size)
            have hbA : ∀ u : BwN wr, Below WA.heap.size WA u.wo := fun u => HBx.out.trans (u.is.mono HBx.out.size)
            have y0 : ∀ u : BwN wr, u.wo.cell? ⟨b', o' + m * 3, none⟩ = some (strA s.tenant) := fun u => ((hbx u).cell (p := ⟨b', o' + m * 3, none⟩) hb').trans q0
            have y1 : ∀ u : BwN wr, u.wo.cell? ⟨b', o' + m * 3 + 1, none⟩ = some (strA s.doc) := fun u => ((hbx u).cell (p := ⟨b', o' + m * 3 + 1, none⟩) hb').trans q1'
            have y2 : ∀ u : BwN wr, u.wo.cell? ⟨b', o' + m * 3 + 2, none⟩ = some (.int .i64 s.ver) := fun u => ((hbx u).cell (p := ⟨b', o' + m * 3 + 2, none⟩) hb').trans q2'
            have x0 : ∀ u : BwN wr, u.wo.cell? ⟨wo.heap.size, 0, none⟩ = some (strA pt) := fun u => cell_blkN (blk_belowN HKA.out (hbA u)) (i := 0) rfl
            have x1 : ∀ u : BwN wr, u.wo.cell? ⟨wo.heap.size, 1, none⟩ = some (strA pd) := fun u => cell_blkN (blk_belowN HKA.out (hbA u)) (i := 1) rfl
            have x2 : ∀ u : BwN wr, u.wo.cell? ⟨wo.heap.size, 2, none⟩ = some (.int .i64 pv) := fun u => cell_blkN (blk_belowN HKA.out (hbA u)) (i := 2) rfl
            have HSn := (show Hid ((L.take (m + 1)).any (fun z => eqR z ⟨pt, pd, pv⟩) = ((L.take m).any (fun z => eqR z ⟨pt, pd, pv⟩) || ((s.tenant == pt) && (s.doc == pd) && (s.ver == pv)))) from anyR_snoc hs)
            clear hcM q0 q1' q2' hs hbx hbA HBcx
            obtain ⟨st, sd, sv⟩ := s
            simp only at y0 y1 y2 HSn
            generalize (L.take m).any (fun z => eqR z ⟨pt, pd, pv⟩) = HQ at *
            have hsp : ∃ c1 c2 c3, (st == pt) = c1 ∧ (sd == pd) = c2 ∧ (sv == pv) = c3 := ⟨_, _, _, rfl, rfl, rfl⟩
            obtain ⟨s1, s2, s3, f1, f2, f3⟩ := hsp
            rw [f1, f2, f3] at HSn
            have HSw : Hid ((true || (L.take (m + 1)).any (fun z => eqR z ⟨pt, pd, pv⟩)) = (Bv || (s1 && s2 && s3))) := by show _ = _; rw [HSn.out, HBv.out]; cases HQ <;> rfl
            have hBv : Bv = true := by rw [HBv.out]; simp
            subst hBv
            have HSv : Hid (true = _) := (by have := HSw.out.symm; exact this)
            clear HSn HBv f1 f2 f3
            go_wp2
            refine region_classN (fun w' => ∃ u : BwN wr, w' = u.wo) (by kernel_rfl) (by kernel_rfl) (BwN.first wr) ?_
            haveI := BwN.some wr
            repeat (go_big_quiet_step (exact rfl))
            refine wpQuiet_nil ?_
            intro w5 hw5
            obtain ⟨uu, huu⟩ := hw5
            subst huu
            have HBx2 := (show Hid (Below WA.heap.size WA uu.wo) from HBx.out.trans (uu.is.mono HBx.out.size))
            clear y0 y1 y2 x0 x1 x2
            generalize uu.wo = w6 at *
            go_wp2
            exact ⟨⟨m + 1, by go_num, by omega, ⟨_, rfl, HSv⟩, HBx2⟩, by (simp [intOf]) <;> omega⟩
          · have hmlt1 : ¬ (m : Int) < (L.length : Int) := by omega
            obtain rfl : m = L.length := by omega
            have hml : L.take L.length = L := List.take_of_length_le (Nat.le_refl _)
            have HBv2 := HBv.out
            rw [hml] at HBv2
            have HBm := (show Hid (Below wc.heap.size wc wr) from HBA.out.trans (HBx.out.mono HBA.out.size))
            have HOm := (show Hid (wr.ownsRow wc.heap.size 38 4 (.slice ao P1.length co) P1.length (pgCs P1)) from nrow_below HOA.out HBx.out)
            have hbwm : Below w.heap.size w wr := HBwA.out.trans (HBx.out.mono HBwA.out.size)
            obtain ⟨z0, z1, z2, z3⟩ := HCp.out wr hbwm
            clear hml hbwm HCp HBx HBA HBwA HOA HKA
            have hNK := HNk.out
            rw [← HBv2] at hNK
            clear HBv2 HBv
            cases Bv
            · have HO2 : Hid (needL ⟨t, d, v⟩ L (pages.take (k + 1)) = P1) := by show _ = _; rw [HO1.out, hNK]; simp
              clear HO1 hNK HNk
              go_wp2
              exact ⟨⟨k + 1, by go_num, by omega, (by rw [HO2.out]; exact HOm), HBm⟩, by (simp [intOf]) <;> omega⟩
            · have HO2 : Hid (needL ⟨t, d, v⟩ L (pages.take (k + 1)) = P1 ++ [⟨⟨pt, pd, pv⟩, px⟩]) := by show _ = _; rw [HO1.out, hNK]; rfl
              clear HO1 hNK HNk
              go_wp2_with (at_builtin; refine wpList_append_own_at _ rfl _ _ 28 rfl wc.heap.size 38 i0 (.agg #[.string ⟨#[]⟩, .string ⟨#[]⟩, .int .i64 0, .string ⟨#[]⟩]) 4 56 Tryd.underlying28 hi hz0 hz1 hz2 rfl (by decide) _ _ _ rfl (World.ownsRow.alloc HOm.out _) ⟨wr.heap.size, 0, none⟩ 1 1 [strA pt, strA pd, .int .i64 pv, strA px] rfl rfl (lit_cells _ _ _) ?d3 ?d4 ?d5 ?d6 ?_)
              case d3 => first | (intro u hu; simp at hu; rcases hu with rfl | rfl | rfl | rfl <;> rfl) | exact ⟨rfl, rfl, rfl, rfl⟩
              case d4 => unfold maxLen; omega
              case d5 => omega
              case d6 => have := HBm.out.size; simp; omega
              intro v5 w5 hown5 hgrow5 _ _
              have HO5 := (show Hid (w5.ownsRow wc.heap.size 38 4 v5 (P1 ++ [(⟨⟨pt, pd, pv⟩, px⟩ : PgA)]).length (pgCs (P1 ++ [(⟨⟨pt, pd, pv⟩, px⟩ : PgA)]))) from (by rw [List.length_append, pgCs_app]; exact hown5))
              have HB5 := (show Hid (Below wc.heap.size wc w5) from (HBm.out.alloc HBm.out.size _).grown hgrow5 (by have := HBm.out.size; simp; omega) (fun k hk => (World.ownsRow.lt HOm.out k hk).1))
              obtain ⟨a5, c5, hv5⟩ := nrow_len HO5.out
              subst hv5
              clear hown5 hgrow5 HOm HBm z0 z1 z2 z3
              go_wp2
              exact ⟨⟨k + 1, by go_num, by omega, (by rw [HO2.out]; exact HO5), HB5⟩, by (simp [intOf]) <;> omega⟩
      · skip
        go_wp2
        rw [← hWA]
        clear g0 g1 g2 z0 z1 z2 z3 e1 e2 hWA
        go_loopw [15, 16] (fun q j wx => ∃ m : Nat, j = .int .i64 (m : Int) ∧ m ≤ L.length ∧ (∃ Bv, q = .bool Bv ∧ Hid (Bv = (true || (L.take m).any (fun z => eqR z ⟨pt, pd, pv⟩)))) ∧ Hid (Below WA.heap.size WA wx)) (fun _ j _ => L.length - (intOf j).toNat)
        case atStart => exact ⟨0, rfl, Nat.zero_le _, ⟨_, rfl, (by show _ = _; rw [List.take_zero]; rfl)⟩, Below.refl _ _⟩
        case round =>
          obtain ⟨m, rfl, hmm, ⟨Bv, rfl, HBv⟩, HBx⟩ := hrel
          by_cases hmlt : m < L.length
          · have hmlt1 : (m : Int) < (L.length : Int) := by omega
            obtain ⟨s, hs⟩ : ∃ s, L[m]? = some s := ⟨_, List.getElem?_eq_getElem hmlt⟩
            have HBcx := (show Hid (Below wc.heap.size wc wr) from HBA.out.trans (HBx.out.mono HBA.out.size))
            obtain ⟨aa, cc, e9, hcM⟩ := HRc.out
            cases e9
            obtain ⟨b', o', ha', hb', q0, q1', q2'⟩ := hcM m s hs
            subst ha'
            have hbx : ∀ u : BwN wr, Below wc.heap.size wc u.wo := fun u => HBcx.out.trans (u.is.mono HBcx.out.size)
            have hbA : ∀ u : BwN wr, Below WA.heap.size WA u.wo := fun u => HBx.out.trans (u.is.mono HBx.out.size)
            have y0 : ∀ u : BwN wr, u.wo.cell? ⟨b', o' + m * 3, none⟩ = some (strA s.tenant) := fun u => ((hbx u).cell (p := ⟨b', o' + m * 3, none⟩) hb').trans q0
            have y1 : ∀ u : BwN wr, u.wo.cell? ⟨b', o' + m * 3 + 1, none⟩ = some (strA s.doc) := fun u => ((hbx u).cell (p := ⟨b', o' + m * 3 + 1, none⟩) hb').trans q1'
            have y2 : ∀ u : BwN wr, u.wo.cell? ⟨b', o' + m * 3 + 2, none⟩ = some (.int .i64 s.ver) := fun u => ((hbx u).cell (p := ⟨b', o' + m * 3 + 2, none⟩) hb').trans q2'
            have x0 : ∀ u : BwN wr, u.wo.cell? ⟨wo.heap.size, 0, none⟩ = some (strA pt) := fun u => cell_blkN (blk_belowN HKA.out (hbA u)) (i := 0) rfl
            have x1 : ∀ u : BwN wr, u.wo.cell? ⟨wo.heap.size, 1, none⟩ = some (strA pd) := fun u => cell_blkN (blk_belowN HKA.out (hbA u)) (i := 1) rfl
            have x2 : ∀ u : BwN wr, u.wo.cell? ⟨wo.heap.size, 2, none⟩ = some (.int .i64 pv) := fun u => cell_blkN (blk_belowN HKA.out (hbA u)) (i := 2) rfl
            have HSn := (show Hid ((L.take (m + 1)).any (fun z => eqR z ⟨pt, pd, pv⟩) = ((L.take m).any (fun z => eqR z ⟨pt, pd, pv⟩) || ((s.tenant == pt) && (s.doc == pd) && (s.ver == pv)))) from anyR_snoc hs)
            clear hcM q0 q1' q2' hs hbx hbA HBcx
            obtain ⟨st, sd, sv⟩ := s
            simp only at y0 y1 y2 HSn
            generalize (L.take m).any (fun z => eqR z ⟨pt, pd, pv⟩) = HQ at *
            have hsp : ∃ c1 c2 c3, (st == pt) = c1 ∧ (sd == pd) = c2 ∧ (sv == pv) = c3 := ⟨_, _, _, rfl, rfl, rfl⟩
            obtain ⟨s1, s2, s3, f1, f2, f3⟩ := hsp
            rw [f1, f2, f3] at HSn
            have HSw : Hid ((true || (L.take (m + 1)).any (fun z => eqR z ⟨pt, pd, pv⟩)) = (Bv || (s1 && s2 && s3))) := by show _ = _; rw [HSn.out, HBv.out]; cases HQ <;> rfl
            have hBv : Bv = true := by rw [HBv.out]; simp
            subst hBv
            have HSv : Hid (true = _) := (by have := HSw.out.symm; exact this)
            clear HSn HBv f1 f2 f3
            go_wp2
            refine region_classN (fun w' => ∃ u : BwN wr, w' = u.wo) (by kernel_rfl) (by kernel_rfl) (BwN.first wr) ?_
            haveI := BwN.some wr
            repeat (go_big_quiet_step (exact rfl))
            refine wpQuiet_nil ?_
            intro w5 hw5
            obtain ⟨uu, huu⟩ := hw5
            subst huu
            have HBx2 := (show Hid (Below WA.heap.size WA uu.wo) from HBx.out.trans (uu.is.mono HBx.out.size))
            clear y0 y1 y2 x0 x1 x2
            generalize uu.wo = w6 at *
            go_wp2
            exact ⟨⟨m + 1, by go_num, by omega, ⟨_, rfl, HSv⟩, HBx2⟩, by (simp [intOf]) <;> omega⟩
          · have hmlt1 : ¬ (m : Int) < (L.length : Int) := by omega
            obtain rfl : m = L.length := by omega
            have hml : L.take L.length = L := List.take_of_length_le (Nat.le_refl _)
            have HBv2 := HBv.out
            rw [hml] at HBv2
            have HBm := (show Hid (Below wc.heap.size wc wr) from HBA.out.trans (HBx.out.mono HBA.out.size))
            have HOm := (show Hid (wr.ownsRow wc.heap.size 38 4 (.slice ao P1.length co) P1.length (pgCs P1)) from nrow_below HOA.out HBx.out)
            have hbwm : Below w.heap.size w wr := HBwA.out.trans (HBx.out.mono HBwA.out.size)
            obtain ⟨z0, z1, z2, z3⟩ := HCp.out wr hbwm
            clear hml hbwm HCp HBx HBA HBwA HOA HKA
            have hNK := HNk.out
            rw [← HBv2] at hNK
            clear HBv2 HBv
            cases Bv
            · have HO2 : Hid (needL ⟨t, d, v⟩ L (pages.take (k + 1)) = P1) := by show _ = _; rw [HO1.out, hNK]; simp
              clear HO1 hNK HNk
              go_wp2
              exact ⟨⟨k + 1, by go_num, by omega, (by rw [HO2.out]; exact HOm), HBm⟩, by (simp [intOf]) <;> omega⟩
            · have HO2 : Hid (needL ⟨t, d, v⟩ L (pages.take (k + 1)) = P1 ++ [⟨⟨pt, pd, pv⟩, px⟩]) := by show _ = _; rw [HO1.out, hNK]; rfl
              clear HO1 hNK HNk
              go_wp2_with (at_builtin; refine wpList_append_own_at _ rfl _ _ 28 rfl wc.heap.size 38 i0 (.agg #[.string ⟨#[]⟩, .string ⟨#[]⟩, .int .i64 0, .string ⟨#[]⟩]) 4 56 Tryd.underlying28 hi hz0 hz1 hz2 rfl (by decide) _ _ _ rfl (World.ownsRow.alloc HOm.out _) ⟨wr.heap.size, 0, none⟩ 1 1 [strA pt, strA pd, .int .i64 pv, strA px] rfl rfl (lit_cells _ _ _) ?d3 ?d4 ?d5 ?d6 ?_)
              case d3 => first | (intro u hu; simp at hu; rcases hu with rfl | rfl | rfl | rfl <;> rfl) | exact ⟨rfl, rfl, rfl, rfl⟩
              case d4 => unfold maxLen; omega
              case d5 => omega
              case d6 => have := HBm.out.size; simp; omega
              intro v5 w5 hown5 hgrow5 _ _
              have HO5 := (show Hid (w5.ownsRow wc.heap.size 38 4 v5 (P1 ++ [(⟨⟨pt, pd, pv⟩, px⟩ : PgA)]).length (pgCs (P1 ++ [(⟨⟨pt, pd, pv⟩, px⟩ : PgA)]))) from (by rw [List.length_append, pgCs_app]; exact hown5))
              have HB5 := (show Hid (Below wc.heap.size wc w5) from (HBm.out.alloc HBm.out.size _).grown hgrow5 (by have := HBm.out.size; simp; omega) (fun k hk => (World.ownsRow.lt HOm.out k hk).1))
              obtain ⟨a5, c5, hv5⟩ := nrow_len HO5.out
              subst hv5
              clear hown5 hgrow5 HOm HBm z0 z1 z2 z3
              go_wp2
              exact ⟨⟨k + 1, by go_num, by omega, (by rw [HO2.out]; exact HO5), HB5⟩, by (simp [intOf]) <;> omega⟩
      · skip
        go_wp2
        rw [← hWA]
        clear g0 g1 g2 z0 z1 z2 z3 e1 e2 hWA
        go_loopw [15, 16] (fun q j wx => ∃ m : Nat, j = .int .i64 (m : Int) ∧ m ≤ L.length ∧ (∃ Bv, q = .bool Bv ∧ Hid (Bv = (false || (L.take m).any (fun z => eqR z ⟨pt, pd, pv⟩)))) ∧ Hid (Below WA.heap.size WA wx)) (fun _ j _ => L.length - (intOf j).toNat)
        case atStart => exact ⟨0, rfl, Nat.zero_le _, ⟨_, rfl, (by show _ = _; rw [List.take_zero]; rfl)⟩, Below.refl _ _⟩
        case round =>
          obtain ⟨m, rfl, hmm, ⟨Bv, rfl, HBv⟩, HBx⟩ := hrel
          by_cases hmlt : m < L.length
          · have hmlt1 : (m : Int) < (L.length : Int) := by omega
            obtain ⟨s, hs⟩ : ∃ s, L[m]? = some s := ⟨_, List.getElem?_eq_getElem hmlt⟩
            have HBcx := (show Hid (Below wc.heap.size wc wr) from HBA.out.trans (HBx.out.mono HBA.out.size))
            obtain ⟨aa, cc, e9, hcM⟩ := HRc.out
            cases e9
            obtain ⟨b', o', ha', hb', q0, q1', q2'⟩ := hcM m s hs
            subst ha'
            have hbx : ∀ u : BwN wr, Below wc.heap.size wc u.wo := fun u => HBcx.out.trans (u.is.mono HBcx.out.size)
            have hbA : ∀ u : BwN wr, Below WA.heap.size WA u.wo := fun u => HBx.out.trans (u.is.mono HBx.out.size)
            have y0 : ∀ u : BwN wr, u.wo.cell? ⟨b', o' + m * 3, none⟩ = some (strA s.tenant) := fun u => ((hbx u).cell (p := ⟨b', o' + m * 3, none⟩) hb').trans q0
            have y1 : ∀ u : BwN wr, u.wo.cell? ⟨b', o' + m * 3 + 1, none⟩ = some (strA s.doc) := fun u => ((hbx u).cell (p := ⟨b', o' + m * 3 + 1, none⟩) hb').trans q1'
            have y2 : ∀ u : BwN wr, u.wo.cell? ⟨b', o' + m * 3 + 2, none⟩ = some (.int .i64 s.ver) := fun u => ((hbx u).cell (p := ⟨b', o' + m * 3 + 2, none⟩) hb').trans q2'
            have x0 : ∀ u : BwN wr, u.wo.cell? ⟨wo.heap.size, 0, none⟩ = some (strA pt) := fun u => cell_blkN (blk_belowN HKA.out (hbA u)) (i := 0) rfl
            have x1 : ∀ u : BwN wr, u.wo.cell? ⟨wo.heap.size, 1, none⟩ = some (strA pd) := fun u => cell_blkN (blk_belowN HKA.out (hbA u)) (i := 1) rfl
            have x2 : ∀ u : BwN wr, u.wo.cell? ⟨wo.heap.size, 2, none⟩ = some (.int .i64 pv) := fun u => cell_blkN (blk_belowN HKA.out (hbA u)) (i := 2) rfl
            have HSn := (show Hid ((L.take (m + 1)).any (fun z => eqR z ⟨pt, pd, pv⟩) = ((L.take m).any (fun z => eqR z ⟨pt, pd, pv⟩) || ((s.tenant == pt) && (s.doc == pd) && (s.ver == pv)))) from anyR_snoc hs)
            clear hcM q0 q1' q2' hs hbx hbA HBcx
            obtain ⟨st, sd, sv⟩ := s
            simp only at y0 y1 y2 HSn
            generalize (L.take m).any (fun z => eqR z ⟨pt, pd, pv⟩) = HQ at *
            have hsp : ∃ c1 c2 c3, (st == pt) = c1 ∧ (sd == pd) = c2 ∧ (sv == pv) = c3 := ⟨_, _, _, rfl, rfl, rfl⟩
            obtain ⟨s1, s2, s3, f1, f2, f3⟩ := hsp
            rw [f1, f2, f3] at HSn
            have HSw : Hid ((false || (L.take (m + 1)).any (fun z => eqR z ⟨pt, pd, pv⟩)) = (Bv || (s1 && s2 && s3))) := by show _ = _; rw [HSn.out, HBv.out]; cases HQ <;> rfl
            clear HSn HBv
            cases Bv
            · have h4 : s1 = false ∨ (s1 = true ∧ s2 = false) ∨ (s1 = true ∧ s2 = true ∧ s3 = false) ∨ (s1 = true ∧ s2 = true ∧ s3 = true) := by cases s1 <;> cases s2 <;> cases s3 <;> simp
              rcases h4 with rfl | ⟨rfl, rfl⟩ | ⟨rfl, rfl, rfl⟩ | ⟨rfl, rfl, rfl⟩
              all_goals
                have HSv := (show Hid _ from HSw.out.symm)
                go_wp2
                refine region_classN (fun w' => ∃ u : BwN wr, w' = u.wo) (by kernel_rfl) (by kernel_rfl) (BwN.first wr) ?_
                haveI := BwN.some wr
                repeat (go_big_quiet_step (exact rfl))
                refine wpQuiet_nil ?_
                intro w5 hw5
                obtain ⟨uu, huu⟩ := hw5
                subst huu
                have HBx2 := (show Hid (Below WA.heap.size WA uu.wo) from HBx.out.trans (uu.is.mono HBx.out.size))
                clear y0 y1 y2 x0 x1 x2
                generalize uu.wo = w6 at *
                go_wp2
                exact ⟨⟨m + 1, by go_num, by omega, ⟨_, rfl, HSv⟩, HBx2⟩, by (simp [intOf]) <;> omega⟩
            · have HSv : Hid (true = _) := (by have := HSw.out.symm; exact this)
              clear f1 f2 f3
              go_wp2
              refine region_classN (fun w' => ∃ u : BwN wr, w' = u.wo) (by kernel_rfl) (by kernel_rfl) (BwN.first wr) ?_
              haveI := BwN.some wr
              repeat (go_big_quiet_step (exact rfl))
              refine wpQuiet_nil ?_
              intro w5 hw5
              obtain ⟨uu, huu⟩ := hw5
              subst huu
              have HBx2 := (show Hid (Below WA.heap.size WA uu.wo) from HBx.out.trans (uu.is.mono HBx.out.size))
              clear y0 y1 y2 x0 x1 x2
              generalize uu.wo = w6 at *
              go_wp2
              exact ⟨⟨m + 1, by go_num, by omega, ⟨_, rfl, HSv⟩, HBx2⟩, by (simp [intOf]) <;> omega⟩
          · have hmlt1 : ¬ (m : Int) < (L.length : Int) := by omega
            obtain rfl : m = L.length := by omega
            have hml : L.take L.length = L := List.take_of_length_le (Nat.le_refl _)
            have HBv2 := HBv.out
            rw [hml] at HBv2
            have HBm := (show Hid (Below wc.heap.size wc wr) from HBA.out.trans (HBx.out.mono HBA.out.size))
            have HOm := (show Hid (wr.ownsRow wc.heap.size 38 4 (.slice ao P1.length co) P1.length (pgCs P1)) from nrow_below HOA.out HBx.out)
            have hbwm : Below w.heap.size w wr := HBwA.out.trans (HBx.out.mono HBwA.out.size)
            obtain ⟨z0, z1, z2, z3⟩ := HCp.out wr hbwm
            clear hml hbwm HCp HBx HBA HBwA HOA HKA
            have hNK := HNk.out
            rw [← HBv2] at hNK
            clear HBv2 HBv
            cases Bv
            · have HO2 : Hid (needL ⟨t, d, v⟩ L (pages.take (k + 1)) = P1) := by show _ = _; rw [HO1.out, hNK]; simp
              clear HO1 hNK HNk
              go_wp2
              exact ⟨⟨k + 1, by go_num, by omega, (by rw [HO2.out]; exact HOm), HBm⟩, by (simp [intOf]) <;> omega⟩
            · have HO2 : Hid (needL ⟨t, d, v⟩ L (pages.take (k + 1)) = P1 ++ [⟨⟨pt, pd, pv⟩, px⟩]) := by show _ = _; rw [HO1.out, hNK]; rfl
              clear HO1 hNK HNk
              go_wp2_with (at_builtin; refine wpList_append_own_at _ rfl _ _ 28 rfl wc.heap.size 38 i0 (.agg #[.string ⟨#[]⟩, .string ⟨#[]⟩, .int .i64 0, .string ⟨#[]⟩]) 4 56 Tryd.underlying28 hi hz0 hz1 hz2 rfl (by decide) _ _ _ rfl (World.ownsRow.alloc HOm.out _) ⟨wr.heap.size, 0, none⟩ 1 1 [strA pt, strA pd, .int .i64 pv, strA px] rfl rfl (lit_cells _ _ _) ?d3 ?d4 ?d5 ?d6 ?_)
              case d3 => first | (intro u hu; simp at hu; rcases hu with rfl | rfl | rfl | rfl <;> rfl) | exact ⟨rfl, rfl, rfl, rfl⟩
              case d4 => unfold maxLen; omega
              case d5 => omega
              case d6 => have := HBm.out.size; simp; omega
              intro v5 w5 hown5 hgrow5 _ _
              have HO5 := (show Hid (w5.ownsRow wc.heap.size 38 4 v5 (P1 ++ [(⟨⟨pt, pd, pv⟩, px⟩ : PgA)]).length (pgCs (P1 ++ [(⟨⟨pt, pd, pv⟩, px⟩ : PgA)]))) from (by rw [List.length_append, pgCs_app]; exact hown5))
              have HB5 := (show Hid (Below wc.heap.size wc w5) from (HBm.out.alloc HBm.out.size _).grown hgrow5 (by have := HBm.out.size; simp; omega) (fun k hk => (World.ownsRow.lt HOm.out k hk).1))
              obtain ⟨a5, c5, hv5⟩ := nrow_len HO5.out
              subst hv5
              clear hown5 hgrow5 HOm HBm z0 z1 z2 z3
              go_wp2
              exact ⟨⟨k + 1, by go_num, by omega, (by rw [HO2.out]; exact HO5), HB5⟩, by (simp [intOf]) <;> omega⟩
    · have hlt1 : ¬ (k : Int) < (pages.length : Int) := by omega
      obtain rfl : k = pages.length := by omega
      have hkl : pages.take pages.length = pages := List.take_of_length_le (Nat.le_refl _)
      rw [hkl] at HOw ⊢
      have hnL : (needL ⟨t, d, v⟩ L pages).length ≤ 200 := Nat.le_trans (List.length_filter_le _ _) (by omega)
      have XB := (show Hid _ from HXQ.out (needL ⟨t, d, v⟩ L pages) hnL (fun p hp => HPt.out p (List.mem_filter.1 hp).1) HQe.out)
      have kk := blk_belowN HKc.out HB.out
      have y0 := cell_blkN kk (i := 0) (v := strA t) rfl
      have y1 := cell_blkN kk (i := 1) (v := strA d) rfl
      have y2 := cell_blkN kk (i := 2) (v := .int .i64 v) rfl
      have HRo := (show Hid (RfsN wo (.slice a1 L.length c1) L) from HRc.out.below HB.out)
      generalize needL ⟨t, d, v⟩ L pages = P1 at *
      clear HXQ HQe kk hkl hnL HPt HRc HKc HP HB
      go_wp2_with (go_at_call 16; refine Calls.mono (XB.out wo _ HBw.out (pgs_row HOw.out)) ?_)
      first | (intro e w2 v2 he h2 hb2; subst he) | (rintro e w2 ⟨v2, rfl, h2⟩ hb2) | (rintro e w2 ⟨⟨v2, rfl, h2⟩, hb2⟩)
      obtain ⟨a2', c2, hv2⟩ := nrow_len h2
      subst hv2
      have HBw2 := (show Hid (Below w.heap.size w w2) from HBw.out.trans (hb2.mono HBw.out.size))
      have HR2 := (show Hid (RfsN w2 (.slice a2' L.length c2) L) from rfs_row h2)
      have HR12 := (show Hid (RfsN w2 (.slice a1 L.length c1) L) from HRo.out.below hb2)
      clear y0 y1 y2 h2 hb2 XB HRo HBw HOw
      go_wp2_with (go_at_call 17; refine Calls.mono (HRf.out L _ _ w2 HXl.out HR12.out HR2.out) ?_)
      first | (intro e w4 he hb4; subst he) | (rintro e w4 ⟨rfl, hb4⟩)
      have HBw4 := (show Hid (Below w.heap.size w w4) from HBw2.out.trans (hb4.mono HBw2.out.size))
      have e1 : (S == S) = true := by simp
      have hSi : (S.length : Int) ≤ 16384 := by have := HXs.out; omega
      clear hb4 HR2 HR12 HBw2 HRf
      go_wp2
      go_ret
      exact ⟨rfl, HBw4.out⟩
end Go.Proofs.YtkjicdldlnefeaaDoor
