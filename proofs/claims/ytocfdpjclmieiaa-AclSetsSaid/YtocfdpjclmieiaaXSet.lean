/- Set of the document's answer (layer 11); walked. -/
import Derived.Test.YtocfdpjclmieiaaXRight
import Derived.Test.YtocfdpjclmieiaaPlainSets
set_option linter.unusedVariables false
namespace Go.Proofs.Ytocfdpjclmieiaa
open Go.RowKit

theorem arow_keepsX {w w' : World} {B e s : Nat} {v : Value} {n : Nat} {xs : List Value} (h : w.ownsRow B e s v n xs) (hb : Below w.heap.size w w') : w'.ownsRow B e s v n xs := by
  refine ⟨h.1, ?_⟩
  rcases h.2 with hn | ⟨g, cap, cur, rfl, hB, hg, rest⟩
  · exact .inl hn
  · exact .inr ⟨g, cap, cur, rfl, hB, blk_belowA hg hb, rest⟩
theorem arow_baseX {w : World} {B B' e s : Nat} {v : Value} {n : Nat} {xs : List Value} (h : w.ownsRow B e s v n xs) (hB : B' ≤ B) : w.ownsRow B' e s v n xs := by
  refine ⟨h.1, ?_⟩
  rcases h.2 with hn | ⟨g, cap, cur, rfl, hb, rest⟩
  · exact .inl hn
  · exact .inr ⟨g, cap, cur, rfl, Nat.le_trans hB hb, rest⟩
/-- What Set answers. -/
def SetP (E : Int) (L : List GrA) (w : World) (e : Ending) (w' : World) : Prop := (if E = 0 then ∃ v', e = .returned (.tuple #[v', .int .i64 0]) ∧ w'.ownsRow w.heap.size 33 3 v' L.length (grCs L) else e = .returned (.tuple #[.slice none 0 0, .int .i64 E])) ∧ Below w.heap.size w w'
theorem setP_bad {E : Int} {L : List GrA} {w w' : World} {e : Ending} (h : E ≠ 0) (he : e = .returned (.tuple #[.slice none 0 0, .int .i64 E])) (hb : Below w.heap.size w w') : SetP E L w e w' := ⟨by rw [if_neg h]; exact he, hb⟩
theorem setP_ok {E : Int} {L : List GrA} {w w' : World} {e : Ending} {v' : Value} (h : E = 0) (he : e = .returned (.tuple #[v', .int .i64 0])) (ho : w'.ownsRow w.heap.size 33 3 v' L.length (grCs L)) (hb : Below w.heap.size w w') : SetP E L w e w' := ⟨by rw [if_pos h]; exact ⟨v', he, ho⟩, hb⟩

set_option maxHeartbeats 16000000 in
set_option maxRecDepth 20000 in
theorem xset_any (l : List GrA) (hle : Lens2 l) (g : GrA) (h1 : g.tenant.length ≤ 9223372036854775000) (hg : g.who.length ≤ 9223372036854775000) (v : Value) (w : World) (hv : GrsAt w v l) : Calls Try.prog 15 #[v, aggA g] w fun e w' => SetP (errA l g) (setL l g) w e w' := by
  have HR : Hid (∀ u, Below w.heap.size w u → Calls Try.prog 12 #[v] u fun e w' => e = .returned (.bool (rightA l)) ∧ Below u.heap.size u w') := fun u hu => xright_any l hle v u (hv.below hu)
  have HM0 : Hid (∀ u, Calls Try.prog 24 #[aggA g] u fun e w' => e = .returned (.bool (keyA g)) ∧ Below u.heap.size u w') := fun u => xmay0_any g h1 hg u
  have HK0 : Hid (∀ u x, Calls Try.prog 25 #[aggA g, aggA x] u fun e w' => e = .returned (.bool (decide (ordL g x < 0))) ∧ Below u.heap.size u w') := fun u x => xbelow_any g x u
  have HE1 : Hid (rightA l = false ∨ fitsA g 0 = false → errA l g = 1) := fun q => by unfold errA; rw [if_pos q]
  have HE2 : Hid (rightA l = true → fitsA g 0 = true → errA l g = if hasL l g = false ∧ 64 < (setL l g).length then 11 else 0) := fun q1 q2 => many_is q1 q2
  have HFk := (show Hid (fitsA g 0 = (keyA g && decide (0 ≤ g.right) && decide (g.right ≤ 3))) from fits_key g 0)
  have HAs : Hid (rightA l = true → l.length ≤ 64 ∧ Asc l) := fun q => ⟨(right_asc q).1, (right_asc q).2.2⟩
  have HSt1 : Hid (Asc l → ∀ (k : Nat) (x : GrA), l[k]? = some x → ordL x g = 0 → outK l g (k + 1) = outK l g k ++ gainA g ∧ doneK l g (k + 1) = true ∧ hadK l g (k + 1) = true ∧ doneK l g k = decide (g.right = 0)) := fun hs k x hx q => step_eq hs hx q
  have HSt2 : Hid (Asc l → ∀ (k : Nat) (x : GrA), l[k]? = some x → ordL x g < 0 → outK l g (k + 1) = outK l g k ++ [x] ∧ doneK l g (k + 1) = doneK l g k ∧ hadK l g (k + 1) = hadK l g k) := fun hs k x hx q => step_less hs hx q
  have HSt3 : Hid (Asc l → ∀ (k : Nat) (x : GrA), l[k]? = some x → 0 < ordL x g → hadK l g (k + 1) = hadK l g k ∧ doneK l g (k + 1) = true ∧ (doneK l g k = false → outK l g (k + 1) = outK l g k ++ [g] ++ [x]) ∧ (doneK l g k = true → outK l g (k + 1) = outK l g k ++ [x])) := fun hs k x hx q => step_more hs hx q
  have HEn1 : Hid (doneK l g l.length = false → setL l g = outK l g l.length ++ [g]) := end_not
  have HEn2 : Hid (doneK l g l.length = true → setL l g = outK l g l.length) := end_done
  have HEn3 := (show Hid (hadK l g l.length = hasL l g) from had_end l g)
  have HLn := (show Hid (∀ k, (outK l g k).length ≤ k + 1) from outK_len l g)
  have HZ1 := (show Hid (outK l g 0 = []) from outK_zero l g)
  have HZ2 := (show Hid (doneK l g 0 = decide (g.right = 0)) from doneK_zero l g)
  have HZ3 := (show Hid (hadK l g 0 = false) from hadK_zero l g)
  have HGA : Hid (gainA g = if g.right ≠ 0 then [g] else []) := rfl
  have HSw : Hid (∀ x, ordL x g = - ordL g x) := fun x => ord_swap g x
  have HT3 : Hid (∀ x, ordL x g = -1 ∨ ordL x g = 0 ∨ ordL x g = 1) := fun x => ord_three x g
  have HSm : Hid (∀ x : GrA, x.tenant = g.tenant → x.who = g.who → ordL x g = 0) := fun x => ord_same
  have HEq : Hid (∀ x : GrA, ordL x g = 0 → x.tenant = g.tenant ∧ x.who = g.who) := fun x => ord_eq
  obtain ⟨g0, hg0⟩ : ∃ g0, g0 = g := ⟨_, rfl⟩
  rw [← hg0] at HE1 HE2 HSt1 HSt2 HSt3 HEn1 HEn2 HEn3 HLn HZ1 HZ2 HZ3 HGA HSw HT3 HSm HEq HFk
  obtain ⟨t, h, r⟩ := g
  have hgt : g0.tenant = t := by rw [hg0]
  have hgw : g0.who = h := by rw [hg0]
  have hgr : g0.right = r := by rw [hg0]
  have HG0 := (show Hid (g0 = ⟨t, h, r⟩) from hg0)
  have HM : Hid (∀ u, Calls Try.prog 24 #[.agg #[strA t, strA h, .int .i64 r]] u fun e w' => e = .returned (.bool (keyA ⟨t, h, r⟩)) ∧ Below u.heap.size u w') := HM0
  have HK : Hid (∀ u xt xw xr, Calls Try.prog 25 #[.agg #[strA t, strA h, .int .i64 r], .agg #[strA xt, strA xw, .int .i64 xr]] u fun e w' => e = .returned (.bool (decide (ordL g0 ⟨xt, xw, xr⟩ < 0))) ∧ Below u.heap.size u w') := fun u xt xw xr => by rw [hg0]; exact HK0.out u ⟨xt, xw, xr⟩
  rw [hgr] at HFk HSt1 HZ2 HGA
  rw [hgt, hgw] at HSm HEq
  have hkey : keyA g0 = keyA ⟨t, h, r⟩ := by rw [hg0]
  rw [hkey] at HFk
  show Calls Try.prog 15 #[v, .agg #[strA t, strA h, .int .i64 r]] w fun e w' => SetP (errA l ⟨t, h, r⟩) (setL l ⟨t, h, r⟩) w e w'
  rw [← hg0]
  clear HM0 HK0 hkey hg0 hgt hgw hgr h1 hg hle
  have HV := (show Hid (GrsAt w v l) from hv)
  obtain ⟨a, cap, rfl, hc⟩ := hv
  clear hc
  generalize keyA ⟨t, h, r⟩ = KA at *
  obtain ⟨E, HE⟩ : ∃ E, Hid (E = errA l g0) := ⟨_, rfl⟩
  rw [← HE.out] at HE1 HE2 ⊢
  obtain ⟨SL, HSL⟩ : ∃ SL, Hid (SL = setL l g0) := ⟨_, rfl⟩
  rw [← HSL.out] at HE2 HEn1 HEn2 ⊢
  clear HE HSL
  have HA1 : Hid (Below w.heap.size w (w.alloc (.cells #[strA t, strA h, .int .i64 r] 33))) := (Below.refl _ _).alloc (Nat.le_refl _) _
  have HKB : Hid ((w.alloc (.cells #[strA t, strA h, .int .i64 r] 33)).heap[w.heap.size]? = some (.cells #[strA t, strA h, .int .i64 r] 33 (0, 0))) := blk_new _ _ _
  generalize rightA l = RA at *
  generalize fitsA g0 0 = FI at *
  go_enter Try.func15, Try.ntmps15
  go_wp2_with (go_at_call 12; refine Calls.mono (HR.out _ HA1.out) ?_)
  rintro e u1 ⟨rfl, hb1⟩
  have HB1 := (show Hid (Below w.heap.size w u1) from HA1.out.trans (hb1.mono HA1.out.size))
  have hk1 := blk_belowA HKB.out hb1
  have c0 : u1.cell? ⟨w.heap.size, 0, none⟩ = some (strA t) := cell_blkA hk1 (i := 0) rfl
  have c1 : u1.cell? ⟨w.heap.size, 1, none⟩ = some (strA h) := cell_blkA hk1 (i := 1) rfl
  have c2 : u1.cell? ⟨w.heap.size, 2, none⟩ = some (.int .i64 r) := cell_blkA hk1 (i := 2) rfl
  have HK1 := (show Hid _ from hk1)
  clear hb1 hk1 HKB HA1 HR
  go_wp2_with (go_at_call 24; refine Calls.mono (HM.out _) ?_)
  rintro e u2 ⟨rfl, hb2⟩
  have HB2 := (show Hid (Below w.heap.size w u2) from HB1.out.trans (hb2.mono HB1.out.size))
  have hk2 := blk_belowA HK1.out hb2
  have HG : Hid (∀ u, Below u2.heap.size u2 u → u.cell? ⟨w.heap.size, 0, none⟩ = some (strA t) ∧ u.cell? ⟨w.heap.size, 1, none⟩ = some (strA h) ∧ u.cell? ⟨w.heap.size, 2, none⟩ = some (.int .i64 r)) := fun u hu => ⟨cell_blkA (blk_belowA hk2 hu) (i := 0) rfl, cell_blkA (blk_belowA hk2 hu) (i := 1) rfl, cell_blkA (blk_belowA hk2 hu) (i := 2) rfl⟩
  have HC : Hid (∀ i x, l[i]? = some x → ∃ b o, a = some ⟨b, o, none⟩ ∧ ∀ u, Below u2.heap.size u2 u → u.cell? ⟨b, o + i * 3, none⟩ = some (strA x.tenant) ∧ u.cell? ⟨b, o + i * 3 + 1, none⟩ = some (strA x.who) ∧ u.cell? ⟨b, o + i * 3 + 2, none⟩ = some (.int .i64 x.right)) := fun i x hx => by
    obtain ⟨a', cap', e, hc⟩ := HV.out
    cases e
    obtain ⟨b, o, e, hbw, q0, q1, q2⟩ := hc i x hx
    refine ⟨b, o, e, fun u hu => ?_⟩
    have hwu := HB2.out.trans (hu.mono HB2.out.size)
    exact ⟨(hwu.cell (p := ⟨b, o + i * 3, none⟩) hbw).trans q0, (hwu.cell (p := ⟨b, o + i * 3 + 1, none⟩) hbw).trans q1, (hwu.cell (p := ⟨b, o + i * 3 + 2, none⟩) hbw).trans q2⟩
  have z2 : u2.cell? ⟨w.heap.size, 2, none⟩ = some (.int .i64 r) := (HG.out u2 (Below.refl _ _)).2.2
  clear c0 c1 c2 HK1 hb2 hk2 HB1 HM HV
  cases RA
  · have HE := (show Hid (E = 1) from HE1.out (.inl rfl))
    clear HE1 HE2 HFk HAs HSt1 HSt2 HSt3 HEn1 HEn2 HEn3 HLn HZ1 HZ2 HZ3 HGA HSw HT3 HSm HEq HK HG HC
    go_wp2
    go_ret2
    exact setP_bad (by rw [HE.out]; decide) (by rw [HE.out]; rfl) HB2.out
  cases KA
  · have HE := (show Hid (E = 1) from HE1.out (.inr (by rw [HFk.out]; rfl)))
    clear HE1 HE2 HFk HAs HSt1 HSt2 HSt3 HEn1 HEn2 HEn3 HLn HZ1 HZ2 HZ3 HGA HSw HT3 HSm HEq HK HG HC
    go_wp2
    go_ret2
    exact setP_bad (by rw [HE.out]; decide) (by rw [HE.out]; rfl) HB2.out
  by_cases hr0 : r < 0
  · have HE := (show Hid (E = 1) from HE1.out (.inr (by rw [HFk.out]; simp; omega)))
    clear HE1 HE2 HFk HAs HSt1 HSt2 HSt3 HEn1 HEn2 HEn3 HLn HZ1 HZ2 HZ3 HGA HSw HT3 HSm HEq HK HG HC
    go_wp2
    go_ret2
    exact setP_bad (by rw [HE.out]; decide) (by rw [HE.out]; rfl) HB2.out
  by_cases hr3 : 3 < r
  · have HE := (show Hid (E = 1) from HE1.out (.inr (by rw [HFk.out]; simp; omega)))
    clear HE1 HE2 HFk HAs HSt1 HSt2 HSt3 HEn1 HEn2 HEn3 HLn HZ1 HZ2 HZ3 HGA HSw HT3 HSm HEq HK HG HC
    go_wp2
    go_ret2
    exact setP_bad (by rw [HE.out]; decide) (by rw [HE.out]; rfl) HB2.out
  have hFI : FI = true := by rw [HFk.out]; simp; omega
  obtain ⟨h64, hasc⟩ := HAs.out rfl
  have HEE := (show Hid (E = if hasL l g0 = false ∧ 64 < SL.length then 11 else 0) from HE2.out rfl hFI)
  have hS1 := HSt1.out hasc
  have hS2 := HSt2.out hasc
  have hS3 := HSt3.out hasc
  have HS1 := (show Hid (∀ (k : Nat) (x : GrA), l[k]? = some x → ordL x g0 = 0 → outK l g0 (k + 1) = outK l g0 k ++ gainA g0 ∧ doneK l g0 (k + 1) = true ∧ hadK l g0 (k + 1) = true ∧ doneK l g0 k = decide (r = 0)) from hS1)
  have HS2 := (show Hid (∀ (k : Nat) (x : GrA), l[k]? = some x → ordL x g0 < 0 → outK l g0 (k + 1) = outK l g0 k ++ [x] ∧ doneK l g0 (k + 1) = doneK l g0 k ∧ hadK l g0 (k + 1) = hadK l g0 k) from hS2)
  have HS3 := (show Hid (∀ (k : Nat) (x : GrA), l[k]? = some x → 0 < ordL x g0 → hadK l g0 (k + 1) = hadK l g0 k ∧ doneK l g0 (k + 1) = true ∧ (doneK l g0 k = false → outK l g0 (k + 1) = outK l g0 k ++ [g0] ++ [x]) ∧ (doneK l g0 k = true → outK l g0 (k + 1) = outK l g0 k ++ [x])) from hS3)
  have hl64 : (l.length : Int) ≤ 64 := by omega
  obtain ⟨i0, hi, hz0, hz1, hz2⟩ := info_parts info11G
  clear HE1 HE2 HFk HAs HSt1 HSt2 HSt3 hS1 hS2 hS3 hFI hasc
  go_wp2
  go_loopw [8, 9, 10, 11] (fun x d p i wr => ∃ k : Nat, i = .int .i64 (k : Int) ∧ k ≤ l.length ∧ (∃ D, d = .bool D ∧ Hid (D = doneK l g0 k)) ∧ (∃ H, p = .bool H ∧ Hid (H = hadK l g0 k)) ∧ Hid (wr.ownsRow u2.heap.size 33 3 x (outK l g0 k).length (grCs (outK l g0 k))) ∧ Hid (Below u2.heap.size u2 wr)) (fun _ _ _ i _ => l.length - (intOf i).toNat)
  case atStart => exact ⟨0, rfl, Nat.zero_le _, ⟨_, rfl, (by show _ = _; rw [HZ2.out]; first | rfl | (by_cases q : r = 0 <;> simp [q]))⟩, ⟨_, rfl, HZ3.out.symm⟩, (by rw [HZ1.out]; exact World.ownsRow_nil _ _ _ _), Below.refl _ _⟩
  case round =>
    obtain ⟨k, rfl, hk, ⟨D, rfl, HD⟩, ⟨H, rfl, HH⟩, HOwr, HBwr⟩ := hrel
    obtain ⟨av, cv, hvv⟩ := arow_len HOwr.out
    subst hvv
    by_cases hlt : k < l.length
    · have hlt1 : (k : Int) < (l.length : Int) := by omega
      obtain ⟨x, hx⟩ : ∃ x, l[k]? = some x := ⟨_, List.getElem?_eq_getElem hlt⟩
      obtain ⟨b, o, ha, hcx⟩ := HC.out k x hx
      subst ha
      have HX0 := (show Hid (∀ u, Below u2.heap.size u2 u → u.cell? ⟨b, o + k * 3, none⟩ = some (strA x.tenant) ∧ u.cell? ⟨b, o + k * 3 + 1, none⟩ = some (strA x.who) ∧ u.cell? ⟨b, o + k * 3 + 2, none⟩ = some (.int .i64 x.right)) from hcx)
      have HT0 : Hid ((outK l g0 k).length ≤ 65) := by show _ ≤ _; have := HLn.out k; omega
      have HS1k := (show Hid (ordL x g0 = 0 → outK l g0 (k + 1) = outK l g0 k ++ gainA g0 ∧ doneK l g0 (k + 1) = true ∧ hadK l g0 (k + 1) = true ∧ doneK l g0 k = decide (r = 0)) from HS1.out k x hx)
      have HS2k := (show Hid (ordL x g0 < 0 → outK l g0 (k + 1) = outK l g0 k ++ [x] ∧ doneK l g0 (k + 1) = doneK l g0 k ∧ hadK l g0 (k + 1) = hadK l g0 k) from HS2.out k x hx)
      have HS3k := (show Hid (0 < ordL x g0 → hadK l g0 (k + 1) = hadK l g0 k ∧ doneK l g0 (k + 1) = true ∧ (doneK l g0 k = false → outK l g0 (k + 1) = outK l g0 k ++ [g0] ++ [x]) ∧ (doneK l g0 k = true → outK l g0 (k + 1) = outK l g0 k ++ [x])) from HS3.out k x hx)
      have HTh := (show Hid (ordL x g0 = -1 ∨ ordL x g0 = 0 ∨ ordL x g0 = 1) from HT3.out x)
      have HSwx := (show Hid (ordL x g0 = - ordL g0 x) from HSw.out x)
      have HSmx := (show Hid (x.tenant = t → x.who = h → ordL x g0 = 0) from HSm.out x)
      have HEqx := (show Hid (ordL x g0 = 0 → x.tenant = t ∧ x.who = h) from HEq.out x)
      clear hcx hx HC HS1 HS2 HS3 HT3 HSw HSm HEq HEn1 HEn2 HEn3 HLn HZ1 HZ2 HZ3 HEE z2
      obtain ⟨x0, hx0⟩ : ∃ x0, x0 = x := ⟨_, rfl⟩
      rw [← hx0] at HS1k HS2k HS3k HTh HSwx HSmx HEqx
      obtain ⟨xt, xw, xr⟩ := x
      have hxt : x0.tenant = xt := by rw [hx0]
      have hxw : x0.who = xw := by rw [hx0]
      rw [hxt, hxw] at HSmx HEqx
      have HX := (show Hid (∀ u, Below u2.heap.size u2 u → u.cell? ⟨b, o + k * 3, none⟩ = some (strA xt) ∧ u.cell? ⟨b, o + k * 3 + 1, none⟩ = some (strA xw) ∧ u.cell? ⟨b, o + k * 3 + 2, none⟩ = some (.int .i64 xr)) from HX0.out)
      have HX00 := (show Hid (x0 = ⟨xt, xw, xr⟩) from hx0)
      have HKx : Hid (∀ u, Calls Try.prog 25 #[.agg #[strA t, strA h, .int .i64 r], .agg #[strA xt, strA xw, .int .i64 xr]] u fun e w' => e = .returned (.bool (decide (ordL g0 x0 < 0))) ∧ Below u.heap.size u w') := fun u => by rw [hx0]; exact HK.out u xt xw xr
      clear hxt hxw hx0 HX0 HK
      obtain ⟨T0, hT0⟩ : ∃ T0, T0 = outK l g0 k := ⟨_, rfl⟩
      rw [← hT0] at HS1k HS2k HS3k HOwr HT0 ⊢
      have hT0l : T0.length ≤ 65 := HT0.out
      obtain ⟨T1, HT2⟩ : ∃ T1, Hid (outK l g0 (k + 1) = T1) := ⟨_, rfl⟩
      obtain ⟨D1, hD1⟩ : ∃ D1, doneK l g0 (k + 1) = D1 := ⟨_, rfl⟩
      obtain ⟨H1, hH1⟩ : ∃ H1, hadK l g0 (k + 1) = H1 := ⟨_, rfl⟩
      rw [HT2.out, hD1, hH1] at HS1k
      rw [HT2.out, hD1, hH1] at HS2k
      rw [HT2.out, hD1, hH1] at HS3k
      rw [← HD.out] at HS1k HS2k HS3k
      rw [← HH.out] at HS2k HS3k
      have HD2 : Hid (D1 = doneK l g0 (k + 1)) := hD1.symm
      have HH2 : Hid (H1 = hadK l g0 (k + 1)) := hH1.symm
      clear hT0 hD1 hH1 HD HH HT0
      by_cases hq : ordL x0 g0 = 0
      · obtain ⟨e1, e2⟩ := HEqx.out hq
        obtain ⟨p1, p2, p3, p4⟩ := HS1k.out hq
        subst p2
        subst p3
        have q1 : (xt == t) = true := by simpa using e1
        have q2 : (xw == h) = true := by simpa using e2
        have HP1 := (show Hid (T1 = T0 ++ gainA g0) from p1)
        have HP4 := (show Hid (D = decide (r = 0)) from p4)
        clear e1 e2 p1 p4 hq HS1k HS2k HS3k HTh HSwx HSmx HEqx HKx
        have fg0 : ∀ u : BwA wr, u.wo.cell? ⟨w.heap.size, 0, none⟩ = some (strA t) := fun u => (HG.out u.wo (HBwr.out.trans (u.is.mono HBwr.out.size))).1
        have fg1 : ∀ u : BwA wr, u.wo.cell? ⟨w.heap.size, 1, none⟩ = some (strA h) := fun u => (HG.out u.wo (HBwr.out.trans (u.is.mono HBwr.out.size))).2.1
        have fg2 : ∀ u : BwA wr, u.wo.cell? ⟨w.heap.size, 2, none⟩ = some (.int .i64 r) := fun u => (HG.out u.wo (HBwr.out.trans (u.is.mono HBwr.out.size))).2.2
        have fx0 : ∀ u : BwA wr, u.wo.cell? ⟨b, o + k * 3, none⟩ = some (strA xt) := fun u => (HX.out u.wo (HBwr.out.trans (u.is.mono HBwr.out.size))).1
        have fx1 : ∀ u : BwA wr, u.wo.cell? ⟨b, o + k * 3 + 1, none⟩ = some (strA xw) := fun u => (HX.out u.wo (HBwr.out.trans (u.is.mono HBwr.out.size))).2.1
        have fx2 : ∀ u : BwA wr, u.wo.cell? ⟨b, o + k * 3 + 2, none⟩ = some (.int .i64 xr) := fun u => (HX.out u.wo (HBwr.out.trans (u.is.mono HBwr.out.size))).2.2
        go_wp2
        refine region_classA (fun w' => ∃ u : BwA wr, w' = u.wo) (by kernel_rfl) (by kernel_rfl) (BwA.first wr) ?_
        haveI := BwA.some wr
        repeat (go_big_quiet_step (exact rfl))
        refine wpQuiet_nil ?_
        intro w5 hw5
        obtain ⟨uu, huu⟩ := hw5
        subst huu
        have HBw6 := (show Hid (Below u2.heap.size u2 uu.wo) from HBwr.out.trans (uu.is.mono HBwr.out.size))
        have HOw6 := (show Hid (World.ownsRow uu.wo u2.heap.size 33 3 (.slice av T0.length cv) T0.length (grCs T0)) from arow_keepsX HOwr.out uu.is)
        clear fg0 fg1 fg2 fx0 fx1 fx2 HOwr
        generalize uu.wo = w6 at *
        have y0 : w6.cell? ⟨w.heap.size, 0, none⟩ = some (strA t) := (HG.out w6 HBw6.out).1
        have y1 : w6.cell? ⟨w.heap.size, 1, none⟩ = some (strA h) := (HG.out w6 HBw6.out).2.1
        have y2 : w6.cell? ⟨w.heap.size, 2, none⟩ = some (.int .i64 r) := (HG.out w6 HBw6.out).2.2
        clear HBwr
        cases D
        · have hr : r ≠ 0 := by have := HP4.out; simpa using this.symm
          have hT1 : T1 = T0 ++ [(⟨t, h, r⟩ : GrA)] := by rw [HP1.out, HGA.out, if_pos hr, HG0.out]
          subst hT1
          clear hr HP1 HP4 HX HGA
          go_wp2_with (at_builtin; refine wpList_append_own_at _ rfl _ _ 22 rfl u2.heap.size 33 i0 (.agg #[.string ⟨#[]⟩, .string ⟨#[]⟩, .int .i64 0]) 3 40 Try.underlying22 hi hz0 hz1 hz2 rfl (by decide) _ _ _ rfl (World.ownsRow.alloc HOw6.out _) ⟨w6.heap.size, 0, none⟩ 1 1 [strA t, strA h, .int .i64 r] rfl rfl (lit_cells _ _ _) ?d3 ?d4 ?d5 ?d6 ?_)
          case d3 => first | (intro u hu; simp at hu; rcases hu with rfl | rfl | rfl <;> rfl) | exact ⟨rfl, rfl, rfl⟩
          case d4 => unfold maxLen; omega
          case d5 => omega
          case d6 => have := HBw6.out.size; simp; omega
          intro v3 w7 hown3 hgrow3 _ _
          have HBw7 := (show Hid (Below u2.heap.size u2 w7) from (HBw6.out.alloc HBw6.out.size _).grown hgrow3 (by have := HBw6.out.size; simp; omega) (fun k hk => (World.ownsRow.lt HOw6.out k hk).1))
          have HOw7 := (show Hid (w7.ownsRow u2.heap.size 33 3 v3 (T0 ++ [(⟨t, h, r⟩ : GrA)]).length (grCs (T0 ++ [(⟨t, h, r⟩ : GrA)]))) from (by rw [List.length_append, grCs_app]; exact hown3))
          obtain ⟨av3, cv3, hv3⟩ := arow_len HOw7.out
          subst hv3
          clear hown3 hgrow3 HOw6
          go_wp2
          go_roundw
          case rel => exact ⟨k + 1, by go_num, by omega, ⟨_, rfl, HD2⟩, ⟨_, rfl, HH2⟩, (by rw [HT2.out]; exact HOw7), HBw7⟩
          case measure => (simp [intOf]) <;> omega
        · have hr : r = 0 := by have := HP4.out; simpa using this.symm
          have hT1 : T1 = T0 := by rw [HP1.out, HGA.out, if_neg (by omega), List.append_nil]
          subst hT1
          clear hr HP1 HP4 HX HGA
          go_wp2
          go_roundw
          case rel => exact ⟨k + 1, by go_num, by omega, ⟨_, rfl, HD2⟩, ⟨_, rfl, HH2⟩, (by rw [HT2.out]; exact HOw6), HBw6⟩
          case measure => (simp [intOf]) <;> omega
      · have hne : (xt == t) = false ∨ ((xt == t) = true ∧ (xw == h) = false) := by
          by_cases q1 : xt = t
          · by_cases q2 : xw = h
            · exact absurd (HSmx.out q1 q2) hq
            · exact .inr ⟨by simpa using q1, by simpa using q2⟩
          · exact .inl (by simpa using q1)
        clear HS1k HSmx HEqx
        have hcase : (D = false ∧ decide (ordL g0 x0 < 0) = false ∧ T1 = T0 ++ [(⟨xt, xw, xr⟩ : GrA)] ∧ D1 = false ∧ H1 = H) ∨ (D = false ∧ decide (ordL g0 x0 < 0) = true ∧ T1 = T0 ++ [(⟨t, h, r⟩ : GrA)] ++ [(⟨xt, xw, xr⟩ : GrA)] ∧ D1 = true ∧ H1 = H) ∨ (D = true ∧ T1 = T0 ++ [(⟨xt, xw, xr⟩ : GrA)] ∧ D1 = true ∧ H1 = H) := by
          have hs := HSwx.out
          rcases HTh.out with q | q | q
          · obtain ⟨p1, p2, p3⟩ := HS2k.out (by omega)
            cases D
            · exact .inl ⟨rfl, decide_eq_false (by omega), by rw [p1, HX00.out], p2, p3⟩
            · exact .inr (.inr ⟨rfl, by rw [p1, HX00.out], p2, p3⟩)
          · exact absurd q hq
          · obtain ⟨p1, p2, p3, p4⟩ := HS3k.out (by omega)
            cases D
            · exact .inr (.inl ⟨rfl, decide_eq_true (by omega), by rw [p3 rfl, HX00.out, HG0.out], p2, p1⟩)
            · exact .inr (.inr ⟨rfl, by rw [p4 rfl, HX00.out], p2, p1⟩)
        generalize decide (ordL g0 x0 < 0) = LB at *
        clear HS2k HS3k HTh HSwx hq HX00 HG0 HGA
        rcases hne with q1 | ⟨q1, q2⟩
        · skip
          have fg0 : ∀ u : BwA wr, u.wo.cell? ⟨w.heap.size, 0, none⟩ = some (strA t) := fun u => (HG.out u.wo (HBwr.out.trans (u.is.mono HBwr.out.size))).1
          have fg1 : ∀ u : BwA wr, u.wo.cell? ⟨w.heap.size, 1, none⟩ = some (strA h) := fun u => (HG.out u.wo (HBwr.out.trans (u.is.mono HBwr.out.size))).2.1
          have fg2 : ∀ u : BwA wr, u.wo.cell? ⟨w.heap.size, 2, none⟩ = some (.int .i64 r) := fun u => (HG.out u.wo (HBwr.out.trans (u.is.mono HBwr.out.size))).2.2
          have fx0 : ∀ u : BwA wr, u.wo.cell? ⟨b, o + k * 3, none⟩ = some (strA xt) := fun u => (HX.out u.wo (HBwr.out.trans (u.is.mono HBwr.out.size))).1
          have fx1 : ∀ u : BwA wr, u.wo.cell? ⟨b, o + k * 3 + 1, none⟩ = some (strA xw) := fun u => (HX.out u.wo (HBwr.out.trans (u.is.mono HBwr.out.size))).2.1
          have fx2 : ∀ u : BwA wr, u.wo.cell? ⟨b, o + k * 3 + 2, none⟩ = some (.int .i64 xr) := fun u => (HX.out u.wo (HBwr.out.trans (u.is.mono HBwr.out.size))).2.2
          go_wp2
          refine region_classA (fun w' => ∃ u : BwA wr, w' = u.wo) (by kernel_rfl) (by kernel_rfl) (BwA.first wr) ?_
          haveI := BwA.some wr
          repeat (go_big_quiet_step (exact rfl))
          refine wpQuiet_nil ?_
          intro w5 hw5
          obtain ⟨uu, huu⟩ := hw5
          subst huu
          have HBw6 := (show Hid (Below u2.heap.size u2 uu.wo) from HBwr.out.trans (uu.is.mono HBwr.out.size))
          have HOw6 := (show Hid (World.ownsRow uu.wo u2.heap.size 33 3 (.slice av T0.length cv) T0.length (grCs T0)) from arow_keepsX HOwr.out uu.is)
          clear fg0 fg1 fg2 fx0 fx1 fx2 HOwr
          generalize uu.wo = w6 at *
          rcases hcase with ⟨c1, c2, c3, c4, c5⟩ | ⟨c1, c2, c3, c4, c5⟩ | ⟨c1, c3, c4, c5⟩
          · subst c1
            subst c3
            subst c4
            subst c5
            subst c2
            have HKw : Hid (∀ u : BwA w6, Calls Try.prog 25 #[.agg #[strA t, strA h, .int .i64 r], .agg #[strA xt, strA xw, .int .i64 xr]] u.wo fun e w' => e = .returned (.bool false) ∧ ∃ u' : BwA w6, w' = u'.wo) := fun u => (HKx.out u.wo).mono fun e w' q => ⟨q.1, BwA.of (u.is.trans (q.2.mono u.is.size)), rfl⟩
            have fg0 : ∀ u : BwA w6, u.wo.cell? ⟨w.heap.size, 0, none⟩ = some (strA t) := fun u => (HG.out u.wo (HBw6.out.trans (u.is.mono HBw6.out.size))).1
            have fg1 : ∀ u : BwA w6, u.wo.cell? ⟨w.heap.size, 1, none⟩ = some (strA h) := fun u => (HG.out u.wo (HBw6.out.trans (u.is.mono HBw6.out.size))).2.1
            have fg2 : ∀ u : BwA w6, u.wo.cell? ⟨w.heap.size, 2, none⟩ = some (.int .i64 r) := fun u => (HG.out u.wo (HBw6.out.trans (u.is.mono HBw6.out.size))).2.2
            have fx0 : ∀ u : BwA w6, u.wo.cell? ⟨b, o + k * 3, none⟩ = some (strA xt) := fun u => (HX.out u.wo (HBw6.out.trans (u.is.mono HBw6.out.size))).1
            have fx1 : ∀ u : BwA w6, u.wo.cell? ⟨b, o + k * 3 + 1, none⟩ = some (strA xw) := fun u => (HX.out u.wo (HBw6.out.trans (u.is.mono HBw6.out.size))).2.1
            have fx2 : ∀ u : BwA w6, u.wo.cell? ⟨b, o + k * 3 + 2, none⟩ = some (.int .i64 xr) := fun u => (HX.out u.wo (HBw6.out.trans (u.is.mono HBw6.out.size))).2.2
            clear HKx HBwr
            go_wp2
            refine region_classA (fun w' => ∃ u : BwA w6, w' = u.wo) (by kernel_rfl) (by kernel_rfl) (BwA.first w6) ?_
            haveI := BwA.some w6
            repeat (go_big_quiet_step (first | (go_at_call 25; exact HKw.out _) | exact rfl))
            refine wpQuiet_nil ?_
            intro w5 hw5
            obtain ⟨uu, huu⟩ := hw5
            subst huu
            have HBw7 := (show Hid (Below u2.heap.size u2 uu.wo) from HBw6.out.trans (uu.is.mono HBw6.out.size))
            have HOw7 := (show Hid (World.ownsRow uu.wo u2.heap.size 33 3 (.slice av T0.length cv) T0.length (grCs T0)) from arow_keepsX HOw6.out uu.is)
            clear fg0 fg1 fg2 fx0 fx1 fx2 HOw6
            generalize uu.wo = w7 at *
            have y0 : w7.cell? ⟨w.heap.size, 0, none⟩ = some (strA t) := (HG.out w7 HBw7.out).1
            have y1 : w7.cell? ⟨w.heap.size, 1, none⟩ = some (strA h) := (HG.out w7 HBw7.out).2.1
            have y2 : w7.cell? ⟨w.heap.size, 2, none⟩ = some (.int .i64 r) := (HG.out w7 HBw7.out).2.2
            clear HKw
            have s0 : w7.cell? ⟨b, o + k * 3, none⟩ = some (strA xt) := (HX.out w7 HBw7.out).1
            have s1 : w7.cell? ⟨b, o + k * 3 + 1, none⟩ = some (strA xw) := (HX.out w7 HBw7.out).2.1
            have s2 : w7.cell? ⟨b, o + k * 3 + 2, none⟩ = some (.int .i64 xr) := (HX.out w7 HBw7.out).2.2
            clear HX
            go_wp2_with (at_builtin; refine wpList_append_own_at _ rfl _ _ 22 rfl u2.heap.size 33 i0 (.agg #[.string ⟨#[]⟩, .string ⟨#[]⟩, .int .i64 0]) 3 40 Try.underlying22 hi hz0 hz1 hz2 rfl (by decide) _ _ _ rfl (World.ownsRow.alloc HOw7.out _) ⟨w7.heap.size, 0, none⟩ 1 1 [strA xt, strA xw, .int .i64 xr] rfl rfl (lit_cells _ _ _) ?d3 ?d4 ?d5 ?d6 ?_)
            case d3 => first | (intro u hu; simp at hu; rcases hu with rfl | rfl | rfl <;> rfl) | exact ⟨rfl, rfl, rfl⟩
            case d4 => unfold maxLen; omega
            case d5 => omega
            case d6 => have := HBw7.out.size; simp; omega
            intro v3 w8 hown3 hgrow3 _ _
            have HBw8 := (show Hid (Below u2.heap.size u2 w8) from (HBw7.out.alloc HBw7.out.size _).grown hgrow3 (by have := HBw7.out.size; simp; omega) (fun k hk => (World.ownsRow.lt HOw7.out k hk).1))
            have HOw8 := (show Hid (w8.ownsRow u2.heap.size 33 3 v3 (T0 ++ [(⟨xt, xw, xr⟩ : GrA)]).length (grCs (T0 ++ [(⟨xt, xw, xr⟩ : GrA)]))) from (by rw [List.length_append, grCs_app]; exact hown3))
            obtain ⟨av3, cv3, hv3⟩ := arow_len HOw8.out
            subst hv3
            clear hown3 hgrow3 HOw7
            go_wp2
            go_roundw
            case rel => exact ⟨k + 1, by go_num, by omega, ⟨_, rfl, HD2⟩, ⟨_, rfl, HH2⟩, (by rw [HT2.out]; exact HOw8), HBw8⟩
            case measure => (simp [intOf]) <;> omega
          · subst c1
            subst c3
            subst c4
            subst c5
            subst c2
            have HKw : Hid (∀ u : BwA w6, Calls Try.prog 25 #[.agg #[strA t, strA h, .int .i64 r], .agg #[strA xt, strA xw, .int .i64 xr]] u.wo fun e w' => e = .returned (.bool true) ∧ ∃ u' : BwA w6, w' = u'.wo) := fun u => (HKx.out u.wo).mono fun e w' q => ⟨q.1, BwA.of (u.is.trans (q.2.mono u.is.size)), rfl⟩
            have fg0 : ∀ u : BwA w6, u.wo.cell? ⟨w.heap.size, 0, none⟩ = some (strA t) := fun u => (HG.out u.wo (HBw6.out.trans (u.is.mono HBw6.out.size))).1
            have fg1 : ∀ u : BwA w6, u.wo.cell? ⟨w.heap.size, 1, none⟩ = some (strA h) := fun u => (HG.out u.wo (HBw6.out.trans (u.is.mono HBw6.out.size))).2.1
            have fg2 : ∀ u : BwA w6, u.wo.cell? ⟨w.heap.size, 2, none⟩ = some (.int .i64 r) := fun u => (HG.out u.wo (HBw6.out.trans (u.is.mono HBw6.out.size))).2.2
            have fx0 : ∀ u : BwA w6, u.wo.cell? ⟨b, o + k * 3, none⟩ = some (strA xt) := fun u => (HX.out u.wo (HBw6.out.trans (u.is.mono HBw6.out.size))).1
            have fx1 : ∀ u : BwA w6, u.wo.cell? ⟨b, o + k * 3 + 1, none⟩ = some (strA xw) := fun u => (HX.out u.wo (HBw6.out.trans (u.is.mono HBw6.out.size))).2.1
            have fx2 : ∀ u : BwA w6, u.wo.cell? ⟨b, o + k * 3 + 2, none⟩ = some (.int .i64 xr) := fun u => (HX.out u.wo (HBw6.out.trans (u.is.mono HBw6.out.size))).2.2
            clear HKx HBwr
            go_wp2
            refine region_classA (fun w' => ∃ u : BwA w6, w' = u.wo) (by kernel_rfl) (by kernel_rfl) (BwA.first w6) ?_
            haveI := BwA.some w6
            repeat (go_big_quiet_step (first | (go_at_call 25; exact HKw.out _) | exact rfl))
            refine wpQuiet_nil ?_
            intro w5 hw5
            obtain ⟨uu, huu⟩ := hw5
            subst huu
            have HBw7 := (show Hid (Below u2.heap.size u2 uu.wo) from HBw6.out.trans (uu.is.mono HBw6.out.size))
            have HOw7 := (show Hid (World.ownsRow uu.wo u2.heap.size 33 3 (.slice av T0.length cv) T0.length (grCs T0)) from arow_keepsX HOw6.out uu.is)
            clear fg0 fg1 fg2 fx0 fx1 fx2 HOw6
            generalize uu.wo = w7 at *
            have y0 : w7.cell? ⟨w.heap.size, 0, none⟩ = some (strA t) := (HG.out w7 HBw7.out).1
            have y1 : w7.cell? ⟨w.heap.size, 1, none⟩ = some (strA h) := (HG.out w7 HBw7.out).2.1
            have y2 : w7.cell? ⟨w.heap.size, 2, none⟩ = some (.int .i64 r) := (HG.out w7 HBw7.out).2.2
            clear HKw
            go_wp2_with (at_builtin; refine wpList_append_own_at _ rfl _ _ 22 rfl u2.heap.size 33 i0 (.agg #[.string ⟨#[]⟩, .string ⟨#[]⟩, .int .i64 0]) 3 40 Try.underlying22 hi hz0 hz1 hz2 rfl (by decide) _ _ _ rfl (World.ownsRow.alloc HOw7.out _) ⟨w7.heap.size, 0, none⟩ 1 1 [strA t, strA h, .int .i64 r] rfl rfl (lit_cells _ _ _) ?d3 ?d4 ?d5 ?d6 ?_)
            case d3 => first | (intro u hu; simp at hu; rcases hu with rfl | rfl | rfl <;> rfl) | exact ⟨rfl, rfl, rfl⟩
            case d4 => unfold maxLen; omega
            case d5 => omega
            case d6 => have := HBw7.out.size; simp; omega
            intro v3 w8 hown3 hgrow3 _ _
            have HBw8 := (show Hid (Below u2.heap.size u2 w8) from (HBw7.out.alloc HBw7.out.size _).grown hgrow3 (by have := HBw7.out.size; simp; omega) (fun k hk => (World.ownsRow.lt HOw7.out k hk).1))
            have HOw8 := (show Hid (w8.ownsRow u2.heap.size 33 3 v3 (T0 ++ [(⟨t, h, r⟩ : GrA)]).length (grCs (T0 ++ [(⟨t, h, r⟩ : GrA)]))) from (by rw [List.length_append, grCs_app]; exact hown3))
            obtain ⟨av3, cv3, hv3⟩ := arow_len HOw8.out
            subst hv3
            clear hown3 hgrow3 HOw7
            have s0 : w8.cell? ⟨b, o + k * 3, none⟩ = some (strA xt) := (HX.out w8 HBw8.out).1
            have s1 : w8.cell? ⟨b, o + k * 3 + 1, none⟩ = some (strA xw) := (HX.out w8 HBw8.out).2.1
            have s2 : w8.cell? ⟨b, o + k * 3 + 2, none⟩ = some (.int .i64 xr) := (HX.out w8 HBw8.out).2.2
            obtain ⟨TT, hTT⟩ : ∃ TT, TT = T0 ++ [(⟨t, h, r⟩ : GrA)] := ⟨_, rfl⟩
            have hTTl : TT.length ≤ 66 := by rw [hTT, List.length_append]; simp; omega
            rw [← hTT] at HOw8 HT2 ⊢
            clear hTT HX HBw7
            go_wp2_with (at_builtin; refine wpList_append_own_at _ rfl _ _ 22 rfl u2.heap.size 33 i0 (.agg #[.string ⟨#[]⟩, .string ⟨#[]⟩, .int .i64 0]) 3 40 Try.underlying22 hi hz0 hz1 hz2 rfl (by decide) _ _ _ rfl (World.ownsRow.alloc HOw8.out _) ⟨w8.heap.size, 0, none⟩ 1 1 [strA xt, strA xw, .int .i64 xr] rfl rfl (lit_cells _ _ _) ?d3 ?d4 ?d5 ?d6 ?_)
            case d3 => first | (intro u hu; simp at hu; rcases hu with rfl | rfl | rfl <;> rfl) | exact ⟨rfl, rfl, rfl⟩
            case d4 => unfold maxLen; omega
            case d5 => omega
            case d6 => have := HBw8.out.size; simp; omega
            intro v3 w9 hown3 hgrow3 _ _
            have HBw9 := (show Hid (Below u2.heap.size u2 w9) from (HBw8.out.alloc HBw8.out.size _).grown hgrow3 (by have := HBw8.out.size; simp; omega) (fun k hk => (World.ownsRow.lt HOw8.out k hk).1))
            have HOw9 := (show Hid (w9.ownsRow u2.heap.size 33 3 v3 (TT ++ [(⟨xt, xw, xr⟩ : GrA)]).length (grCs (TT ++ [(⟨xt, xw, xr⟩ : GrA)]))) from (by rw [List.length_append, grCs_app]; exact hown3))
            obtain ⟨av3, cv3, hv3⟩ := arow_len HOw9.out
            subst hv3
            clear hown3 hgrow3 HOw8
            go_wp2
            go_roundw
            case rel => exact ⟨k + 1, by go_num, by omega, ⟨_, rfl, HD2⟩, ⟨_, rfl, HH2⟩, (by rw [HT2.out]; exact HOw9), HBw9⟩
            case measure => (simp [intOf]) <;> omega
          · subst c1
            subst c3
            subst c4
            subst c5
            have fg0 : ∀ u : BwA w6, u.wo.cell? ⟨w.heap.size, 0, none⟩ = some (strA t) := fun u => (HG.out u.wo (HBw6.out.trans (u.is.mono HBw6.out.size))).1
            have fg1 : ∀ u : BwA w6, u.wo.cell? ⟨w.heap.size, 1, none⟩ = some (strA h) := fun u => (HG.out u.wo (HBw6.out.trans (u.is.mono HBw6.out.size))).2.1
            have fg2 : ∀ u : BwA w6, u.wo.cell? ⟨w.heap.size, 2, none⟩ = some (.int .i64 r) := fun u => (HG.out u.wo (HBw6.out.trans (u.is.mono HBw6.out.size))).2.2
            have fx0 : ∀ u : BwA w6, u.wo.cell? ⟨b, o + k * 3, none⟩ = some (strA xt) := fun u => (HX.out u.wo (HBw6.out.trans (u.is.mono HBw6.out.size))).1
            have fx1 : ∀ u : BwA w6, u.wo.cell? ⟨b, o + k * 3 + 1, none⟩ = some (strA xw) := fun u => (HX.out u.wo (HBw6.out.trans (u.is.mono HBw6.out.size))).2.1
            have fx2 : ∀ u : BwA w6, u.wo.cell? ⟨b, o + k * 3 + 2, none⟩ = some (.int .i64 xr) := fun u => (HX.out u.wo (HBw6.out.trans (u.is.mono HBw6.out.size))).2.2
            clear HKx HBwr
            go_wp2
            refine region_classA (fun w' => ∃ u : BwA w6, w' = u.wo) (by kernel_rfl) (by kernel_rfl) (BwA.first w6) ?_
            haveI := BwA.some w6
            repeat (go_big_quiet_step (exact rfl))
            refine wpQuiet_nil ?_
            intro w5 hw5
            obtain ⟨uu, huu⟩ := hw5
            subst huu
            have HBw7 := (show Hid (Below u2.heap.size u2 uu.wo) from HBw6.out.trans (uu.is.mono HBw6.out.size))
            have HOw7 := (show Hid (World.ownsRow uu.wo u2.heap.size 33 3 (.slice av T0.length cv) T0.length (grCs T0)) from arow_keepsX HOw6.out uu.is)
            clear fg0 fg1 fg2 fx0 fx1 fx2 HOw6
            generalize uu.wo = w7 at *
            have y0 : w7.cell? ⟨w.heap.size, 0, none⟩ = some (strA t) := (HG.out w7 HBw7.out).1
            have y1 : w7.cell? ⟨w.heap.size, 1, none⟩ = some (strA h) := (HG.out w7 HBw7.out).2.1
            have y2 : w7.cell? ⟨w.heap.size, 2, none⟩ = some (.int .i64 r) := (HG.out w7 HBw7.out).2.2
            have s0 : w7.cell? ⟨b, o + k * 3, none⟩ = some (strA xt) := (HX.out w7 HBw7.out).1
            have s1 : w7.cell? ⟨b, o + k * 3 + 1, none⟩ = some (strA xw) := (HX.out w7 HBw7.out).2.1
            have s2 : w7.cell? ⟨b, o + k * 3 + 2, none⟩ = some (.int .i64 xr) := (HX.out w7 HBw7.out).2.2
            clear HX
            go_wp2_with (at_builtin; refine wpList_append_own_at _ rfl _ _ 22 rfl u2.heap.size 33 i0 (.agg #[.string ⟨#[]⟩, .string ⟨#[]⟩, .int .i64 0]) 3 40 Try.underlying22 hi hz0 hz1 hz2 rfl (by decide) _ _ _ rfl (World.ownsRow.alloc HOw7.out _) ⟨w7.heap.size, 0, none⟩ 1 1 [strA xt, strA xw, .int .i64 xr] rfl rfl (lit_cells _ _ _) ?d3 ?d4 ?d5 ?d6 ?_)
            case d3 => first | (intro u hu; simp at hu; rcases hu with rfl | rfl | rfl <;> rfl) | exact ⟨rfl, rfl, rfl⟩
            case d4 => unfold maxLen; omega
            case d5 => omega
            case d6 => have := HBw7.out.size; simp; omega
            intro v3 w8 hown3 hgrow3 _ _
            have HBw8 := (show Hid (Below u2.heap.size u2 w8) from (HBw7.out.alloc HBw7.out.size _).grown hgrow3 (by have := HBw7.out.size; simp; omega) (fun k hk => (World.ownsRow.lt HOw7.out k hk).1))
            have HOw8 := (show Hid (w8.ownsRow u2.heap.size 33 3 v3 (T0 ++ [(⟨xt, xw, xr⟩ : GrA)]).length (grCs (T0 ++ [(⟨xt, xw, xr⟩ : GrA)]))) from (by rw [List.length_append, grCs_app]; exact hown3))
            obtain ⟨av3, cv3, hv3⟩ := arow_len HOw8.out
            subst hv3
            clear hown3 hgrow3 HOw7
            go_wp2
            go_roundw
            case rel => exact ⟨k + 1, by go_num, by omega, ⟨_, rfl, HD2⟩, ⟨_, rfl, HH2⟩, (by rw [HT2.out]; exact HOw8), HBw8⟩
            case measure => (simp [intOf]) <;> omega
        · skip
          have fg0 : ∀ u : BwA wr, u.wo.cell? ⟨w.heap.size, 0, none⟩ = some (strA t) := fun u => (HG.out u.wo (HBwr.out.trans (u.is.mono HBwr.out.size))).1
          have fg1 : ∀ u : BwA wr, u.wo.cell? ⟨w.heap.size, 1, none⟩ = some (strA h) := fun u => (HG.out u.wo (HBwr.out.trans (u.is.mono HBwr.out.size))).2.1
          have fg2 : ∀ u : BwA wr, u.wo.cell? ⟨w.heap.size, 2, none⟩ = some (.int .i64 r) := fun u => (HG.out u.wo (HBwr.out.trans (u.is.mono HBwr.out.size))).2.2
          have fx0 : ∀ u : BwA wr, u.wo.cell? ⟨b, o + k * 3, none⟩ = some (strA xt) := fun u => (HX.out u.wo (HBwr.out.trans (u.is.mono HBwr.out.size))).1
          have fx1 : ∀ u : BwA wr, u.wo.cell? ⟨b, o + k * 3 + 1, none⟩ = some (strA xw) := fun u => (HX.out u.wo (HBwr.out.trans (u.is.mono HBwr.out.size))).2.1
          have fx2 : ∀ u : BwA wr, u.wo.cell? ⟨b, o + k * 3 + 2, none⟩ = some (.int .i64 xr) := fun u => (HX.out u.wo (HBwr.out.trans (u.is.mono HBwr.out.size))).2.2
          go_wp2
          refine region_classA (fun w' => ∃ u : BwA wr, w' = u.wo) (by kernel_rfl) (by kernel_rfl) (BwA.first wr) ?_
          haveI := BwA.some wr
          repeat (go_big_quiet_step (exact rfl))
          refine wpQuiet_nil ?_
          intro w5 hw5
          obtain ⟨uu, huu⟩ := hw5
          subst huu
          have HBw6 := (show Hid (Below u2.heap.size u2 uu.wo) from HBwr.out.trans (uu.is.mono HBwr.out.size))
          have HOw6 := (show Hid (World.ownsRow uu.wo u2.heap.size 33 3 (.slice av T0.length cv) T0.length (grCs T0)) from arow_keepsX HOwr.out uu.is)
          clear fg0 fg1 fg2 fx0 fx1 fx2 HOwr
          generalize uu.wo = w6 at *
          rcases hcase with ⟨c1, c2, c3, c4, c5⟩ | ⟨c1, c2, c3, c4, c5⟩ | ⟨c1, c3, c4, c5⟩
          · subst c1
            subst c3
            subst c4
            subst c5
            subst c2
            have HKw : Hid (∀ u : BwA w6, Calls Try.prog 25 #[.agg #[strA t, strA h, .int .i64 r], .agg #[strA xt, strA xw, .int .i64 xr]] u.wo fun e w' => e = .returned (.bool false) ∧ ∃ u' : BwA w6, w' = u'.wo) := fun u => (HKx.out u.wo).mono fun e w' q => ⟨q.1, BwA.of (u.is.trans (q.2.mono u.is.size)), rfl⟩
            have fg0 : ∀ u : BwA w6, u.wo.cell? ⟨w.heap.size, 0, none⟩ = some (strA t) := fun u => (HG.out u.wo (HBw6.out.trans (u.is.mono HBw6.out.size))).1
            have fg1 : ∀ u : BwA w6, u.wo.cell? ⟨w.heap.size, 1, none⟩ = some (strA h) := fun u => (HG.out u.wo (HBw6.out.trans (u.is.mono HBw6.out.size))).2.1
            have fg2 : ∀ u : BwA w6, u.wo.cell? ⟨w.heap.size, 2, none⟩ = some (.int .i64 r) := fun u => (HG.out u.wo (HBw6.out.trans (u.is.mono HBw6.out.size))).2.2
            have fx0 : ∀ u : BwA w6, u.wo.cell? ⟨b, o + k * 3, none⟩ = some (strA xt) := fun u => (HX.out u.wo (HBw6.out.trans (u.is.mono HBw6.out.size))).1
            have fx1 : ∀ u : BwA w6, u.wo.cell? ⟨b, o + k * 3 + 1, none⟩ = some (strA xw) := fun u => (HX.out u.wo (HBw6.out.trans (u.is.mono HBw6.out.size))).2.1
            have fx2 : ∀ u : BwA w6, u.wo.cell? ⟨b, o + k * 3 + 2, none⟩ = some (.int .i64 xr) := fun u => (HX.out u.wo (HBw6.out.trans (u.is.mono HBw6.out.size))).2.2
            clear HKx HBwr
            go_wp2
            refine region_classA (fun w' => ∃ u : BwA w6, w' = u.wo) (by kernel_rfl) (by kernel_rfl) (BwA.first w6) ?_
            haveI := BwA.some w6
            repeat (go_big_quiet_step (first | (go_at_call 25; exact HKw.out _) | exact rfl))
            refine wpQuiet_nil ?_
            intro w5 hw5
            obtain ⟨uu, huu⟩ := hw5
            subst huu
            have HBw7 := (show Hid (Below u2.heap.size u2 uu.wo) from HBw6.out.trans (uu.is.mono HBw6.out.size))
            have HOw7 := (show Hid (World.ownsRow uu.wo u2.heap.size 33 3 (.slice av T0.length cv) T0.length (grCs T0)) from arow_keepsX HOw6.out uu.is)
            clear fg0 fg1 fg2 fx0 fx1 fx2 HOw6
            generalize uu.wo = w7 at *
            have y0 : w7.cell? ⟨w.heap.size, 0, none⟩ = some (strA t) := (HG.out w7 HBw7.out).1
            have y1 : w7.cell? ⟨w.heap.size, 1, none⟩ = some (strA h) := (HG.out w7 HBw7.out).2.1
            have y2 : w7.cell? ⟨w.heap.size, 2, none⟩ = some (.int .i64 r) := (HG.out w7 HBw7.out).2.2
            clear HKw
            have s0 : w7.cell? ⟨b, o + k * 3, none⟩ = some (strA xt) := (HX.out w7 HBw7.out).1
            have s1 : w7.cell? ⟨b, o + k * 3 + 1, none⟩ = some (strA xw) := (HX.out w7 HBw7.out).2.1
            have s2 : w7.cell? ⟨b, o + k * 3 + 2, none⟩ = some (.int .i64 xr) := (HX.out w7 HBw7.out).2.2
            clear HX
            go_wp2_with (at_builtin; refine wpList_append_own_at _ rfl _ _ 22 rfl u2.heap.size 33 i0 (.agg #[.string ⟨#[]⟩, .string ⟨#[]⟩, .int .i64 0]) 3 40 Try.underlying22 hi hz0 hz1 hz2 rfl (by decide) _ _ _ rfl (World.ownsRow.alloc HOw7.out _) ⟨w7.heap.size, 0, none⟩ 1 1 [strA xt, strA xw, .int .i64 xr] rfl rfl (lit_cells _ _ _) ?d3 ?d4 ?d5 ?d6 ?_)
            case d3 => first | (intro u hu; simp at hu; rcases hu with rfl | rfl | rfl <;> rfl) | exact ⟨rfl, rfl, rfl⟩
            case d4 => unfold maxLen; omega
            case d5 => omega
            case d6 => have := HBw7.out.size; simp; omega
            intro v3 w8 hown3 hgrow3 _ _
            have HBw8 := (show Hid (Below u2.heap.size u2 w8) from (HBw7.out.alloc HBw7.out.size _).grown hgrow3 (by have := HBw7.out.size; simp; omega) (fun k hk => (World.ownsRow.lt HOw7.out k hk).1))
            have HOw8 := (show Hid (w8.ownsRow u2.heap.size 33 3 v3 (T0 ++ [(⟨xt, xw, xr⟩ : GrA)]).length (grCs (T0 ++ [(⟨xt, xw, xr⟩ : GrA)]))) from (by rw [List.length_append, grCs_app]; exact hown3))
            obtain ⟨av3, cv3, hv3⟩ := arow_len HOw8.out
            subst hv3
            clear hown3 hgrow3 HOw7
            go_wp2
            go_roundw
            case rel => exact ⟨k + 1, by go_num, by omega, ⟨_, rfl, HD2⟩, ⟨_, rfl, HH2⟩, (by rw [HT2.out]; exact HOw8), HBw8⟩
            case measure => (simp [intOf]) <;> omega
          · subst c1
            subst c3
            subst c4
            subst c5
            subst c2
            have HKw : Hid (∀ u : BwA w6, Calls Try.prog 25 #[.agg #[strA t, strA h, .int .i64 r], .agg #[strA xt, strA xw, .int .i64 xr]] u.wo fun e w' => e = .returned (.bool true) ∧ ∃ u' : BwA w6, w' = u'.wo) := fun u => (HKx.out u.wo).mono fun e w' q => ⟨q.1, BwA.of (u.is.trans (q.2.mono u.is.size)), rfl⟩
            have fg0 : ∀ u : BwA w6, u.wo.cell? ⟨w.heap.size, 0, none⟩ = some (strA t) := fun u => (HG.out u.wo (HBw6.out.trans (u.is.mono HBw6.out.size))).1
            have fg1 : ∀ u : BwA w6, u.wo.cell? ⟨w.heap.size, 1, none⟩ = some (strA h) := fun u => (HG.out u.wo (HBw6.out.trans (u.is.mono HBw6.out.size))).2.1
            have fg2 : ∀ u : BwA w6, u.wo.cell? ⟨w.heap.size, 2, none⟩ = some (.int .i64 r) := fun u => (HG.out u.wo (HBw6.out.trans (u.is.mono HBw6.out.size))).2.2
            have fx0 : ∀ u : BwA w6, u.wo.cell? ⟨b, o + k * 3, none⟩ = some (strA xt) := fun u => (HX.out u.wo (HBw6.out.trans (u.is.mono HBw6.out.size))).1
            have fx1 : ∀ u : BwA w6, u.wo.cell? ⟨b, o + k * 3 + 1, none⟩ = some (strA xw) := fun u => (HX.out u.wo (HBw6.out.trans (u.is.mono HBw6.out.size))).2.1
            have fx2 : ∀ u : BwA w6, u.wo.cell? ⟨b, o + k * 3 + 2, none⟩ = some (.int .i64 xr) := fun u => (HX.out u.wo (HBw6.out.trans (u.is.mono HBw6.out.size))).2.2
            clear HKx HBwr
            go_wp2
            refine region_classA (fun w' => ∃ u : BwA w6, w' = u.wo) (by kernel_rfl) (by kernel_rfl) (BwA.first w6) ?_
            haveI := BwA.some w6
            repeat (go_big_quiet_step (first | (go_at_call 25; exact HKw.out _) | exact rfl))
            refine wpQuiet_nil ?_
            intro w5 hw5
            obtain ⟨uu, huu⟩ := hw5
            subst huu
            have HBw7 := (show Hid (Below u2.heap.size u2 uu.wo) from HBw6.out.trans (uu.is.mono HBw6.out.size))
            have HOw7 := (show Hid (World.ownsRow uu.wo u2.heap.size 33 3 (.slice av T0.length cv) T0.length (grCs T0)) from arow_keepsX HOw6.out uu.is)
            clear fg0 fg1 fg2 fx0 fx1 fx2 HOw6
            generalize uu.wo = w7 at *
            have y0 : w7.cell? ⟨w.heap.size, 0, none⟩ = some (strA t) := (HG.out w7 HBw7.out).1
            have y1 : w7.cell? ⟨w.heap.size, 1, none⟩ = some (strA h) := (HG.out w7 HBw7.out).2.1
            have y2 : w7.cell? ⟨w.heap.size, 2, none⟩ = some (.int .i64 r) := (HG.out w7 HBw7.out).2.2
            clear HKw
            go_wp2_with (at_builtin; refine wpList_append_own_at _ rfl _ _ 22 rfl u2.heap.size 33 i0 (.agg #[.string ⟨#[]⟩, .string ⟨#[]⟩, .int .i64 0]) 3 40 Try.underlying22 hi hz0 hz1 hz2 rfl (by decide) _ _ _ rfl (World.ownsRow.alloc HOw7.out _) ⟨w7.heap.size, 0, none⟩ 1 1 [strA t, strA h, .int .i64 r] rfl rfl (lit_cells _ _ _) ?d3 ?d4 ?d5 ?d6 ?_)
            case d3 => first | (intro u hu; simp at hu; rcases hu with rfl | rfl | rfl <;> rfl) | exact ⟨rfl, rfl, rfl⟩
            case d4 => unfold maxLen; omega
            case d5 => omega
            case d6 => have := HBw7.out.size; simp; omega
            intro v3 w8 hown3 hgrow3 _ _
            have HBw8 := (show Hid (Below u2.heap.size u2 w8) from (HBw7.out.alloc HBw7.out.size _).grown hgrow3 (by have := HBw7.out.size; simp; omega) (fun k hk => (World.ownsRow.lt HOw7.out k hk).1))
            have HOw8 := (show Hid (w8.ownsRow u2.heap.size 33 3 v3 (T0 ++ [(⟨t, h, r⟩ : GrA)]).length (grCs (T0 ++ [(⟨t, h, r⟩ : GrA)]))) from (by rw [List.length_append, grCs_app]; exact hown3))
            obtain ⟨av3, cv3, hv3⟩ := arow_len HOw8.out
            subst hv3
            clear hown3 hgrow3 HOw7
            have s0 : w8.cell? ⟨b, o + k * 3, none⟩ = some (strA xt) := (HX.out w8 HBw8.out).1
            have s1 : w8.cell? ⟨b, o + k * 3 + 1, none⟩ = some (strA xw) := (HX.out w8 HBw8.out).2.1
            have s2 : w8.cell? ⟨b, o + k * 3 + 2, none⟩ = some (.int .i64 xr) := (HX.out w8 HBw8.out).2.2
            obtain ⟨TT, hTT⟩ : ∃ TT, TT = T0 ++ [(⟨t, h, r⟩ : GrA)] := ⟨_, rfl⟩
            have hTTl : TT.length ≤ 66 := by rw [hTT, List.length_append]; simp; omega
            rw [← hTT] at HOw8 HT2 ⊢
            clear hTT HX HBw7
            go_wp2_with (at_builtin; refine wpList_append_own_at _ rfl _ _ 22 rfl u2.heap.size 33 i0 (.agg #[.string ⟨#[]⟩, .string ⟨#[]⟩, .int .i64 0]) 3 40 Try.underlying22 hi hz0 hz1 hz2 rfl (by decide) _ _ _ rfl (World.ownsRow.alloc HOw8.out _) ⟨w8.heap.size, 0, none⟩ 1 1 [strA xt, strA xw, .int .i64 xr] rfl rfl (lit_cells _ _ _) ?d3 ?d4 ?d5 ?d6 ?_)
            case d3 => first | (intro u hu; simp at hu; rcases hu with rfl | rfl | rfl <;> rfl) | exact ⟨rfl, rfl, rfl⟩
            case d4 => unfold maxLen; omega
            case d5 => omega
            case d6 => have := HBw8.out.size; simp; omega
            intro v3 w9 hown3 hgrow3 _ _
            have HBw9 := (show Hid (Below u2.heap.size u2 w9) from (HBw8.out.alloc HBw8.out.size _).grown hgrow3 (by have := HBw8.out.size; simp; omega) (fun k hk => (World.ownsRow.lt HOw8.out k hk).1))
            have HOw9 := (show Hid (w9.ownsRow u2.heap.size 33 3 v3 (TT ++ [(⟨xt, xw, xr⟩ : GrA)]).length (grCs (TT ++ [(⟨xt, xw, xr⟩ : GrA)]))) from (by rw [List.length_append, grCs_app]; exact hown3))
            obtain ⟨av3, cv3, hv3⟩ := arow_len HOw9.out
            subst hv3
            clear hown3 hgrow3 HOw8
            go_wp2
            go_roundw
            case rel => exact ⟨k + 1, by go_num, by omega, ⟨_, rfl, HD2⟩, ⟨_, rfl, HH2⟩, (by rw [HT2.out]; exact HOw9), HBw9⟩
            case measure => (simp [intOf]) <;> omega
          · subst c1
            subst c3
            subst c4
            subst c5
            have fg0 : ∀ u : BwA w6, u.wo.cell? ⟨w.heap.size, 0, none⟩ = some (strA t) := fun u => (HG.out u.wo (HBw6.out.trans (u.is.mono HBw6.out.size))).1
            have fg1 : ∀ u : BwA w6, u.wo.cell? ⟨w.heap.size, 1, none⟩ = some (strA h) := fun u => (HG.out u.wo (HBw6.out.trans (u.is.mono HBw6.out.size))).2.1
            have fg2 : ∀ u : BwA w6, u.wo.cell? ⟨w.heap.size, 2, none⟩ = some (.int .i64 r) := fun u => (HG.out u.wo (HBw6.out.trans (u.is.mono HBw6.out.size))).2.2
            have fx0 : ∀ u : BwA w6, u.wo.cell? ⟨b, o + k * 3, none⟩ = some (strA xt) := fun u => (HX.out u.wo (HBw6.out.trans (u.is.mono HBw6.out.size))).1
            have fx1 : ∀ u : BwA w6, u.wo.cell? ⟨b, o + k * 3 + 1, none⟩ = some (strA xw) := fun u => (HX.out u.wo (HBw6.out.trans (u.is.mono HBw6.out.size))).2.1
            have fx2 : ∀ u : BwA w6, u.wo.cell? ⟨b, o + k * 3 + 2, none⟩ = some (.int .i64 xr) := fun u => (HX.out u.wo (HBw6.out.trans (u.is.mono HBw6.out.size))).2.2
            clear HKx HBwr
            go_wp2
            refine region_classA (fun w' => ∃ u : BwA w6, w' = u.wo) (by kernel_rfl) (by kernel_rfl) (BwA.first w6) ?_
            haveI := BwA.some w6
            repeat (go_big_quiet_step (exact rfl))
            refine wpQuiet_nil ?_
            intro w5 hw5
            obtain ⟨uu, huu⟩ := hw5
            subst huu
            have HBw7 := (show Hid (Below u2.heap.size u2 uu.wo) from HBw6.out.trans (uu.is.mono HBw6.out.size))
            have HOw7 := (show Hid (World.ownsRow uu.wo u2.heap.size 33 3 (.slice av T0.length cv) T0.length (grCs T0)) from arow_keepsX HOw6.out uu.is)
            clear fg0 fg1 fg2 fx0 fx1 fx2 HOw6
            generalize uu.wo = w7 at *
            have y0 : w7.cell? ⟨w.heap.size, 0, none⟩ = some (strA t) := (HG.out w7 HBw7.out).1
            have y1 : w7.cell? ⟨w.heap.size, 1, none⟩ = some (strA h) := (HG.out w7 HBw7.out).2.1
            have y2 : w7.cell? ⟨w.heap.size, 2, none⟩ = some (.int .i64 r) := (HG.out w7 HBw7.out).2.2
            have s0 : w7.cell? ⟨b, o + k * 3, none⟩ = some (strA xt) := (HX.out w7 HBw7.out).1
            have s1 : w7.cell? ⟨b, o + k * 3 + 1, none⟩ = some (strA xw) := (HX.out w7 HBw7.out).2.1
            have s2 : w7.cell? ⟨b, o + k * 3 + 2, none⟩ = some (.int .i64 xr) := (HX.out w7 HBw7.out).2.2
            clear HX
            go_wp2_with (at_builtin; refine wpList_append_own_at _ rfl _ _ 22 rfl u2.heap.size 33 i0 (.agg #[.string ⟨#[]⟩, .string ⟨#[]⟩, .int .i64 0]) 3 40 Try.underlying22 hi hz0 hz1 hz2 rfl (by decide) _ _ _ rfl (World.ownsRow.alloc HOw7.out _) ⟨w7.heap.size, 0, none⟩ 1 1 [strA xt, strA xw, .int .i64 xr] rfl rfl (lit_cells _ _ _) ?d3 ?d4 ?d5 ?d6 ?_)
            case d3 => first | (intro u hu; simp at hu; rcases hu with rfl | rfl | rfl <;> rfl) | exact ⟨rfl, rfl, rfl⟩
            case d4 => unfold maxLen; omega
            case d5 => omega
            case d6 => have := HBw7.out.size; simp; omega
            intro v3 w8 hown3 hgrow3 _ _
            have HBw8 := (show Hid (Below u2.heap.size u2 w8) from (HBw7.out.alloc HBw7.out.size _).grown hgrow3 (by have := HBw7.out.size; simp; omega) (fun k hk => (World.ownsRow.lt HOw7.out k hk).1))
            have HOw8 := (show Hid (w8.ownsRow u2.heap.size 33 3 v3 (T0 ++ [(⟨xt, xw, xr⟩ : GrA)]).length (grCs (T0 ++ [(⟨xt, xw, xr⟩ : GrA)]))) from (by rw [List.length_append, grCs_app]; exact hown3))
            obtain ⟨av3, cv3, hv3⟩ := arow_len HOw8.out
            subst hv3
            clear hown3 hgrow3 HOw7
            go_wp2
            go_roundw
            case rel => exact ⟨k + 1, by go_num, by omega, ⟨_, rfl, HD2⟩, ⟨_, rfl, HH2⟩, (by rw [HT2.out]; exact HOw8), HBw8⟩
            case measure => (simp [intOf]) <;> omega
    · have hlt1 : ¬ (k : Int) < (l.length : Int) := by omega
      obtain rfl : k = l.length := by omega
      have HLk : Hid ((outK l g0 l.length).length ≤ 65) := by show _ ≤ _; have := HLn.out l.length; omega
      have HDe := (show Hid (D = doneK l g0 l.length) from HD.out)
      have HHe : Hid (H = hasL l g0) := HH.out.trans HEn3.out
      rw [← HHe.out] at HEE
      rw [← HDe.out] at HEn1 HEn2
      clear HC HS1 HS2 HS3 HT3 HSw HSm HEq HEn3 HLn HZ1 HZ2 HZ3 HD HH HGA HDe HHe HK
      generalize outK l g0 l.length = T0 at *
      have hT0l : T0.length ≤ 65 := HLk.out
      have y0 : wr.cell? ⟨w.heap.size, 0, none⟩ = some (strA t) := (HG.out wr HBwr.out).1
      have y1 : wr.cell? ⟨w.heap.size, 1, none⟩ = some (strA h) := (HG.out wr HBwr.out).2.1
      have y2 : wr.cell? ⟨w.heap.size, 2, none⟩ = some (.int .i64 r) := (HG.out wr HBwr.out).2.2
      clear z2 HLk
      cases D
      · have hS : SL = T0 ++ [(⟨t, h, r⟩ : GrA)] := by rw [HEn1.out rfl, HG0.out]
        subst hS
        clear HEn1 HEn2 HG0
        go_wp2_with (at_builtin; refine wpList_append_own_at _ rfl _ _ 22 rfl u2.heap.size 33 i0 (.agg #[.string ⟨#[]⟩, .string ⟨#[]⟩, .int .i64 0]) 3 40 Try.underlying22 hi hz0 hz1 hz2 rfl (by decide) _ _ _ rfl (World.ownsRow.alloc HOwr.out _) ⟨wr.heap.size, 0, none⟩ 1 1 [strA t, strA h, .int .i64 r] rfl rfl (lit_cells _ _ _) ?d3 ?d4 ?d5 ?d6 ?_)
        case d3 => first | (intro u hu; simp at hu; rcases hu with rfl | rfl | rfl <;> rfl) | exact ⟨rfl, rfl, rfl⟩
        case d4 => unfold maxLen; omega
        case d5 => omega
        case d6 => have := HBwr.out.size; simp; omega
        intro v3 w8 hown3 hgrow3 _ _
        have HBw8 := (show Hid (Below u2.heap.size u2 w8) from (HBwr.out.alloc HBwr.out.size _).grown hgrow3 (by have := HBwr.out.size; simp; omega) (fun k hk => (World.ownsRow.lt HOwr.out k hk).1))
        have HOw8 := (show Hid (w8.ownsRow u2.heap.size 33 3 v3 (T0 ++ [(⟨t, h, r⟩ : GrA)]).length (grCs (T0 ++ [(⟨t, h, r⟩ : GrA)]))) from (by rw [List.length_append, grCs_app]; exact hown3))
        obtain ⟨av3, cv3, hv3⟩ := arow_len HOw8.out
        subst hv3
        clear hown3 hgrow3 HOwr
        obtain ⟨LL, hLL⟩ : ∃ LL, LL = T0 ++ [(⟨t, h, r⟩ : GrA)] := ⟨_, rfl⟩
        rw [← hLL] at HOw8 HEE ⊢
        have HLL := (show Hid (LL = T0 ++ [(⟨t, h, r⟩ : GrA)]) from hLL)
        clear hLL
        have HBf := (show Hid (Below w.heap.size w w8) from HB2.out.trans (HBw8.out.mono HB2.out.size))
        have HOf := (show Hid (World.ownsRow w8 w.heap.size 33 3 _ _ _) from arow_baseX HOw8.out HB2.out.size)
        clear HOw8 HBw8
        cases H
        · by_cases h65 : 64 < LL.length
          · have hE : Hid (E = 11) := by show _ = _; rw [HEE.out, if_pos ⟨rfl, h65⟩]
            have h65i : (64 : Int) < (LL.length : Int) := by omega
            clear HEE
            go_wp2
            go_ret2
            exact setP_bad (by rw [hE.out]; decide) (by rw [hE.out]; rfl) HBf.out
          · have hE : Hid (E = 0) := by show _ = _; rw [HEE.out, if_neg (fun q => h65 q.2)]
            have h65i : ¬ (64 : Int) < (LL.length : Int) := by omega
            clear HEE
            go_wp2
            go_ret2
            exact setP_ok (v' := .slice av3 LL.length cv3) hE.out rfl (by rw [← HLL.out]; exact HOf.out) HBf.out
        · have hE : Hid (E = 0) := by show _ = _; rw [HEE.out, if_neg (fun q => by cases q.1)]
          clear HEE
          go_wp2
          go_ret2
          exact setP_ok (v' := .slice av3 LL.length cv3) hE.out rfl (by rw [← HLL.out]; exact HOf.out) HBf.out
      · have hS : SL = T0 := HEn2.out rfl
        subst hS
        clear HEn1 HEn2 HG0
        obtain ⟨LL, hLL⟩ : ∃ LL, LL = SL := ⟨_, rfl⟩
        rw [← hLL] at HOwr HEE ⊢
        have HLL := (show Hid (LL = SL) from hLL)
        clear hLL
        have HBf := (show Hid (Below w.heap.size w wr) from HB2.out.trans (HBwr.out.mono HB2.out.size))
        have HOf := (show Hid (World.ownsRow wr w.heap.size 33 3 _ _ _) from arow_baseX HOwr.out HB2.out.size)
        clear HOwr HBwr
        cases H
        · by_cases h65 : 64 < LL.length
          · have hE : Hid (E = 11) := by show _ = _; rw [HEE.out, if_pos ⟨rfl, h65⟩]
            have h65i : (64 : Int) < (LL.length : Int) := by omega
            clear HEE
            go_wp2
            go_ret2
            exact setP_bad (by rw [hE.out]; decide) (by rw [hE.out]; rfl) HBf.out
          · have hE : Hid (E = 0) := by show _ = _; rw [HEE.out, if_neg (fun q => h65 q.2)]
            have h65i : ¬ (64 : Int) < (LL.length : Int) := by omega
            clear HEE
            go_wp2
            go_ret2
            exact setP_ok (v' := .slice av LL.length cv) hE.out rfl (by rw [← HLL.out]; exact HOf.out) HBf.out
        · have hE : Hid (E = 0) := by show _ = _; rw [HEE.out, if_neg (fun q => by cases q.1)]
          clear HEE
          go_wp2
          go_ret2
          exact setP_ok (v' := .slice av LL.length cv) hE.out rfl (by rw [← HLL.out]; exact HOf.out) HBf.out
end Go.Proofs.Ytocfdpjclmieiaa
