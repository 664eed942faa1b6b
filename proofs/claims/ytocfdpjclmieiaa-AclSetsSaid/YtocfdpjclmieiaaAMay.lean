/- granted, mayIn, May; walked. -/
import Derived.Test.YtocfdpjclmieiaaASearch
set_option linter.unusedVariables false
namespace Go.Proofs.Ytocfdpjclmieiaa
open Go.RowKit

theorem granted_at {l : List GrA} {g : GrA} (h : hasL l g = true) : ∃ x, l[posL l g]? = some x ∧ grantedL l g = x.right := by
  unfold hasL at h
  unfold grantedL
  cases hx : l[posL l g]? with
  | none => rw [hx] at h; cases h
  | some x =>
    rw [hx] at h
    simp only [beq_iff_eq] at h
    exact ⟨x, rfl, by simp only; rw [if_pos h]⟩
theorem granted_not {l : List GrA} {g : GrA} (h : hasL l g = false) : grantedL l g = 0 := by
  unfold hasL at h
  unfold grantedL
  cases hx : l[posL l g]? with
  | none => rfl
  | some x =>
    rw [hx] at h
    simp only [beq_eq_false_iff_ne] at h
    simp only
    rw [if_neg h]

set_option maxHeartbeats 4000000 in
set_option maxRecDepth 8000 in
theorem agranted_any (l : List GrA) (hl : l.length ≤ 64) (hs : Asc l) (t o : StrA) (v : Value) (w : World) (hv : GrsAt w v l) : Calls Try.prog 30 #[v, strA t, strA o] w fun e w' => e = .returned (.int .i64 (grantedL l { tenant := t, who := o })) ∧ Below w.heap.size w w' := by
  have HS : Hid (∀ u, Below w.heap.size w u → Calls Try.prog 26 #[v, .agg #[strA t, strA o, .int .i64 0], ordV] u fun e w' => e = .returned (.tuple #[.int .i64 (posL l { tenant := t, who := o } : Int), .bool (hasL l { tenant := t, who := o })]) ∧ Below u.heap.size u w') := fun u hu => asearch_any l hl hs { tenant := t, who := o } v u (hv.below hu)
  obtain ⟨a, cap, rfl, hc⟩ := hv
  have HC := (show Hid (∀ i g, l[i]? = some g → ∃ b o, a = some ⟨b, o, none⟩ ∧ b < w.heap.size ∧ w.cell? ⟨b, o + i * 3, none⟩ = some (strA g.tenant) ∧ w.cell? ⟨b, o + i * 3 + 1, none⟩ = some (strA g.who) ∧ w.cell? ⟨b, o + i * 3 + 2, none⟩ = some (.int .i64 g.right)) from hc)
  have HB0 : Hid (Below w.heap.size w w) := Below.refl _ _
  clear hc hs
  cases hh : hasL l { tenant := t, who := o }
  · have HG := (show Hid (grantedL l { tenant := t, who := o } = 0) from granted_not hh)
    rw [hh] at HS
    clear hh HC
    generalize grantedL l { tenant := t, who := o } = G at *
    generalize posL l { tenant := t, who := o } = P at *
    have hG : G = 0 := HG.out
    subst hG
    clear HG
    go_enter Try.func30, Try.ntmps30
    go_wp2_with (go_at_call 26; refine Calls.mono (HS.out _ HB0.out) ?_; rintro e u1 ⟨rfl, hb1⟩; have HB1 := (show Hid (Below _ _ _) from hb1); clear hb1)
    go_ret
    exact ⟨rfl, HB1.out⟩
  · obtain ⟨x, hx, hg⟩ := granted_at hh
    have HG := (show Hid (grantedL l { tenant := t, who := o } = x.right) from hg)
    obtain ⟨b, of, ha, hbw, c0, c1, c2⟩ := HC.out _ x hx
    have hlt := (List.getElem?_eq_some_iff.1 hx).1
    rw [hh] at HS
    clear hh HC hx hg
    generalize grantedL l { tenant := t, who := o } = G at *
    generalize posL l { tenant := t, who := o } = P at *
    have hG : G = x.right := HG.out
    subst hG
    subst ha
    have hlt1 : (P : Int) < (l.length : Int) := by omega
    clear HG
    generalize x.right = rr at *
    go_enter Try.func30, Try.ntmps30
    go_wp2_with (go_at_call 26; refine Calls.mono (HS.out _ HB0.out) ?_; rintro e u1 ⟨rfl, hb1⟩; have HB1 := (show Hid (Below _ _ _) from hb1); have d2 : u1.cell? ⟨b, of + P * 3 + 2, none⟩ = some (.int .i64 rr) := (hb1.cell (p := ⟨b, of + P * 3 + 2, none⟩) hbw).trans c2; clear hb1)
    go_ret
    exact ⟨rfl, HB1.out⟩

/-- What mayIn tells of grants that are right. -/
def mayInA (l : List GrA) (tenant who : StrA) : Int := match whoA who with
  | none => 0
  | some (home, own) => if nameA tenant = false then 0 else if home ≠ tenant then grantedL l { tenant := tenant, who := who } else if own = [114, 111, 111, 116] then 3 else 2
theorem mayIn_is (l : List GrA) (tenant who : StrA) : mayInA l tenant who = if (whoT who).2.2 = false then 0 else if nameA tenant = false then 0 else if (whoT who).1 ≠ tenant then grantedL l { tenant := tenant, who := who } else if (whoT who).2.1 = [114, 111, 111, 116] then 3 else 2 := by
  unfold mayInA whoT
  cases whoA who with
  | none => rfl
  | some p =>
    obtain ⟨a, b⟩ := p
    simp
theorem may_is (l : List GrA) (tenant who : StrA) : mayA l tenant who = if rightA l = false then 0 else mayInA l tenant who := rfl

set_option maxHeartbeats 4000000 in
set_option maxRecDepth 8000 in
theorem amayIn_any (l : List GrA) (hl : l.length ≤ 64) (hs : Asc l) (t o : StrA) (ho : o.length ≤ 9223372036854775000) (v : Value) (w : World) (hv : GrsAt w v l) : Calls Try.prog 21 #[v, strA t, strA o] w fun e w' => e = .returned (.int .i64 (mayInA l t o)) ∧ Below w.heap.size w w' := by
  have HM := (show Hid (mayInA l t o = if (whoT o).2.2 = false then 0 else if nameA t = false then 0 else if (whoT o).1 ≠ t then grantedL l { tenant := t, who := o } else if (whoT o).2.1 = [114, 111, 111, 116] then 3 else 2) from mayIn_is l t o)
  have HW : Hid (Calls Try.prog 6 #[strA o] w fun e w' => e = .returned (.tuple #[strA (whoT o).1, strA (whoT o).2.1, .bool (whoT o).2.2]) ∧ Below w.heap.size w w') := awho_any o ho w
  have HN : Hid (∀ u, Calls Try.prog 19 #[strA t] u fun e w' => e = .returned (.bool (nameA t)) ∧ w' = u) := fun u => aname_any t u
  have HG : Hid (∀ u, Below w.heap.size w u → Calls Try.prog 30 #[v, strA t, strA o] u fun e w' => e = .returned (.int .i64 (grantedL l { tenant := t, who := o })) ∧ Below u.heap.size u w') := fun u hu => agranted_any l hl hs t o v u (hv.below hu)
  clear hv hs ho
  generalize mayInA l t o = R at *
  generalize whoT o = R3 at *
  obtain ⟨ho, ow, ok⟩ := R3
  simp only at HM HW
  generalize nameA t = nt at *
  generalize grantedL l { tenant := t, who := o } = G at *
  cases ok
  · have hR : R = 0 := by rw [HM.out]; rfl
    subst hR
    clear HM
    go_enter Try.func21, Try.ntmps21
    go_wp2_with (go_at_call 6; refine Calls.mono HW.out ?_; rintro e u1 ⟨rfl, hb1⟩; have HB1 := (show Hid (Below _ _ _) from hb1); clear hb1)
    go_ret
    exact ⟨rfl, HB1.out⟩
  · cases nt
    · have hR : R = 0 := by rw [HM.out]; rfl
      subst hR
      clear HM
      go_enter Try.func21, Try.ntmps21
      go_wp2_with (first | (go_at_call 6; refine Calls.mono HW.out ?_; rintro e u1 ⟨rfl, hb1⟩; have HB1 := (show Hid (Below _ _ _) from hb1); clear hb1) | (go_at_call 19; refine Calls.mono (HN.out _) ?_; rintro e u2 ⟨rfl, hu⟩; subst hu))
      go_ret
      exact ⟨rfl, HB1.out⟩
    · by_cases hht : ho = t
      · have hb : (ho == t) = true := by simpa using hht
        have hb2 : (ho != t) = false := by simpa using hht
        by_cases hrt : ow = [114, 111, 111, 116]
        · have hR : R = 3 := by rw [HM.out]; simp [hht, hrt]
          have hc : (ow == [114, 111, 111, 116]) = true := by simpa using hrt
          subst hR
          clear HM hht hrt
          go_enter Try.func21, Try.ntmps21
          go_wp2_with (first | (go_at_call 6; refine Calls.mono HW.out ?_; rintro e u1 ⟨rfl, hb1⟩; have HB1 := (show Hid (Below _ _ _) from hb1); clear hb1) | (go_at_call 19; refine Calls.mono (HN.out _) ?_; rintro e u2 ⟨rfl, hu⟩; subst hu))
          go_ret
          exact ⟨rfl, HB1.out⟩
        · have hR : R = 2 := by rw [HM.out]; simp [hht, hrt]
          have hc : (ow == [114, 111, 111, 116]) = false := by simpa using hrt
          subst hR
          clear HM hht hrt
          go_enter Try.func21, Try.ntmps21
          go_wp2_with (first | (go_at_call 6; refine Calls.mono HW.out ?_; rintro e u1 ⟨rfl, hb1⟩; have HB1 := (show Hid (Below _ _ _) from hb1); clear hb1) | (go_at_call 19; refine Calls.mono (HN.out _) ?_; rintro e u2 ⟨rfl, hu⟩; subst hu))
          go_ret
          exact ⟨rfl, HB1.out⟩
      · have hb : (ho == t) = false := by simpa using hht
        have hb2 : (ho != t) = true := by simpa using hht
        have hR : R = G := by rw [HM.out]; simp [hht]
        subst hR
        clear HM hht
        go_enter Try.func21, Try.ntmps21
        go_wp2_with (first | (go_at_call 6; refine Calls.mono HW.out ?_; rintro e u1 ⟨rfl, hb1⟩; have HB1 := (show Hid (Below w.heap.size w u1) from hb1); clear hb1) | (go_at_call 19; refine Calls.mono (HN.out _) ?_; rintro e u2 ⟨rfl, hu⟩; subst hu) | (go_at_call 30; refine Calls.mono (HG.out _ HB1.out) ?_; rintro e u3 ⟨rfl, hb3⟩; have HB3 := (show Hid (Below w.heap.size w u3) from HB1.out.trans (hb3.mono HB1.out.size)); clear hb3))
        go_ret
        exact ⟨rfl, HB3.out⟩

set_option maxHeartbeats 4000000 in
theorem amay_any (l : List GrA) (hle : Lens l) (t o : StrA) (ho : o.length ≤ 9223372036854775000) (v : Value) (w : World) (hv : GrsAt w v l) : Calls Try.prog 13 #[v, strA t, strA o] w fun e w' => e = .returned (.int .i64 (mayA l t o)) ∧ Below w.heap.size w w' := by
  have HM := (show Hid (mayA l t o = if rightA l = false then 0 else mayInA l t o) from may_is l t o)
  have HR : Hid (Calls Try.prog 11 #[v] w fun e w' => e = .returned (.bool (rightA l)) ∧ Below w.heap.size w w') := aright_any l hle v w hv
  cases hr : rightA l
  · rw [hr] at HR HM
    generalize mayA l t o = R at *
    have hR : R = 0 := by rw [HM.out]; rfl
    subst hR
    clear HM hr hv hle
    go_enter Try.func13, Try.ntmps13
    go_wp2_with (go_at_call 11; refine Calls.mono HR.out ?_; rintro e u1 ⟨rfl, hb1⟩; have HB1 := (show Hid (Below w.heap.size w u1) from hb1); clear hb1)
    go_ret
    exact ⟨rfl, HB1.out⟩
  · obtain ⟨h64, _, hasc⟩ := right_asc hr
    have HI : Hid (∀ u, Below w.heap.size w u → Calls Try.prog 21 #[v, strA t, strA o] u fun e w' => e = .returned (.int .i64 (mayInA l t o)) ∧ Below u.heap.size u w') := fun u hu => amayIn_any l h64 hasc t o ho v u (hv.below hu)
    rw [hr] at HR HM
    generalize mayA l t o = R at *
    generalize mayInA l t o = R2 at *
    have hR : R = R2 := by rw [HM.out]; rfl
    subst hR
    clear HM hr hv hle hasc
    go_enter Try.func13, Try.ntmps13
    go_wp2_with (first | (go_at_call 11; refine Calls.mono HR.out ?_; rintro e u1 ⟨rfl, hb1⟩; have HB1 := (show Hid (Below w.heap.size w u1) from hb1); clear hb1) | (go_at_call 21; refine Calls.mono (HI.out _ HB1.out) ?_; rintro e u3 ⟨rfl, hb3⟩; have HB3 := (show Hid (Below w.heap.size w u3) from HB1.out.trans (hb3.mono HB1.out.size)); clear hb3))
    go_ret
    exact ⟨rfl, HB3.out⟩
end Go.Proofs.Ytocfdpjclmieiaa
