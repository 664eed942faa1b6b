/- AclTells: who may do what is told in one way; walked. -/
import Derived.Test.YtocfdpjclmieiaaATexts
set_option linter.unusedVariables false
namespace Go.Proofs.Ytocfdpjclmieiaa
open Go.RowKit

theorem lens_of2 {l : List GrA} (h : Lens2 l) : Lens l := fun g hg => (h g hg).2
theorem tenL_len (l : List GrA) (who : StrA) (all : List StrA) : (tenL l who all).length ≤ all.length := List.length_filter_le _ _
set_option maxHeartbeats 8000000 in
set_option maxRecDepth 20000 in
theorem wtells11 (l : List GrA) (hle : Lens2 l) (a : Option Addr) (cap : Nat) (all : List StrA) (hal : ∀ s ∈ all, s.length ≤ 9223372036854775000) (a2 : Option Addr) (cap2 : Nat) (T O : StrA) (hT : T.length ≤ 9223372036854775000) (hO : O.length ≤ 9223372036854775000) (w : World) (hv : GrsAt w (.slice a l.length cap) l) (hv2 : StrsAt w (.slice a2 all.length cap2) all) :
    Calls Try.prog 3 #[.slice a l.length cap, .slice a2 all.length cap2, strA T, strA O] w fun e w' => e = .returned (.bool true) ∧ Below w.heap.size w w' := by
  have HS : Hid (Calls Try.prog 5 #[] w fun e w' => e = .returned (.bool true) ∧ Below w.heap.size w w') := ashown_any w
  by_cases h200 : 200 < l.length
  · have hi : (200 : Int) < (l.length : Int) := by omega
    clear hv hv2 hle hal
    go_enter Try.func3, Try.ntmps3
    go_wp2_with (go_at_call 5; refine Calls.mono HS.out ?_; rintro e u1 ⟨rfl, hb1⟩; have HB1 := (show Hid (Below w.heap.size w u1) from hb1); clear hb1)
    go_ret
    exact ⟨rfl, HB1.out⟩
  by_cases h100 : 100 < all.length
  · have hi : ¬ (200 : Int) < (l.length : Int) := by omega
    have hi2 : (100 : Int) < (all.length : Int) := by omega
    clear hv hv2 hle hal
    go_enter Try.func3, Try.ntmps3
    go_wp2_with (go_at_call 5; refine Calls.mono HS.out ?_; rintro e u1 ⟨rfl, hb1⟩; have HB1 := (show Hid (Below w.heap.size w u1) from hb1); clear hb1)
    go_ret
    exact ⟨rfl, HB1.out⟩
  have hi : ¬ (200 : Int) < (l.length : Int) := by omega
  have hi2 : ¬ (100 : Int) < (all.length : Int) := by omega
  have hal2 : all.length ≤ 100 := by omega
  have HW1 : Hid (∀ u, Calls Try.prog 6 #[strA O] u fun e w' => e = .returned (.tuple #[strA (whoT O).1, strA (whoT O).2.1, .bool (whoT O).2.2]) ∧ Below u.heap.size u w') := fun u => awho_any O hO u
  have HW2 : Hid (∀ u, Calls Try.prog 7 #[strA O] u fun e w' => e = .returned (.tuple #[strA (whoT O).1, strA (whoT O).2.1, .bool (whoT O).2.2]) ∧ Below u.heap.size u w') := fun u => xwho_any O hO u
  have HT1 : Hid (∀ u, Below w.heap.size w u → Calls Try.prog 8 #[.slice a l.length cap, .slice a2 all.length cap2, strA O] u fun e w' => (∃ v', e = .returned v' ∧ w'.ownsRow u.heap.size 9 1 v' (tenL l O all).length ((tenL l O all).map strA)) ∧ Below u.heap.size u w') := fun u hu => aten_any l (lens_of2 hle) all hal2 O hO _ _ u (hv.below hu) (hv2.below hu)
  have HT2 : Hid (∀ u, Below w.heap.size w u → Calls Try.prog 10 #[.slice a l.length cap, .slice a2 all.length cap2, strA O] u fun e w' => (∃ v', e = .returned v' ∧ w'.ownsRow u.heap.size 9 1 v' (tenL l O all).length ((tenL l O all).map strA)) ∧ Below u.heap.size u w') := fun u hu => xten_any l hle all hal hal2 O hO _ _ u (hv.below hu) (hv2.below hu)
  have HR1 : Hid (∀ u, Below w.heap.size w u → Calls Try.prog 11 #[.slice a l.length cap] u fun e w' => e = .returned (.bool (rightA l)) ∧ Below u.heap.size u w') := fun u hu => aright_any l (lens_of2 hle) _ u (hv.below hu)
  have HR2 : Hid (∀ u, Below w.heap.size w u → Calls Try.prog 12 #[.slice a l.length cap] u fun e w' => e = .returned (.bool (rightA l)) ∧ Below u.heap.size u w') := fun u hu => xright_any l hle _ u (hv.below hu)
  have HM1 : Hid (∀ u, Below w.heap.size w u → Calls Try.prog 13 #[.slice a l.length cap, strA T, strA O] u fun e w' => e = .returned (.int .i64 (mayA l T O)) ∧ Below u.heap.size u w') := fun u hu => amay_any l (lens_of2 hle) T O hO _ u (hv.below hu)
  have HM2 : Hid (∀ u, Below w.heap.size w u → Calls Try.prog 14 #[.slice a l.length cap, strA T, strA O] u fun e w' => e = .returned (.int .i64 (mayA l T O)) ∧ Below u.heap.size u w') := fun u hu => xmay_any l hle T O hT hO _ u (hv.below hu)
  have HTX : Hid (∀ (v1 v2 : Value) (u : World), StrsAt u v1 (tenL l O all) → StrsAt u v2 (tenL l O all) → Calls Try.prog 9 #[v1, v2] u fun e w' => e = .returned (.bool true) ∧ Below u.heap.size u w') := fun v1 v2 u p q => atexts_any _ (Nat.le_trans (tenL_len l O all) hal2) v1 v2 u p q
  clear hv hv2 hle hal hT hO hal2 h200 h100
  generalize whoT O = R3 at *
  obtain ⟨ho, ow, ok⟩ := R3
  simp only at HW1 HW2
  generalize mayA l T O = V at *
  generalize rightA l = RA at *
  generalize tenL l O all = TL at *
  go_enter Try.func3, Try.ntmps3
  go_wp2_with (go_at_call 5; refine Calls.mono HS.out ?_; rintro e u1 ⟨rfl, hb1⟩; have HB1 := (show Hid (Below w.heap.size w u1) from hb1); clear hb1)
  go_wp2_with (go_at_call 6; refine Calls.mono (HW1.out _) ?_)
  rintro e u2 ⟨rfl, hb2⟩
  have HB2 := (show Hid (Below w.heap.size w u2) from HB1.out.trans (hb2.mono HB1.out.size))
  clear hb2 HW1 HB1 HS
  go_wp2_with (go_at_call 7; refine Calls.mono (HW2.out _) ?_)
  rintro e u3 ⟨rfl, hb3⟩
  have HB3 := (show Hid (Below w.heap.size w u3) from HB2.out.trans (hb3.mono HB2.out.size))
  clear hb3 HW2 HB2
  go_wp2_with (go_at_call 8; refine Calls.mono (HT1.out _ HB3.out) ?_)
  rintro e u4 ⟨⟨v4, rfl, h4⟩, hb4⟩
  have HB4 := (show Hid (Below w.heap.size w u4) from HB3.out.trans (hb4.mono HB3.out.size))
  have HV4 := (show Hid (StrsAt u4 v4 TL) from strs_row h4)
  obtain ⟨a4, c4, hv4⟩ := arow_len h4
  subst hv4
  clear hb4 HT1 HB3 h4
  go_wp2_with (go_at_call 10; refine Calls.mono (HT2.out _ HB4.out) ?_)
  rintro e u5 ⟨⟨v5, rfl, h5⟩, hb5⟩
  have HB5 := (show Hid (Below w.heap.size w u5) from HB4.out.trans (hb5.mono HB4.out.size))
  have HV5 := (show Hid (StrsAt u5 v5 TL) from strs_row h5)
  have HV4' := (show Hid (StrsAt u5 (.slice a4 TL.length c4) TL) from HV4.out.below hb5)
  obtain ⟨a5, c5, hv5⟩ := arow_len h5
  subst hv5
  clear hb5 HT2 HB4 h5 HV4
  go_wp2_with (go_at_call 9; refine Calls.mono (HTX.out _ _ _ HV4'.out HV5.out) ?_)
  rintro e u6 ⟨rfl, hb6⟩
  have HB6 := (show Hid (Below w.heap.size w u6) from HB5.out.trans (hb6.mono HB5.out.size))
  clear hb6 HTX HB5 HV5 HV4'
  have e0 : (ho == ho) = true := by simp
  have e1 : (ow == ow) = true := by simp
  have e2 : (ok == ok) = true := by simp
  have e3 : (RA == RA) = true := by simp
  have e4 : (V == V) = true := by simp
  go_wp2_with (go_at_call 11; refine Calls.mono (HR1.out _ HB6.out) ?_)
  rintro e u7 ⟨rfl, hb7⟩
  have HB7 := (show Hid (Below w.heap.size w u7) from HB6.out.trans (hb7.mono HB6.out.size))
  clear hb7 HR1 HB6
  go_wp2_with (go_at_call 12; refine Calls.mono (HR2.out _ HB7.out) ?_)
  rintro e u8 ⟨rfl, hb8⟩
  have HB8 := (show Hid (Below w.heap.size w u8) from HB7.out.trans (hb8.mono HB7.out.size))
  clear hb8 HR2 HB7
  go_wp2_with (go_at_call 13; refine Calls.mono (HM1.out _ HB8.out) ?_)
  rintro e u9 ⟨rfl, hb9⟩
  have HB9 := (show Hid (Below w.heap.size w u9) from HB8.out.trans (hb9.mono HB8.out.size))
  clear hb9 HM1 HB8
  go_wp2_with (go_at_call 14; refine Calls.mono (HM2.out _ HB9.out) ?_)
  rintro e u10 ⟨rfl, hb10⟩
  have HB10 := (show Hid (Below w.heap.size w u10) from HB9.out.trans (hb10.mono HB9.out.size))
  clear hb10 HM2 HB9
  go_wp2
  go_ret
  exact ⟨rfl, HB10.out⟩
end Go.Proofs.Ytocfdpjclmieiaa
