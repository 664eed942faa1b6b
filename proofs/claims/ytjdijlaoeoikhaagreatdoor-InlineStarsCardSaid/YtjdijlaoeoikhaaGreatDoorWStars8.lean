/- InlineStars: stars around a word are emphasis; walked. -/
import Derived.Test.YtjdijlaoeoikhaaGreatDoorWCode8
import Derived.Test.YtjdijlaoeoikhaaGreatDoorIPlainW
set_option linter.unusedVariables false
namespace Go.Proofs.YtjdijlaoeoikhaaGreatDoor
open Go.RowKit

def strongI : Nat → Is → Is
  | 0, I => I
  | q + 1, I => .cons { kind := 5 } (strongI q I) .nil
theorem strong_in : ∀ (q : Nat) (I : Is), strongI q (.cons { kind := 5 } I .nil) = .cons { kind := 5 } (strongI q I) .nil
  | 0, _ => rfl
  | q + 1, I => by
    show Is.cons { kind := 5 } (strongI q (.cons { kind := 5 } I .nil)) .nil = _
    rw [strong_in q I]
    rfl
theorem told_even : ∀ (q : Nat) (X : Pt), toldI [] [nestP (2 * q) X] = strongI q (toldI [] [X])
  | 0, X => rfl
  | q + 1, X => by
    show toldI [] [nestP (2 * q) { i := { kind := 5 }, kids := toldI [] [X] }] = _
    rw [told_even q]
    show strongI q (.cons { kind := 5 } (toldI [] [X]) .nil) = _
    rw [strong_in]
    rfl
theorem told_odd : ∀ (q : Nat) (X : Pt), toldI [] [nestP (2 * q + 1) X] = .cons { kind := 4 } (strongI q (toldI [] [X])) .nil
  | 0, X => rfl
  | q + 1, X => by
    show toldI [] [nestP (2 * q + 1) { i := { kind := 5 }, kids := toldI [] [X] }] = _
    rw [told_odd q]
    show Is.cons { kind := 4 } (strongI q (.cons { kind := 5 } (toldI [] [X]) .nil)) .nil = _
    rw [strong_in]
    rfl

set_option maxHeartbeats 8000000 in
set_option maxRecDepth 20000 in
theorem wstars8 (s0 : ByteArray) (w0 : s0.size ≤ 140737488351232) (a1 : Int) (w1 : -9223372036854775808 ≤ a1 ∧ a1 ≤ 9223372036854775807) (c2 : Bool) (w : World) (hm : Glob w) :
    Calls Tryz.prog 4 #[.string s0, .int .i64 a1, .bool c2] w fun e w' => e = .returned (.bool true) ∧ Below w.heap.size w w' := by
  have HS : Hid (Calls Tryz.prog 7 #[] w fun e w' => e = .returned (.bool true) ∧ Below w.heap.size w w') := ishown_any w hm
  have HG := (show Hid (Glob w) from hm)
  have h3 := hm.2.2
  have HW : Hid (∀ u, Calls Tryz.prog 12 #[.string s0, .int .i64 50] u fun e w' => ∃ l : List UInt8, e = .returned (.string ⟨l.toArray⟩) ∧ (∀ c ∈ l, lowB c = true) ∧ l.length ≤ 50 ∧ Below u.heap.size u w') := fun u => iplain_any s0 (by omega) 50 (by omega) u
  have HP : Hid (∀ (u : World) (L : Str8), Below w.heap.size w u → L.length ≤ 1073741824 → Calls Tryz.prog 9 #[strI L, .slice none 0 0] u fun e w' => ∃ v', e = .returned v' ∧ (∃ ys, w'.ownsRow 0 32 5 v' (parseI L []).len ys ∧ KidI w' (fun _ => True) (parseI L []) ys) ∧ Below u.heap.size u w') := fun u L hu hL => iparse_nil L hL u (HG.out.below h3 hu)
  obtain ⟨x, hx0, hx40, hfold⟩ := fold8_ex a1 40 w1.1 (by omega)
  obtain ⟨N, hN⟩ : ∃ N : Nat, (N : Int) = 1 + x := ⟨(1 + x).toNat, by omega⟩
  have hN1 : 1 ≤ N := by omega
  have hN40 : N ≤ 40 := by omega
  have hNi : 1 + x = (N : Int) := hN.symm
  obtain ⟨w1a, w1b⟩ := w1
  obtain ⟨cc, hcc, hcs⟩ : ∃ cc : UInt8, (cc = 42 ∨ cc = 95) ∧ ((c2 = true ∧ cc = 95) ∨ (c2 = false ∧ cc = 42)) := by
    cases c2
    · exact ⟨42, .inl rfl, .inr ⟨rfl, rfl⟩⟩
    · exact ⟨95, .inr rfl, .inl ⟨rfl, rfl⟩⟩
  have HC := (show Hid (cc = 42 ∨ cc = 95) from hcc)
  clear hm hN hcc w0
  have hfc : ∀ {P : Prop}, (¬ a1 < 0 → a1.tmod 40 = x → c2 = true → cc = 95 → P) → (¬ a1 < 0 → a1.tmod 40 = x → c2 = false → cc = 42 → P) → (a1 < 0 → (-(a1 + 1)).tmod 40 = x → c2 = true → cc = 95 → P) → (a1 < 0 → (-(a1 + 1)).tmod 40 = x → c2 = false → cc = 42 → P) → P := by
    intro P p1 p2 p3 p4
    rcases hfold with ⟨f1, f2⟩ | ⟨f1, _, f2⟩ <;> rcases hcs with ⟨g1, g2⟩ | ⟨g1, g2⟩
    · exact p1 f1 f2 g1 g2
    · exact p2 f1 f2 g1 g2
    · exact p3 f1 f2 g1 g2
    · exact p4 f1 f2 g1 g2
  clear hfold hcs
  apply hfc
  · clear hfc
    intro f1 f2 g1 g2
    subst g1
    subst g2
    go_enter Tryz.func4, Tryz.ntmps4
    go_wp2_with (first | (go_at_call 7; refine Calls.mono HS.out ?_; rintro e u1 ⟨rfl, hb1⟩; have HB1 := (show Hid (Below _ _ _) from hb1); clear hb1) | (go_at_call 12; refine Calls.mono (HW.out _) ?_; rintro e u2 ⟨wl, rfl, hwl, hwn, hb2⟩; have HB2 := (show Hid (Below w.heap.size w u2) from HB1.out.trans (hb2.mono HB1.out.size)); have HWL := (show Hid (∀ c ∈ wl, lowB c = true) from hwl); clear hb2 hwl; have dw := sadd8 [119] wl (by simp only [List.length_cons, List.length_nil]; omega)))
    have hwn2 : (wl.length : Int) ≤ 50 := by omega
    go_loopw [10, 11] (fun t i wr => ∃ (j : Nat) (X : Str8), i = .int .i64 (j : Int) ∧ j ≤ N ∧ t = strI X ∧ Hid (X = List.replicate j 95) ∧ wr = u2) (fun _ i _ => N - (intOf i).toNat)
    case atStart => exact ⟨0, [], rfl, Nat.zero_le _, rfl, rfl, rfl⟩
    case round =>
      obtain ⟨j, X, rfl, hj, rfl, HX, hw⟩ := hrel
      subst hw
      by_cases hjl : j < N
      · have hji : (j : Int) < (N : Int) := by omega
        have hni : (N : Int) ≤ 40 := by omega
        have d2 := sadd8 X [95] (by rw [HX.out]; simp only [List.length_replicate, List.length_cons, List.length_nil]; omega)
        have HX2 : Hid (X ++ [95] = List.replicate (j + 1) 95) := by show _ = _; rw [HX.out, List.replicate_succ']
        go_wp2
        go_roundw
        case rel => exact ⟨j + 1, X ++ [95], by go_num, by omega, rfl, HX2, by first | rfl | trivial⟩
        case measure => simp [intOf]; omega
      · have hjn : j = N := by omega
        have hji : ¬ (j : Int) < (N : Int) := by omega
        have HXN : Hid (X = List.replicate N 95) := by show _ = _; rw [HX.out, hjn]
        have hXl : X.length = N := by rw [HXN.out, List.length_replicate]
        clear hjn HX
        clear dw
        generalize hT0 : (119 :: wl : List UInt8) = T0
        have hT0l : T0.length ≤ 51 := by rw [← hT0, List.length_cons]; omega
        have e1 := sadd8 X T0 (by omega)
        have e2 := sadd8 (X ++ T0) X (by simp only [List.length_append]; omega)
        have HPx : Hid (∀ u, Below w.heap.size w u → Calls Tryz.prog 9 #[strI (X ++ T0 ++ X), .slice none 0 0] u fun e w' => ∃ v', e = .returned v' ∧ InRow w' (toldI [] [nestP N { i := { text := T0 } }]) v' ∧ Below w.heap.size w w') := fun u hu => by
          refine (HP.out u _ hu (by simp only [List.length_append]; omega)).mono ?_
          rintro e w' ⟨v', rfl, hr, hb⟩
          refine ⟨v', rfl, ?_, hu.trans (hb.mono hu.size)⟩
          obtain ⟨k, hk⟩ : ∃ k, N = k + 1 := ⟨N - 1, by omega⟩
          have ee := stars_parse 95 (by decide) k wl HWL.out []
          rw [← hk, ← HXN.out, hT0] at ee
          rw [ee] at hr
          exact hr
        have hTn : T0 ≠ [] := by rw [← hT0]; simp
        have HT0 : Hid (toldI [] [{ i := { text := T0 } }] = .cons { text := T0 } .nil .nil) := by show _ = _; simp [toldI, withT, hTn]
        have hTT : (T0 == T0) = true := by simp
        clear hT0 HP HXN HWL HC HW HS HG hTn
        obtain ⟨h, hpar⟩ : ∃ h, N = 2 * h ∨ N = 2 * h + 1 := ⟨N / 2, by omega⟩
        have hh2 : (h : Int) ≤ 20 := by omega
        have hq : (N : Int).tdiv 2 = (h : Int) := by rw [Int.tdiv_eq_ediv_of_nonneg (by omega)]; omega
        generalize X ++ T0 ++ X = Y2 at *
        generalize X ++ T0 = Y1 at *
        go_wp2_with (go_at_call 9; refine Calls.mono (HPx.out _ HB2.out) ?_; rintro e u3 ⟨v', rfl, hr3, hb3⟩; have HR3 := (show Hid (InRow _ _ _) from hr3); have HB3 := (show Hid (Below _ _ _) from hb3); clear hb3 hr3)
        rcases hpar with hpar | hpar
        · have hrem : (N : Int).tmod 2 = 0 := by rw [Int.tmod_eq_emod_of_nonneg (by omega)]; omega
          have HR : Hid (InRow u3 (strongI h (.cons { text := T0 } .nil .nil)) v') := by
            have := HR3.out
            rw [hpar, told_even, HT0.out] at this
            exact this
          have hh1 : 1 ≤ h := by omega
          clear HR3 HT0 hpar HPx
          go_loopw [12, 13] (fun l i wr2 => ∃ (j : Nat), i = .int .i64 (j : Int) ∧ j ≤ h ∧ Hid (InRow u3 (strongI (h - j) (.cons { text := T0 } .nil .nil)) l) ∧ wr2 = u3) (fun _ i _ => h - (intOf i).toNat)
          case atStart => exact ⟨0, rfl, Nat.zero_le _, HR, rfl⟩
          case round =>
            obtain ⟨j, rfl, hj, HR2, hw⟩ := hrel
            subst hw
            have hjh : (j : Int) ≤ (h : Int) := by omega
            by_cases hlt : j < h
            · obtain ⟨q, hq2⟩ : ∃ q, h - j = q + 1 := ⟨h - j - 1, by omega⟩
              rw [hq2] at HR2
              obtain ⟨g, c, v2, rfl, k0, k1, k4, hr2⟩ := inrow_one HR2.out
              rw [show q = h - (j + 1) by omega] at hr2
              have HRN := (show Hid (InRow _ _ _) from hr2)
              have hne : ((j : Int) == (h : Int)) = false := by simp; omega
              clear HR2 hr2 hq2 HR
              by_cases h0 : j = 0
              · subst h0
                go_wp2
                go_roundw
                case rel => exact ⟨0 + 1, by go_num, by omega, HRN, by first | rfl | trivial⟩
                case measure => (simp [intOf]) <;> omega
              · have hz : ((j : Int) == 0) = false := by simp; omega
                go_wp2
                go_roundw
                case rel => exact ⟨j + 1, by go_num, by omega, HRN, by first | rfl | trivial⟩
                case measure => (simp [intOf]) <;> omega
            · obtain rfl : j = h := by omega
              rw [Nat.sub_self] at HR2
              obtain ⟨g, c, v2, rfl, k0, k1, k4, hr2⟩ := inrow_one HR2.out
              have hz : ((j : Int) == 0) = false := by simp; omega
              clear HR2 hr2 HR
              go_wp2
              go_ret
              exact ⟨rfl, HB3.out⟩
        · have hrem : (N : Int).tmod 2 = 1 := by rw [Int.tmod_eq_emod_of_nonneg (by omega)]; omega
          have HR : Hid (InRow u3 (.cons { kind := 4 } (strongI h (.cons { text := T0 } .nil .nil)) .nil) v') := by
            have := HR3.out
            rw [hpar, told_odd, HT0.out] at this
            exact this
          clear HR3 HT0 HPx
          go_loopw [12, 13] (fun l i wr2 => ∃ (j : Nat), i = .int .i64 (j : Int) ∧ ((j = 0 ∧ Hid (InRow u3 (.cons { kind := 4 } (strongI h (.cons { text := T0 } .nil .nil)) .nil) l)) ∨ (1 ≤ j ∧ j ≤ h + 1 ∧ Hid (InRow u3 (strongI (h + 1 - j) (.cons { text := T0 } .nil .nil)) l))) ∧ wr2 = u3) (fun _ i _ => h + 1 - (intOf i).toNat)
          case atStart => exact ⟨0, rfl, .inl ⟨rfl, HR⟩, rfl⟩
          case round =>
            obtain ⟨j, rfl, hcase, hw⟩ := hrel
            subst hw
            rcases hcase with ⟨h0, HR2⟩ | ⟨hj1, hj2, HR2⟩
            · subst h0
              obtain ⟨g, c, v2, rfl, k0, k1, k4, hr2⟩ := inrow_one HR2.out
              have hh0 : (0 : Int) ≤ (h : Int) := by omega
              by_cases h1 : N = 1
              · have hz : h = 0 := by omega
                subst hz
                subst h1
                obtain ⟨g2, c2, v3, rfl, m0, m1, m4, hr3⟩ := inrow_one hr2
                clear HR2 hr2 HR hr3 hpar
                go_wp2
                go_ret
                exact ⟨rfl, HB3.out⟩
              · have hn1 : ((N : Int) == 1) = false := by simp; omega
                have HRN := (show Hid (InRow _ _ _) from hr2)
                have hh1 : 1 ≤ h := by omega
                clear HR2 hr2 HR hpar h1
                go_wp2
                go_roundw
                case rel => exact ⟨1, by go_num, .inr ⟨by omega, by omega, by rw [Nat.add_sub_cancel]; exact HRN⟩, by first | rfl | trivial⟩
                case measure => (simp [intOf]) <;> omega
            · have hz : ((j : Int) == 0) = false := by simp; omega
              by_cases hlt : j ≤ h
              · have hjh : (j : Int) ≤ (h : Int) := by omega
                obtain ⟨q, hq2⟩ : ∃ q, h + 1 - j = q + 1 := ⟨h - j, by omega⟩
                rw [hq2] at HR2
                obtain ⟨g, c, v2, rfl, k0, k1, k4, hr2⟩ := inrow_one HR2.out
                rw [show q = h + 1 - (j + 1) by omega] at hr2
                have HRN := (show Hid (InRow _ _ _) from hr2)
                clear HR2 hr2 hq2 HR hpar
                by_cases hjeq : j = h
                · subst hjeq
                  go_wp2
                  go_roundw
                  case rel => exact ⟨j + 1, by go_num, .inr ⟨by omega, by omega, HRN⟩, by first | rfl | trivial⟩
                  case measure => (simp [intOf]) <;> omega
                · have hne : ((j : Int) == (h : Int)) = false := by simp; omega
                  go_wp2
                  go_roundw
                  case rel => exact ⟨j + 1, by go_num, .inr ⟨by omega, by omega, HRN⟩, by first | rfl | trivial⟩
                  case measure => (simp [intOf]) <;> omega
              · have hjh : ¬ (j : Int) ≤ (h : Int) := by omega
                rw [show h + 1 - j = 0 by omega] at HR2
                obtain ⟨g, c, v2, rfl, k0, k1, k4, hr2⟩ := inrow_one HR2.out
                clear HR2 hr2 HR hpar
                go_wp2
                go_ret
                exact ⟨rfl, HB3.out⟩
  · clear hfc
    intro f1 f2 g1 g2
    subst g1
    subst g2
    go_enter Tryz.func4, Tryz.ntmps4
    go_wp2_with (first | (go_at_call 7; refine Calls.mono HS.out ?_; rintro e u1 ⟨rfl, hb1⟩; have HB1 := (show Hid (Below _ _ _) from hb1); clear hb1) | (go_at_call 12; refine Calls.mono (HW.out _) ?_; rintro e u2 ⟨wl, rfl, hwl, hwn, hb2⟩; have HB2 := (show Hid (Below w.heap.size w u2) from HB1.out.trans (hb2.mono HB1.out.size)); have HWL := (show Hid (∀ c ∈ wl, lowB c = true) from hwl); clear hb2 hwl; have dw := sadd8 [119] wl (by simp only [List.length_cons, List.length_nil]; omega)))
    have hwn2 : (wl.length : Int) ≤ 50 := by omega
    go_loopw [10, 11] (fun t i wr => ∃ (j : Nat) (X : Str8), i = .int .i64 (j : Int) ∧ j ≤ N ∧ t = strI X ∧ Hid (X = List.replicate j 42) ∧ wr = u2) (fun _ i _ => N - (intOf i).toNat)
    case atStart => exact ⟨0, [], rfl, Nat.zero_le _, rfl, rfl, rfl⟩
    case round =>
      obtain ⟨j, X, rfl, hj, rfl, HX, hw⟩ := hrel
      subst hw
      by_cases hjl : j < N
      · have hji : (j : Int) < (N : Int) := by omega
        have hni : (N : Int) ≤ 40 := by omega
        have d2 := sadd8 X [42] (by rw [HX.out]; simp only [List.length_replicate, List.length_cons, List.length_nil]; omega)
        have HX2 : Hid (X ++ [42] = List.replicate (j + 1) 42) := by show _ = _; rw [HX.out, List.replicate_succ']
        go_wp2
        go_roundw
        case rel => exact ⟨j + 1, X ++ [42], by go_num, by omega, rfl, HX2, by first | rfl | trivial⟩
        case measure => simp [intOf]; omega
      · have hjn : j = N := by omega
        have hji : ¬ (j : Int) < (N : Int) := by omega
        have HXN : Hid (X = List.replicate N 42) := by show _ = _; rw [HX.out, hjn]
        have hXl : X.length = N := by rw [HXN.out, List.length_replicate]
        clear hjn HX
        clear dw
        generalize hT0 : (119 :: wl : List UInt8) = T0
        have hT0l : T0.length ≤ 51 := by rw [← hT0, List.length_cons]; omega
        have e1 := sadd8 X T0 (by omega)
        have e2 := sadd8 (X ++ T0) X (by simp only [List.length_append]; omega)
        have HPx : Hid (∀ u, Below w.heap.size w u → Calls Tryz.prog 9 #[strI (X ++ T0 ++ X), .slice none 0 0] u fun e w' => ∃ v', e = .returned v' ∧ InRow w' (toldI [] [nestP N { i := { text := T0 } }]) v' ∧ Below w.heap.size w w') := fun u hu => by
          refine (HP.out u _ hu (by simp only [List.length_append]; omega)).mono ?_
          rintro e w' ⟨v', rfl, hr, hb⟩
          refine ⟨v', rfl, ?_, hu.trans (hb.mono hu.size)⟩
          obtain ⟨k, hk⟩ : ∃ k, N = k + 1 := ⟨N - 1, by omega⟩
          have ee := stars_parse 42 (by decide) k wl HWL.out []
          rw [← hk, ← HXN.out, hT0] at ee
          rw [ee] at hr
          exact hr
        have hTn : T0 ≠ [] := by rw [← hT0]; simp
        have HT0 : Hid (toldI [] [{ i := { text := T0 } }] = .cons { text := T0 } .nil .nil) := by show _ = _; simp [toldI, withT, hTn]
        have hTT : (T0 == T0) = true := by simp
        clear hT0 HP HXN HWL HC HW HS HG hTn
        obtain ⟨h, hpar⟩ : ∃ h, N = 2 * h ∨ N = 2 * h + 1 := ⟨N / 2, by omega⟩
        have hh2 : (h : Int) ≤ 20 := by omega
        have hq : (N : Int).tdiv 2 = (h : Int) := by rw [Int.tdiv_eq_ediv_of_nonneg (by omega)]; omega
        generalize X ++ T0 ++ X = Y2 at *
        generalize X ++ T0 = Y1 at *
        go_wp2_with (go_at_call 9; refine Calls.mono (HPx.out _ HB2.out) ?_; rintro e u3 ⟨v', rfl, hr3, hb3⟩; have HR3 := (show Hid (InRow _ _ _) from hr3); have HB3 := (show Hid (Below _ _ _) from hb3); clear hb3 hr3)
        rcases hpar with hpar | hpar
        · have hrem : (N : Int).tmod 2 = 0 := by rw [Int.tmod_eq_emod_of_nonneg (by omega)]; omega
          have HR : Hid (InRow u3 (strongI h (.cons { text := T0 } .nil .nil)) v') := by
            have := HR3.out
            rw [hpar, told_even, HT0.out] at this
            exact this
          have hh1 : 1 ≤ h := by omega
          clear HR3 HT0 hpar HPx
          go_loopw [12, 13] (fun l i wr2 => ∃ (j : Nat), i = .int .i64 (j : Int) ∧ j ≤ h ∧ Hid (InRow u3 (strongI (h - j) (.cons { text := T0 } .nil .nil)) l) ∧ wr2 = u3) (fun _ i _ => h - (intOf i).toNat)
          case atStart => exact ⟨0, rfl, Nat.zero_le _, HR, rfl⟩
          case round =>
            obtain ⟨j, rfl, hj, HR2, hw⟩ := hrel
            subst hw
            have hjh : (j : Int) ≤ (h : Int) := by omega
            by_cases hlt : j < h
            · obtain ⟨q, hq2⟩ : ∃ q, h - j = q + 1 := ⟨h - j - 1, by omega⟩
              rw [hq2] at HR2
              obtain ⟨g, c, v2, rfl, k0, k1, k4, hr2⟩ := inrow_one HR2.out
              rw [show q = h - (j + 1) by omega] at hr2
              have HRN := (show Hid (InRow _ _ _) from hr2)
              have hne : ((j : Int) == (h : Int)) = false := by simp; omega
              clear HR2 hr2 hq2 HR
              by_cases h0 : j = 0
              · subst h0
                go_wp2
                go_roundw
                case rel => exact ⟨0 + 1, by go_num, by omega, HRN, by first | rfl | trivial⟩
                case measure => (simp [intOf]) <;> omega
              · have hz : ((j : Int) == 0) = false := by simp; omega
                go_wp2
                go_roundw
                case rel => exact ⟨j + 1, by go_num, by omega, HRN, by first | rfl | trivial⟩
                case measure => (simp [intOf]) <;> omega
            · obtain rfl : j = h := by omega
              rw [Nat.sub_self] at HR2
              obtain ⟨g, c, v2, rfl, k0, k1, k4, hr2⟩ := inrow_one HR2.out
              have hz : ((j : Int) == 0) = false := by simp; omega
              clear HR2 hr2 HR
              go_wp2
              go_ret
              exact ⟨rfl, HB3.out⟩
        · have hrem : (N : Int).tmod 2 = 1 := by rw [Int.tmod_eq_emod_of_nonneg (by omega)]; omega
          have HR : Hid (InRow u3 (.cons { kind := 4 } (strongI h (.cons { text := T0 } .nil .nil)) .nil) v') := by
            have := HR3.out
            rw [hpar, told_odd, HT0.out] at this
            exact this
          clear HR3 HT0 HPx
          go_loopw [12, 13] (fun l i wr2 => ∃ (j : Nat), i = .int .i64 (j : Int) ∧ ((j = 0 ∧ Hid (InRow u3 (.cons { kind := 4 } (strongI h (.cons { text := T0 } .nil .nil)) .nil) l)) ∨ (1 ≤ j ∧ j ≤ h + 1 ∧ Hid (InRow u3 (strongI (h + 1 - j) (.cons { text := T0 } .nil .nil)) l))) ∧ wr2 = u3) (fun _ i _ => h + 1 - (intOf i).toNat)
          case atStart => exact ⟨0, rfl, .inl ⟨rfl, HR⟩, rfl⟩
          case round =>
            obtain ⟨j, rfl, hcase, hw⟩ := hrel
            subst hw
            rcases hcase with ⟨h0, HR2⟩ | ⟨hj1, hj2, HR2⟩
            · subst h0
              obtain ⟨g, c, v2, rfl, k0, k1, k4, hr2⟩ := inrow_one HR2.out
              have hh0 : (0 : Int) ≤ (h : Int) := by omega
              by_cases h1 : N = 1
              · have hz : h = 0 := by omega
                subst hz
                subst h1
                obtain ⟨g2, c2, v3, rfl, m0, m1, m4, hr3⟩ := inrow_one hr2
                clear HR2 hr2 HR hr3 hpar
                go_wp2
                go_ret
                exact ⟨rfl, HB3.out⟩
              · have hn1 : ((N : Int) == 1) = false := by simp; omega
                have HRN := (show Hid (InRow _ _ _) from hr2)
                have hh1 : 1 ≤ h := by omega
                clear HR2 hr2 HR hpar h1
                go_wp2
                go_roundw
                case rel => exact ⟨1, by go_num, .inr ⟨by omega, by omega, by rw [Nat.add_sub_cancel]; exact HRN⟩, by first | rfl | trivial⟩
                case measure => (simp [intOf]) <;> omega
            · have hz : ((j : Int) == 0) = false := by simp; omega
              by_cases hlt : j ≤ h
              · have hjh : (j : Int) ≤ (h : Int) := by omega
                obtain ⟨q, hq2⟩ : ∃ q, h + 1 - j = q + 1 := ⟨h - j, by omega⟩
                rw [hq2] at HR2
                obtain ⟨g, c, v2, rfl, k0, k1, k4, hr2⟩ := inrow_one HR2.out
                rw [show q = h + 1 - (j + 1) by omega] at hr2
                have HRN := (show Hid (InRow _ _ _) from hr2)
                clear HR2 hr2 hq2 HR hpar
                by_cases hjeq : j = h
                · subst hjeq
                  go_wp2
                  go_roundw
                  case rel => exact ⟨j + 1, by go_num, .inr ⟨by omega, by omega, HRN⟩, by first | rfl | trivial⟩
                  case measure => (simp [intOf]) <;> omega
                · have hne : ((j : Int) == (h : Int)) = false := by simp; omega
                  go_wp2
                  go_roundw
                  case rel => exact ⟨j + 1, by go_num, .inr ⟨by omega, by omega, HRN⟩, by first | rfl | trivial⟩
                  case measure => (simp [intOf]) <;> omega
              · have hjh : ¬ (j : Int) ≤ (h : Int) := by omega
                rw [show h + 1 - j = 0 by omega] at HR2
                obtain ⟨g, c, v2, rfl, k0, k1, k4, hr2⟩ := inrow_one HR2.out
                clear HR2 hr2 HR hpar
                go_wp2
                go_ret
                exact ⟨rfl, HB3.out⟩
  · clear hfc
    intro f1 f2 g1 g2
    subst g1
    subst g2
    go_enter Tryz.func4, Tryz.ntmps4
    go_wp2_with (first | (go_at_call 7; refine Calls.mono HS.out ?_; rintro e u1 ⟨rfl, hb1⟩; have HB1 := (show Hid (Below _ _ _) from hb1); clear hb1) | (go_at_call 12; refine Calls.mono (HW.out _) ?_; rintro e u2 ⟨wl, rfl, hwl, hwn, hb2⟩; have HB2 := (show Hid (Below w.heap.size w u2) from HB1.out.trans (hb2.mono HB1.out.size)); have HWL := (show Hid (∀ c ∈ wl, lowB c = true) from hwl); clear hb2 hwl; have dw := sadd8 [119] wl (by simp only [List.length_cons, List.length_nil]; omega)))
    have hwn2 : (wl.length : Int) ≤ 50 := by omega
    go_loopw [10, 11] (fun t i wr => ∃ (j : Nat) (X : Str8), i = .int .i64 (j : Int) ∧ j ≤ N ∧ t = strI X ∧ Hid (X = List.replicate j 95) ∧ wr = u2) (fun _ i _ => N - (intOf i).toNat)
    case atStart => exact ⟨0, [], rfl, Nat.zero_le _, rfl, rfl, rfl⟩
    case round =>
      obtain ⟨j, X, rfl, hj, rfl, HX, hw⟩ := hrel
      subst hw
      by_cases hjl : j < N
      · have hji : (j : Int) < (N : Int) := by omega
        have hni : (N : Int) ≤ 40 := by omega
        have d2 := sadd8 X [95] (by rw [HX.out]; simp only [List.length_replicate, List.length_cons, List.length_nil]; omega)
        have HX2 : Hid (X ++ [95] = List.replicate (j + 1) 95) := by show _ = _; rw [HX.out, List.replicate_succ']
        go_wp2
        go_roundw
        case rel => exact ⟨j + 1, X ++ [95], by go_num, by omega, rfl, HX2, by first | rfl | trivial⟩
        case measure => simp [intOf]; omega
      · have hjn : j = N := by omega
        have hji : ¬ (j : Int) < (N : Int) := by omega
        have HXN : Hid (X = List.replicate N 95) := by show _ = _; rw [HX.out, hjn]
        have hXl : X.length = N := by rw [HXN.out, List.length_replicate]
        clear hjn HX
        clear dw
        generalize hT0 : (119 :: wl : List UInt8) = T0
        have hT0l : T0.length ≤ 51 := by rw [← hT0, List.length_cons]; omega
        have e1 := sadd8 X T0 (by omega)
        have e2 := sadd8 (X ++ T0) X (by simp only [List.length_append]; omega)
        have HPx : Hid (∀ u, Below w.heap.size w u → Calls Tryz.prog 9 #[strI (X ++ T0 ++ X), .slice none 0 0] u fun e w' => ∃ v', e = .returned v' ∧ InRow w' (toldI [] [nestP N { i := { text := T0 } }]) v' ∧ Below w.heap.size w w') := fun u hu => by
          refine (HP.out u _ hu (by simp only [List.length_append]; omega)).mono ?_
          rintro e w' ⟨v', rfl, hr, hb⟩
          refine ⟨v', rfl, ?_, hu.trans (hb.mono hu.size)⟩
          obtain ⟨k, hk⟩ : ∃ k, N = k + 1 := ⟨N - 1, by omega⟩
          have ee := stars_parse 95 (by decide) k wl HWL.out []
          rw [← hk, ← HXN.out, hT0] at ee
          rw [ee] at hr
          exact hr
        have hTn : T0 ≠ [] := by rw [← hT0]; simp
        have HT0 : Hid (toldI [] [{ i := { text := T0 } }] = .cons { text := T0 } .nil .nil) := by show _ = _; simp [toldI, withT, hTn]
        have hTT : (T0 == T0) = true := by simp
        clear hT0 HP HXN HWL HC HW HS HG hTn
        obtain ⟨h, hpar⟩ : ∃ h, N = 2 * h ∨ N = 2 * h + 1 := ⟨N / 2, by omega⟩
        have hh2 : (h : Int) ≤ 20 := by omega
        have hq : (N : Int).tdiv 2 = (h : Int) := by rw [Int.tdiv_eq_ediv_of_nonneg (by omega)]; omega
        generalize X ++ T0 ++ X = Y2 at *
        generalize X ++ T0 = Y1 at *
        go_wp2_with (go_at_call 9; refine Calls.mono (HPx.out _ HB2.out) ?_; rintro e u3 ⟨v', rfl, hr3, hb3⟩; have HR3 := (show Hid (InRow _ _ _) from hr3); have HB3 := (show Hid (Below _ _ _) from hb3); clear hb3 hr3)
        rcases hpar with hpar | hpar
        · have hrem : (N : Int).tmod 2 = 0 := by rw [Int.tmod_eq_emod_of_nonneg (by omega)]; omega
          have HR : Hid (InRow u3 (strongI h (.cons { text := T0 } .nil .nil)) v') := by
            have := HR3.out
            rw [hpar, told_even, HT0.out] at this
            exact this
          have hh1 : 1 ≤ h := by omega
          clear HR3 HT0 hpar HPx
          go_loopw [12, 13] (fun l i wr2 => ∃ (j : Nat), i = .int .i64 (j : Int) ∧ j ≤ h ∧ Hid (InRow u3 (strongI (h - j) (.cons { text := T0 } .nil .nil)) l) ∧ wr2 = u3) (fun _ i _ => h - (intOf i).toNat)
          case atStart => exact ⟨0, rfl, Nat.zero_le _, HR, rfl⟩
          case round =>
            obtain ⟨j, rfl, hj, HR2, hw⟩ := hrel
            subst hw
            have hjh : (j : Int) ≤ (h : Int) := by omega
            by_cases hlt : j < h
            · obtain ⟨q, hq2⟩ : ∃ q, h - j = q + 1 := ⟨h - j - 1, by omega⟩
              rw [hq2] at HR2
              obtain ⟨g, c, v2, rfl, k0, k1, k4, hr2⟩ := inrow_one HR2.out
              rw [show q = h - (j + 1) by omega] at hr2
              have HRN := (show Hid (InRow _ _ _) from hr2)
              have hne : ((j : Int) == (h : Int)) = false := by simp; omega
              clear HR2 hr2 hq2 HR
              by_cases h0 : j = 0
              · subst h0
                go_wp2
                go_roundw
                case rel => exact ⟨0 + 1, by go_num, by omega, HRN, by first | rfl | trivial⟩
                case measure => (simp [intOf]) <;> omega
              · have hz : ((j : Int) == 0) = false := by simp; omega
                go_wp2
                go_roundw
                case rel => exact ⟨j + 1, by go_num, by omega, HRN, by first | rfl | trivial⟩
                case measure => (simp [intOf]) <;> omega
            · obtain rfl : j = h := by omega
              rw [Nat.sub_self] at HR2
              obtain ⟨g, c, v2, rfl, k0, k1, k4, hr2⟩ := inrow_one HR2.out
              have hz : ((j : Int) == 0) = false := by simp; omega
              clear HR2 hr2 HR
              go_wp2
              go_ret
              exact ⟨rfl, HB3.out⟩
        · have hrem : (N : Int).tmod 2 = 1 := by rw [Int.tmod_eq_emod_of_nonneg (by omega)]; omega
          have HR : Hid (InRow u3 (.cons { kind := 4 } (strongI h (.cons { text := T0 } .nil .nil)) .nil) v') := by
            have := HR3.out
            rw [hpar, told_odd, HT0.out] at this
            exact this
          clear HR3 HT0 HPx
          go_loopw [12, 13] (fun l i wr2 => ∃ (j : Nat), i = .int .i64 (j : Int) ∧ ((j = 0 ∧ Hid (InRow u3 (.cons { kind := 4 } (strongI h (.cons { text := T0 } .nil .nil)) .nil) l)) ∨ (1 ≤ j ∧ j ≤ h + 1 ∧ Hid (InRow u3 (strongI (h + 1 - j) (.cons { text := T0 } .nil .nil)) l))) ∧ wr2 = u3) (fun _ i _ => h + 1 - (intOf i).toNat)
          case atStart => exact ⟨0, rfl, .inl ⟨rfl, HR⟩, rfl⟩
          case round =>
            obtain ⟨j, rfl, hcase, hw⟩ := hrel
            subst hw
            rcases hcase with ⟨h0, HR2⟩ | ⟨hj1, hj2, HR2⟩
            · subst h0
              obtain ⟨g, c, v2, rfl, k0, k1, k4, hr2⟩ := inrow_one HR2.out
              have hh0 : (0 : Int) ≤ (h : Int) := by omega
              by_cases h1 : N = 1
              · have hz : h = 0 := by omega
                subst hz
                subst h1
                obtain ⟨g2, c2, v3, rfl, m0, m1, m4, hr3⟩ := inrow_one hr2
                clear HR2 hr2 HR hr3 hpar
                go_wp2
                go_ret
                exact ⟨rfl, HB3.out⟩
              · have hn1 : ((N : Int) == 1) = false := by simp; omega
                have HRN := (show Hid (InRow _ _ _) from hr2)
                have hh1 : 1 ≤ h := by omega
                clear HR2 hr2 HR hpar h1
                go_wp2
                go_roundw
                case rel => exact ⟨1, by go_num, .inr ⟨by omega, by omega, by rw [Nat.add_sub_cancel]; exact HRN⟩, by first | rfl | trivial⟩
                case measure => (simp [intOf]) <;> omega
            · have hz : ((j : Int) == 0) = false := by simp; omega
              by_cases hlt : j ≤ h
              · have hjh : (j : Int) ≤ (h : Int) := by omega
                obtain ⟨q, hq2⟩ : ∃ q, h + 1 - j = q + 1 := ⟨h - j, by omega⟩
                rw [hq2] at HR2
                obtain ⟨g, c, v2, rfl, k0, k1, k4, hr2⟩ := inrow_one HR2.out
                rw [show q = h + 1 - (j + 1) by omega] at hr2
                have HRN := (show Hid (InRow _ _ _) from hr2)
                clear HR2 hr2 hq2 HR hpar
                by_cases hjeq : j = h
                · subst hjeq
                  go_wp2
                  go_roundw
                  case rel => exact ⟨j + 1, by go_num, .inr ⟨by omega, by omega, HRN⟩, by first | rfl | trivial⟩
                  case measure => (simp [intOf]) <;> omega
                · have hne : ((j : Int) == (h : Int)) = false := by simp; omega
                  go_wp2
                  go_roundw
                  case rel => exact ⟨j + 1, by go_num, .inr ⟨by omega, by omega, HRN⟩, by first | rfl | trivial⟩
                  case measure => (simp [intOf]) <;> omega
              · have hjh : ¬ (j : Int) ≤ (h : Int) := by omega
                rw [show h + 1 - j = 0 by omega] at HR2
                obtain ⟨g, c, v2, rfl, k0, k1, k4, hr2⟩ := inrow_one HR2.out
                clear HR2 hr2 HR hpar
                go_wp2
                go_ret
                exact ⟨rfl, HB3.out⟩
  · clear hfc
    intro f1 f2 g1 g2
    subst g1
    subst g2
    go_enter Tryz.func4, Tryz.ntmps4
    go_wp2_with (first | (go_at_call 7; refine Calls.mono HS.out ?_; rintro e u1 ⟨rfl, hb1⟩; have HB1 := (show Hid (Below _ _ _) from hb1); clear hb1) | (go_at_call 12; refine Calls.mono (HW.out _) ?_; rintro e u2 ⟨wl, rfl, hwl, hwn, hb2⟩; have HB2 := (show Hid (Below w.heap.size w u2) from HB1.out.trans (hb2.mono HB1.out.size)); have HWL := (show Hid (∀ c ∈ wl, lowB c = true) from hwl); clear hb2 hwl; have dw := sadd8 [119] wl (by simp only [List.length_cons, List.length_nil]; omega)))
    have hwn2 : (wl.length : Int) ≤ 50 := by omega
    go_loopw [10, 11] (fun t i wr => ∃ (j : Nat) (X : Str8), i = .int .i64 (j : Int) ∧ j ≤ N ∧ t = strI X ∧ Hid (X = List.replicate j 42) ∧ wr = u2) (fun _ i _ => N - (intOf i).toNat)
    case atStart => exact ⟨0, [], rfl, Nat.zero_le _, rfl, rfl, rfl⟩
    case round =>
      obtain ⟨j, X, rfl, hj, rfl, HX, hw⟩ := hrel
      subst hw
      by_cases hjl : j < N
      · have hji : (j : Int) < (N : Int) := by omega
        have hni : (N : Int) ≤ 40 := by omega
        have d2 := sadd8 X [42] (by rw [HX.out]; simp only [List.length_replicate, List.length_cons, List.length_nil]; omega)
        have HX2 : Hid (X ++ [42] = List.replicate (j + 1) 42) := by show _ = _; rw [HX.out, List.replicate_succ']
        go_wp2
        go_roundw
        case rel => exact ⟨j + 1, X ++ [42], by go_num, by omega, rfl, HX2, by first | rfl | trivial⟩
        case measure => simp [intOf]; omega
      · have hjn : j = N := by omega
        have hji : ¬ (j : Int) < (N : Int) := by omega
        have HXN : Hid (X = List.replicate N 42) := by show _ = _; rw [HX.out, hjn]
        have hXl : X.length = N := by rw [HXN.out, List.length_replicate]
        clear hjn HX
        clear dw
        generalize hT0 : (119 :: wl : List UInt8) = T0
        have hT0l : T0.length ≤ 51 := by rw [← hT0, List.length_cons]; omega
        have e1 := sadd8 X T0 (by omega)
        have e2 := sadd8 (X ++ T0) X (by simp only [List.length_append]; omega)
        have HPx : Hid (∀ u, Below w.heap.size w u → Calls Tryz.prog 9 #[strI (X ++ T0 ++ X), .slice none 0 0] u fun e w' => ∃ v', e = .returned v' ∧ InRow w' (toldI [] [nestP N { i := { text := T0 } }]) v' ∧ Below w.heap.size w w') := fun u hu => by
          refine (HP.out u _ hu (by simp only [List.length_append]; omega)).mono ?_
          rintro e w' ⟨v', rfl, hr, hb⟩
          refine ⟨v', rfl, ?_, hu.trans (hb.mono hu.size)⟩
          obtain ⟨k, hk⟩ : ∃ k, N = k + 1 := ⟨N - 1, by omega⟩
          have ee := stars_parse 42 (by decide) k wl HWL.out []
          rw [← hk, ← HXN.out, hT0] at ee
          rw [ee] at hr
          exact hr
        have hTn : T0 ≠ [] := by rw [← hT0]; simp
        have HT0 : Hid (toldI [] [{ i := { text := T0 } }] = .cons { text := T0 } .nil .nil) := by show _ = _; simp [toldI, withT, hTn]
        have hTT : (T0 == T0) = true := by simp
        clear hT0 HP HXN HWL HC HW HS HG hTn
        obtain ⟨h, hpar⟩ : ∃ h, N = 2 * h ∨ N = 2 * h + 1 := ⟨N / 2, by omega⟩
        have hh2 : (h : Int) ≤ 20 := by omega
        have hq : (N : Int).tdiv 2 = (h : Int) := by rw [Int.tdiv_eq_ediv_of_nonneg (by omega)]; omega
        generalize X ++ T0 ++ X = Y2 at *
        generalize X ++ T0 = Y1 at *
        go_wp2_with (go_at_call 9; refine Calls.mono (HPx.out _ HB2.out) ?_; rintro e u3 ⟨v', rfl, hr3, hb3⟩; have HR3 := (show Hid (InRow _ _ _) from hr3); have HB3 := (show Hid (Below _ _ _) from hb3); clear hb3 hr3)
        rcases hpar with hpar | hpar
        · have hrem : (N : Int).tmod 2 = 0 := by rw [Int.tmod_eq_emod_of_nonneg (by omega)]; omega
          have HR : Hid (InRow u3 (strongI h (.cons { text := T0 } .nil .nil)) v') := by
            have := HR3.out
            rw [hpar, told_even, HT0.out] at this
            exact this
          have hh1 : 1 ≤ h := by omega
          clear HR3 HT0 hpar HPx
          go_loopw [12, 13] (fun l i wr2 => ∃ (j : Nat), i = .int .i64 (j : Int) ∧ j ≤ h ∧ Hid (InRow u3 (strongI (h - j) (.cons { text := T0 } .nil .nil)) l) ∧ wr2 = u3) (fun _ i _ => h - (intOf i).toNat)
          case atStart => exact ⟨0, rfl, Nat.zero_le _, HR, rfl⟩
          case round =>
            obtain ⟨j, rfl, hj, HR2, hw⟩ := hrel
            subst hw
            have hjh : (j : Int) ≤ (h : Int) := by omega
            by_cases hlt : j < h
            · obtain ⟨q, hq2⟩ : ∃ q, h - j = q + 1 := ⟨h - j - 1, by omega⟩
              rw [hq2] at HR2
              obtain ⟨g, c, v2, rfl, k0, k1, k4, hr2⟩ := inrow_one HR2.out
              rw [show q = h - (j + 1) by omega] at hr2
              have HRN := (show Hid (InRow _ _ _) from hr2)
              have hne : ((j : Int) == (h : Int)) = false := by simp; omega
              clear HR2 hr2 hq2 HR
              by_cases h0 : j = 0
              · subst h0
                go_wp2
                go_roundw
                case rel => exact ⟨0 + 1, by go_num, by omega, HRN, by first | rfl | trivial⟩
                case measure => (simp [intOf]) <;> omega
              · have hz : ((j : Int) == 0) = false := by simp; omega
                go_wp2
                go_roundw
                case rel => exact ⟨j + 1, by go_num, by omega, HRN, by first | rfl | trivial⟩
                case measure => (simp [intOf]) <;> omega
            · obtain rfl : j = h := by omega
              rw [Nat.sub_self] at HR2
              obtain ⟨g, c, v2, rfl, k0, k1, k4, hr2⟩ := inrow_one HR2.out
              have hz : ((j : Int) == 0) = false := by simp; omega
              clear HR2 hr2 HR
              go_wp2
              go_ret
              exact ⟨rfl, HB3.out⟩
        · have hrem : (N : Int).tmod 2 = 1 := by rw [Int.tmod_eq_emod_of_nonneg (by omega)]; omega
          have HR : Hid (InRow u3 (.cons { kind := 4 } (strongI h (.cons { text := T0 } .nil .nil)) .nil) v') := by
            have := HR3.out
            rw [hpar, told_odd, HT0.out] at this
            exact this
          clear HR3 HT0 HPx
          go_loopw [12, 13] (fun l i wr2 => ∃ (j : Nat), i = .int .i64 (j : Int) ∧ ((j = 0 ∧ Hid (InRow u3 (.cons { kind := 4 } (strongI h (.cons { text := T0 } .nil .nil)) .nil) l)) ∨ (1 ≤ j ∧ j ≤ h + 1 ∧ Hid (InRow u3 (strongI (h + 1 - j) (.cons { text := T0 } .nil .nil)) l))) ∧ wr2 = u3) (fun _ i _ => h + 1 - (intOf i).toNat)
          case atStart => exact ⟨0, rfl, .inl ⟨rfl, HR⟩, rfl⟩
          case round =>
            obtain ⟨j, rfl, hcase, hw⟩ := hrel
            subst hw
            rcases hcase with ⟨h0, HR2⟩ | ⟨hj1, hj2, HR2⟩
            · subst h0
              obtain ⟨g, c, v2, rfl, k0, k1, k4, hr2⟩ := inrow_one HR2.out
              have hh0 : (0 : Int) ≤ (h : Int) := by omega
              by_cases h1 : N = 1
              · have hz : h = 0 := by omega
                subst hz
                subst h1
                obtain ⟨g2, c2, v3, rfl, m0, m1, m4, hr3⟩ := inrow_one hr2
                clear HR2 hr2 HR hr3 hpar
                go_wp2
                go_ret
                exact ⟨rfl, HB3.out⟩
              · have hn1 : ((N : Int) == 1) = false := by simp; omega
                have HRN := (show Hid (InRow _ _ _) from hr2)
                have hh1 : 1 ≤ h := by omega
                clear HR2 hr2 HR hpar h1
                go_wp2
                go_roundw
                case rel => exact ⟨1, by go_num, .inr ⟨by omega, by omega, by rw [Nat.add_sub_cancel]; exact HRN⟩, by first | rfl | trivial⟩
                case measure => (simp [intOf]) <;> omega
            · have hz : ((j : Int) == 0) = false := by simp; omega
              by_cases hlt : j ≤ h
              · have hjh : (j : Int) ≤ (h : Int) := by omega
                obtain ⟨q, hq2⟩ : ∃ q, h + 1 - j = q + 1 := ⟨h - j, by omega⟩
                rw [hq2] at HR2
                obtain ⟨g, c, v2, rfl, k0, k1, k4, hr2⟩ := inrow_one HR2.out
                rw [show q = h + 1 - (j + 1) by omega] at hr2
                have HRN := (show Hid (InRow _ _ _) from hr2)
                clear HR2 hr2 hq2 HR hpar
                by_cases hjeq : j = h
                · subst hjeq
                  go_wp2
                  go_roundw
                  case rel => exact ⟨j + 1, by go_num, .inr ⟨by omega, by omega, HRN⟩, by first | rfl | trivial⟩
                  case measure => (simp [intOf]) <;> omega
                · have hne : ((j : Int) == (h : Int)) = false := by simp; omega
                  go_wp2
                  go_roundw
                  case rel => exact ⟨j + 1, by go_num, .inr ⟨by omega, by omega, HRN⟩, by first | rfl | trivial⟩
                  case measure => (simp [intOf]) <;> omega
              · have hjh : ¬ (j : Int) ≤ (h : Int) := by omega
                rw [show h + 1 - j = 0 by omega] at HR2
                obtain ⟨g, c, v2, rfl, k0, k1, k4, hr2⟩ := inrow_one HR2.out
                clear HR2 hr2 HR hpar
                go_wp2
                go_ret
                exact ⟨rfl, HB3.out⟩
end Go.Proofs.YtjdijlaoeoikhaaGreatDoor
