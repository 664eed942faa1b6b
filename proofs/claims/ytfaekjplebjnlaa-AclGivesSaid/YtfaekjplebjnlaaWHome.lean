/- AclHome: people of a tenant may write in it, and its root owns it; walked. -/
import Derived.Test.YtfaekjplebjnlaaAShown
import Derived.Test.YtfaekjplebjnlaaPlainHome
import Derived.Laws.Strings3
set_option linter.unusedVariables false
namespace Go.Proofs.Ytfaekjplebjnlaa
open Go.RowKit

theorem hadd_ex (A B : StrA) (h : A.length + B.length ≤ 9000000000000000000) : ∃ C : StrA, Hid (C = A ++ B) ∧ C.length = A.length + B.length ∧ ∀ w, (Op.stringOp .add (ByteArray.mk A.toArray) (ByteArray.mk B.toArray)).run Try.prog w = .ok (strA C) w :=
  ⟨A ++ B, rfl, by simp, fun w => by show _ = Result.ok (Value.string ⟨(A ++ B).toArray⟩) w; rw [← cat_eq]; exact run_string_add_sum (w := w) _ _ (by rw [size_list, size_list]; omega)⟩

set_option maxHeartbeats 8000000 in
set_option maxRecDepth 20000 in
theorem whome (L : List GrA) (hL : Lens L) (a : Option Addr) (cap : Nat) (hcap : L.length ≤ 9223372036854775807) (T O Q : StrA) (hT : T.length ≤ 140737488351232) (hO : O.length ≤ 140737488351232) (hQ : Q.length ≤ 140737488351232) (w : World) (hv : GrsAt w (.slice a L.length cap) L) :
    Calls Try.prog 6 #[.slice a L.length cap, strA T, strA O, strA Q] w fun e w' => e = .returned (.bool true) ∧ Below w.heap.size w w' := by
  have HS : Hid (Calls Try.prog 8 #[] w fun e w' => e = .returned (.bool true) ∧ Below w.heap.size w w') := ashown_any w
  have HR : Hid (∀ u, Below w.heap.size w u → Calls Try.prog 14 #[.slice a L.length cap] u fun e w' => e = .returned (.bool (rightA L)) ∧ Below u.heap.size u w') := fun u hu => aright_any L hL _ u (hv.below hu)
  have N1 : Hid (∀ u, Calls Try.prog 21 #[strA T] u fun e w' => e = .returned (.bool (nameA T)) ∧ w' = u) := fun u => aname_any T u
  have N2 : Hid (∀ u, Calls Try.prog 21 #[strA O] u fun e w' => e = .returned (.bool (nameA O)) ∧ w' = u) := fun u => aname_any O u
  have N3 : Hid (∀ u, Calls Try.prog 21 #[strA Q] u fun e w' => e = .returned (.bool (nameA Q)) ∧ w' = u) := fun u => aname_any Q u
  have HM0 := (show Hid (∀ (t o : StrA) (u : World), o.length ≤ 9223372036854775000 → Below w.heap.size w u → Calls Try.prog 16 #[.slice a L.length cap, strA t, strA o] u fun e w' => e = .returned (.int .i64 (mayA L t o)) ∧ Below u.heap.size u w') from fun t o u ho hu => amay_any L hL t o ho _ u (hv.below hu))
  have HV := (show Hid (GrsAt w (.slice a L.length cap) L) from hv)
  clear hv hL
  by_cases h200 : 200 < L.length
  · have hi : (200 : Int) < (L.length : Int) := by omega
    clear HR N1 N2 N3 HM0 HV
    go_enter Try.func6, Try.ntmps6
    go_wp2_with (go_at_call 8; refine Calls.mono HS.out ?_; rintro e u1 ⟨rfl, hb1⟩; have HB1 := (show Hid (Below w.heap.size w u1) from hb1); clear hb1)
    go_ret
    exact ⟨rfl, HB1.out⟩
  · have hi : ¬ (200 : Int) < (L.length : Int) := by omega
    cases hr : rightA L
    · rw [hr] at HR
      clear N1 N2 N3 HM0 HV hr
      go_enter Try.func6, Try.ntmps6
      go_wp2_with (first | (go_at_call 8; refine Calls.mono HS.out ?_; rintro e u1 ⟨rfl, hb1⟩; have HB1 := (show Hid (Below w.heap.size w u1) from hb1); clear hb1) | (go_at_call 14; refine Calls.mono (HR.out u1 HB1.out) ?_; rintro e u2 ⟨rfl, hb2⟩; have HB2 := (show Hid (Below w.heap.size w u2) from HB1.out.trans (hb2.mono HB1.out.size)); clear hb2))
      go_ret
      exact ⟨rfl, HB2.out⟩
    · rw [hr] at HR
      cases h1 : nameA T
      · rw [h1] at N1
        clear N2 N3 HM0 HV hr h1
        go_enter Try.func6, Try.ntmps6
        go_wp2_with (first | (go_at_call 8; refine Calls.mono HS.out ?_; rintro e u1 ⟨rfl, hb1⟩; have HB1 := (show Hid (Below w.heap.size w u1) from hb1); clear hb1) | (go_at_call 14; refine Calls.mono (HR.out u1 HB1.out) ?_; rintro e u2 ⟨rfl, hb2⟩; have HB2 := (show Hid (Below w.heap.size w u2) from HB1.out.trans (hb2.mono HB1.out.size)); clear hb2) | (go_at_call_of 21 (strA T); refine Calls.mono (N1.out _) ?_; rintro e u5 ⟨rfl, hu⟩; subst hu))
        go_ret
        exact ⟨rfl, HB2.out⟩
      · rw [h1] at N1
        cases h2 : nameA O
        · rw [h2] at N2
          clear N3 HM0 HV hr h1 h2
          go_enter Try.func6, Try.ntmps6
          go_wp2_with (first | (go_at_call 8; refine Calls.mono HS.out ?_; rintro e u1 ⟨rfl, hb1⟩; have HB1 := (show Hid (Below w.heap.size w u1) from hb1); clear hb1) | (go_at_call 14; refine Calls.mono (HR.out u1 HB1.out) ?_; rintro e u2 ⟨rfl, hb2⟩; have HB2 := (show Hid (Below w.heap.size w u2) from HB1.out.trans (hb2.mono HB1.out.size)); clear hb2) | (go_at_call_of 21 (strA T); refine Calls.mono (N1.out _) ?_; rintro e u5 ⟨rfl, hu⟩; subst hu) | (go_at_call_of 21 (strA O); refine Calls.mono (N2.out _) ?_; rintro e u6 ⟨rfl, hu⟩; subst hu))
          go_ret
          exact ⟨rfl, HB2.out⟩
        · rw [h2] at N2
          cases h3 : nameA Q
          · rw [h3] at N3
            clear HM0 HV hr h1 h2 h3
            go_enter Try.func6, Try.ntmps6
            go_wp2_with (first | (go_at_call 8; refine Calls.mono HS.out ?_; rintro e u1 ⟨rfl, hb1⟩; have HB1 := (show Hid (Below w.heap.size w u1) from hb1); clear hb1) | (go_at_call 14; refine Calls.mono (HR.out u1 HB1.out) ?_; rintro e u2 ⟨rfl, hb2⟩; have HB2 := (show Hid (Below w.heap.size w u2) from HB1.out.trans (hb2.mono HB1.out.size)); clear hb2) | (go_at_call_of 21 (strA T); refine Calls.mono (N1.out _) ?_; rintro e u5 ⟨rfl, hu⟩; subst hu) | (go_at_call_of 21 (strA O); refine Calls.mono (N2.out _) ?_; rintro e u6 ⟨rfl, hu⟩; subst hu) | (go_at_call_of 21 (strA Q); refine Calls.mono (N3.out _) ?_; rintro e u7 ⟨rfl, hu⟩; subst hu))
            go_ret
            exact ⟨rfl, HB2.out⟩
          · rw [h3] at N3
            have lT := name_len h1
            have lO := name_len h2
            have lQ := name_len h3
            have h64 := (right_asc hr).1
            obtain ⟨T1, HT1, hT1, a1⟩ := hadd_ex T [47] (by simp only [List.length_cons, List.length_nil]; omega)
            obtain ⟨T2, HT2, hT2, a2⟩ := hadd_ex T1 O (by simp only [List.length_cons, List.length_nil] at *; omega)
            obtain ⟨Q1, HQ1, hQ1, a3⟩ := hadd_ex Q [47] (by simp only [List.length_cons, List.length_nil]; omega)
            obtain ⟨Q2, HQ2, hQ2, a4⟩ := hadd_ex Q1 O (by simp only [List.length_cons, List.length_nil] at *; omega)
            simp only [List.length_cons, List.length_nil] at hT1 hQ1
            have eT : T2 = T ++ 47 :: O := by rw [HT2.out, HT1.out]; simp
            have eQ : Q2 = Q ++ 47 :: O := by rw [HQ2.out, HQ1.out]; simp
            have HM1 : Hid (∀ u : World, Below w.heap.size w u → Calls Try.prog 16 #[.slice a L.length cap, strA T, strA T2] u fun e w' => e = .returned (.int .i64 (wantA O)) ∧ Below u.heap.size u w') := fun u hu => by have := HM0.out T T2 u (by omega) hu; rw [eT, home_may hr h1 h2] at this; rw [eT]; exact this
            have HM2 : Hid (∀ u : World, Below w.heap.size w u → Calls Try.prog 16 #[.slice a L.length cap, strA T, strA Q2] u fun e w' => e = .returned (.int .i64 (if Q = T then wantA O else lastN L T Q2 L.length)) ∧ Below u.heap.size u w') := fun u hu => by have := HM0.out T Q2 u (by omega) hu; rw [eQ, other_may hr h1 h2 h3] at this; rw [eQ]; exact this
            clear HM0 HT1 HT2 HQ1 HQ2 eT eQ hr h1 h2 h3
            have hLi : (L.length : Int) ≤ 64 := by omega
            by_cases hroot : O = [114, 111, 111, 116]
            · have hrb : (O == [114, 111, 111, 116]) = true := by simpa using hroot
              have hw : wantA O = 3 := if_pos hroot
              rw [hw] at HM1 HM2
              clear hw hroot
              go_enter Try.func6, Try.ntmps6
              go_wp2_with (first | (go_at_call 8; refine Calls.mono HS.out ?_; rintro e u1 ⟨rfl, hb1⟩; have HB1 := (show Hid (Below w.heap.size w u1) from hb1); clear hb1) | (go_at_call 14; refine Calls.mono (HR.out u1 HB1.out) ?_; rintro e u2 ⟨rfl, hb2⟩; have HB2 := (show Hid (Below w.heap.size w u2) from HB1.out.trans (hb2.mono HB1.out.size)); clear hb2) | (go_at_call_of 21 (strA T); refine Calls.mono (N1.out _) ?_; rintro e u5 ⟨rfl, hu⟩; subst hu) | (go_at_call_of 21 (strA O); refine Calls.mono (N2.out _) ?_; rintro e u6 ⟨rfl, hu⟩; subst hu) | (go_at_call_of 21 (strA Q); refine Calls.mono (N3.out _) ?_; rintro e u7 ⟨rfl, hu⟩; subst hu))
              clear HS HR N1 N2 N3
              go_loopw [11, 12] (fun n i wr => ∃ k : Nat, i = .int .i64 (k : Int) ∧ n = .int .i64 (lastN L T Q2 k) ∧ k ≤ L.length ∧ Hid (Below w.heap.size w wr)) (fun _ i _ => L.length - (intOf i).toNat)
              case atStart => exact ⟨0, rfl, rfl, Nat.zero_le _, HB2⟩
              case round =>
                obtain ⟨k, rfl, rfl, hk, HB⟩ := hrel
                by_cases hlt : k < L.length
                · have hlt1 : (k : Int) < (L.length : Int) := by omega
                  obtain ⟨g, hg⟩ : ∃ g, L[k]? = some g := ⟨_, List.getElem?_eq_getElem hlt⟩
                  have HN0 := (show Hid (lastN L T Q2 (k + 1) = if hitA g T Q2 = true then g.right else lastN L T Q2 k) from last_next hg)
                  have HH : Hid (hitA g T Q2 = ((g.tenant == T) && (g.who == Q2))) := rfl
                  obtain ⟨a', cp, hv', hc⟩ := HV.out
                  cases hv'
                  obtain ⟨b, o, ha, hbw, c0, c1, c2⟩ := hc k g hg
                  subst ha
                  have d0 : wr.cell? ⟨b, o + k * 3, none⟩ = some (strA g.tenant) := (HB.out.cell (p := ⟨b, o + k * 3, none⟩) hbw).trans c0
                  have d1 : wr.cell? ⟨b, o + k * 3 + 1, none⟩ = some (strA g.who) := (HB.out.cell (p := ⟨b, o + k * 3 + 1, none⟩) hbw).trans c1
                  have d2 : wr.cell? ⟨b, o + k * 3 + 2, none⟩ = some (.int .i64 g.right) := (HB.out.cell (p := ⟨b, o + k * 3 + 2, none⟩) hbw).trans c2
                  clear hc c0 c1 c2 hg HV HM1 HM2
                  obtain ⟨gt, gw, gr⟩ := g
                  simp only at d0 d1 d2 HN0 HH
                  generalize lastN L T Q2 k = V0 at *
                  cases e1 : (gt == T)
                  · have hV : lastN L T Q2 (k + 1) = V0 := by rw [HN0.out, if_neg (by rw [HH.out, e1]; simp)]
                    have HN := (show Hid (lastN L T Q2 (k + 1) = V0) from hV)
                    clear HN0 HH hV
                    go_wp2
                    go_roundw
                    case rel => exact ⟨k + 1, by go_num, by rw [HN.out], by omega, HB⟩
                    case measure => (simp [intOf]) <;> omega
                  · cases e2 : (gw == Q2)
                    · have hV : lastN L T Q2 (k + 1) = V0 := by rw [HN0.out, if_neg (by rw [HH.out, e2]; simp)]
                      have HN := (show Hid (lastN L T Q2 (k + 1) = V0) from hV)
                      clear HN0 HH hV
                      go_wp2
                      go_roundw
                      case rel => exact ⟨k + 1, by go_num, by rw [HN.out], by omega, HB⟩
                      case measure => (simp [intOf]) <;> omega
                    · have hV : lastN L T Q2 (k + 1) = gr := by rw [HN0.out, if_pos (by rw [HH.out, e1, e2]; rfl)]
                      have HN := (show Hid (lastN L T Q2 (k + 1) = gr) from hV)
                      clear HN0 HH hV
                      go_wp2
                      go_roundw
                      case rel => exact ⟨k + 1, by go_num, by rw [HN.out], by omega, HB⟩
                      case measure => (simp [intOf]) <;> omega
                · have hlt1 : ¬ (k : Int) < (L.length : Int) := by omega
                  obtain rfl : k = L.length := by omega
                  clear HV
                  by_cases hq : Q = T
                  · have hqb : (Q == T) = true := by simpa using hq
                    rw [if_pos hq] at HM2
                    clear hq
                    generalize lastN L T Q2 L.length = V at *
                    go_wp2_with (first | (go_at_call_of 16 (strA T2); refine Calls.mono (HM1.out wr HB.out) ?_; rintro e u8 ⟨rfl, hb8⟩; have HB8 := (show Hid (Below w.heap.size w u8) from HB.out.trans (hb8.mono HB.out.size)); clear hb8) | (go_at_call_of 16 (strA Q2); refine Calls.mono (HM2.out u8 HB8.out) ?_; rintro e u9 ⟨rfl, hb9⟩; have HB9 := (show Hid (Below w.heap.size w u9) from HB8.out.trans (hb9.mono HB8.out.size)); clear hb9))
                    go_ret
                    exact ⟨rfl, HB9.out⟩
                  · have hqb : (Q == T) = false := by simpa using hq
                    rw [if_neg hq] at HM2
                    clear hq
                    generalize lastN L T Q2 L.length = V at *
                    have hVV : (V == V) = true := by simp
                    go_wp2_with (first | (go_at_call_of 16 (strA T2); refine Calls.mono (HM1.out wr HB.out) ?_; rintro e u8 ⟨rfl, hb8⟩; have HB8 := (show Hid (Below w.heap.size w u8) from HB.out.trans (hb8.mono HB.out.size)); clear hb8) | (go_at_call_of 16 (strA Q2); refine Calls.mono (HM2.out u8 HB8.out) ?_; rintro e u9 ⟨rfl, hb9⟩; have HB9 := (show Hid (Below w.heap.size w u9) from HB8.out.trans (hb9.mono HB8.out.size)); clear hb9))
                    go_ret
                    exact ⟨rfl, HB9.out⟩
            · have hrb : (O == [114, 111, 111, 116]) = false := by simpa using hroot
              have hw : wantA O = 2 := if_neg hroot
              rw [hw] at HM1 HM2
              clear hw hroot
              go_enter Try.func6, Try.ntmps6
              go_wp2_with (first | (go_at_call 8; refine Calls.mono HS.out ?_; rintro e u1 ⟨rfl, hb1⟩; have HB1 := (show Hid (Below w.heap.size w u1) from hb1); clear hb1) | (go_at_call 14; refine Calls.mono (HR.out u1 HB1.out) ?_; rintro e u2 ⟨rfl, hb2⟩; have HB2 := (show Hid (Below w.heap.size w u2) from HB1.out.trans (hb2.mono HB1.out.size)); clear hb2) | (go_at_call_of 21 (strA T); refine Calls.mono (N1.out _) ?_; rintro e u5 ⟨rfl, hu⟩; subst hu) | (go_at_call_of 21 (strA O); refine Calls.mono (N2.out _) ?_; rintro e u6 ⟨rfl, hu⟩; subst hu) | (go_at_call_of 21 (strA Q); refine Calls.mono (N3.out _) ?_; rintro e u7 ⟨rfl, hu⟩; subst hu))
              clear HS HR N1 N2 N3
              go_loopw [11, 12] (fun n i wr => ∃ k : Nat, i = .int .i64 (k : Int) ∧ n = .int .i64 (lastN L T Q2 k) ∧ k ≤ L.length ∧ Hid (Below w.heap.size w wr)) (fun _ i _ => L.length - (intOf i).toNat)
              case atStart => exact ⟨0, rfl, rfl, Nat.zero_le _, HB2⟩
              case round =>
                obtain ⟨k, rfl, rfl, hk, HB⟩ := hrel
                by_cases hlt : k < L.length
                · have hlt1 : (k : Int) < (L.length : Int) := by omega
                  obtain ⟨g, hg⟩ : ∃ g, L[k]? = some g := ⟨_, List.getElem?_eq_getElem hlt⟩
                  have HN0 := (show Hid (lastN L T Q2 (k + 1) = if hitA g T Q2 = true then g.right else lastN L T Q2 k) from last_next hg)
                  have HH : Hid (hitA g T Q2 = ((g.tenant == T) && (g.who == Q2))) := rfl
                  obtain ⟨a', cp, hv', hc⟩ := HV.out
                  cases hv'
                  obtain ⟨b, o, ha, hbw, c0, c1, c2⟩ := hc k g hg
                  subst ha
                  have d0 : wr.cell? ⟨b, o + k * 3, none⟩ = some (strA g.tenant) := (HB.out.cell (p := ⟨b, o + k * 3, none⟩) hbw).trans c0
                  have d1 : wr.cell? ⟨b, o + k * 3 + 1, none⟩ = some (strA g.who) := (HB.out.cell (p := ⟨b, o + k * 3 + 1, none⟩) hbw).trans c1
                  have d2 : wr.cell? ⟨b, o + k * 3 + 2, none⟩ = some (.int .i64 g.right) := (HB.out.cell (p := ⟨b, o + k * 3 + 2, none⟩) hbw).trans c2
                  clear hc c0 c1 c2 hg HV HM1 HM2
                  obtain ⟨gt, gw, gr⟩ := g
                  simp only at d0 d1 d2 HN0 HH
                  generalize lastN L T Q2 k = V0 at *
                  cases e1 : (gt == T)
                  · have hV : lastN L T Q2 (k + 1) = V0 := by rw [HN0.out, if_neg (by rw [HH.out, e1]; simp)]
                    have HN := (show Hid (lastN L T Q2 (k + 1) = V0) from hV)
                    clear HN0 HH hV
                    go_wp2
                    go_roundw
                    case rel => exact ⟨k + 1, by go_num, by rw [HN.out], by omega, HB⟩
                    case measure => (simp [intOf]) <;> omega
                  · cases e2 : (gw == Q2)
                    · have hV : lastN L T Q2 (k + 1) = V0 := by rw [HN0.out, if_neg (by rw [HH.out, e2]; simp)]
                      have HN := (show Hid (lastN L T Q2 (k + 1) = V0) from hV)
                      clear HN0 HH hV
                      go_wp2
                      go_roundw
                      case rel => exact ⟨k + 1, by go_num, by rw [HN.out], by omega, HB⟩
                      case measure => (simp [intOf]) <;> omega
                    · have hV : lastN L T Q2 (k + 1) = gr := by rw [HN0.out, if_pos (by rw [HH.out, e1, e2]; rfl)]
                      have HN := (show Hid (lastN L T Q2 (k + 1) = gr) from hV)
                      clear HN0 HH hV
                      go_wp2
                      go_roundw
                      case rel => exact ⟨k + 1, by go_num, by rw [HN.out], by omega, HB⟩
                      case measure => (simp [intOf]) <;> omega
                · have hlt1 : ¬ (k : Int) < (L.length : Int) := by omega
                  obtain rfl : k = L.length := by omega
                  clear HV
                  by_cases hq : Q = T
                  · have hqb : (Q == T) = true := by simpa using hq
                    rw [if_pos hq] at HM2
                    clear hq
                    generalize lastN L T Q2 L.length = V at *
                    go_wp2_with (first | (go_at_call_of 16 (strA T2); refine Calls.mono (HM1.out wr HB.out) ?_; rintro e u8 ⟨rfl, hb8⟩; have HB8 := (show Hid (Below w.heap.size w u8) from HB.out.trans (hb8.mono HB.out.size)); clear hb8) | (go_at_call_of 16 (strA Q2); refine Calls.mono (HM2.out u8 HB8.out) ?_; rintro e u9 ⟨rfl, hb9⟩; have HB9 := (show Hid (Below w.heap.size w u9) from HB8.out.trans (hb9.mono HB8.out.size)); clear hb9))
                    go_ret
                    exact ⟨rfl, HB9.out⟩
                  · have hqb : (Q == T) = false := by simpa using hq
                    rw [if_neg hq] at HM2
                    clear hq
                    generalize lastN L T Q2 L.length = V at *
                    have hVV : (V == V) = true := by simp
                    go_wp2_with (first | (go_at_call_of 16 (strA T2); refine Calls.mono (HM1.out wr HB.out) ?_; rintro e u8 ⟨rfl, hb8⟩; have HB8 := (show Hid (Below w.heap.size w u8) from HB.out.trans (hb8.mono HB.out.size)); clear hb8) | (go_at_call_of 16 (strA Q2); refine Calls.mono (HM2.out u8 HB8.out) ?_; rintro e u9 ⟨rfl, hb9⟩; have HB9 := (show Hid (Below w.heap.size w u9) from HB8.out.trans (hb9.mono HB8.out.size)); clear hb9))
                    go_ret
                    exact ⟨rfl, HB9.out⟩
end Go.Proofs.Ytfaekjplebjnlaa
