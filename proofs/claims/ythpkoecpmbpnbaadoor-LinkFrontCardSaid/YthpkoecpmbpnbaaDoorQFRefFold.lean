/- The document's Fold, of any text. -/
import Derived.Test.YthpkoecpmbpnbaaDoorQFRefSmall
import Derived.Test.YthpkoecpmbpnbaaDoorQFRefClean
set_option linter.unusedVariables false
namespace Go.Proofs.YthpkoecpmbpnbaaDoor.run
open Go.RowKit

set_option maxHeartbeats 4000000 in
set_option maxRecDepth 100000 in
theorem reffold_any (s : ByteArray) (w : World) (hsm : s.size ≤ 1073741824) :
    Calls Tryd.prog 17 #[.string s] w fun e w' => e = .returned (.string ⟨(fold s.data.toList).toArray⟩) ∧ Below w.heap.size w w' := by
  obtain ⟨i0, hi, hz0, hz1, hz2⟩ := info_parts info5
  go_enter Tryd.func17, Tryd.ntmps17
  go_wp2
  go_loopw [3, 4, 5] (fun v tg ti wr => ∃ (p : Nat) (acc : List Nat) (gap : Bool), wr.ownsRow w.heap.size 5 1 v (encAll acc).length (Lib.byteCells (encAll acc)) ∧ tg = .bool gap ∧ ti = .int .i64 p ∧ p ≤ s.size ∧ (encAll acc).length ≤ 5 * p ∧ Below w.heap.size w wr ∧ Hid (encAll (foldS acc gap (runes (s.data.toList.drop p))) = fold s.data.toList)) (fun _ _ ti _ => s.size - (intOf ti).toNat)
  case atStart => exact ⟨0, [], false, World.ownsRow_nil _ _ _ _, rfl, rfl, by omega, by simp [encAll_nil], Below.refl _ _, rfl⟩
  case round =>
    obtain ⟨p, acc, gap, hown, rfl, rfl, hp, hal, hbw, HA⟩ := hrel
    have hsz := hbw.size
    by_cases hlt : p < s.size
    · have hdn : s.data.toList.drop p ≠ [] := drop_ne (by rw [len_data]; exact hlt)
      have hok := dc_ok (s.data.toList.drop p) hdn
      have hst := runes_cons (s.data.toList.drop p) hdn
      have hfst := first_at s p wr hlt hsm
      rw [List.length_drop, len_data] at hok
      rw [List.drop_drop] at hst
      have hacc := HA.out
      rw [hst] at hacc
      clear hst HA
      generalize hr : (dc (s.data.toList.drop p)).1 = r at *
      generalize hn : (dc (s.data.toList.drop p)).2 = n at *
      obtain ⟨hr1, hn1, hn2⟩ := hok
      have hsb := space_nat r
      have hsml := fun wx => rsmall_any r hr1 wx
      have HSM := (show Hid (∀ wx, Calls Tryd.prog 39 #[.int .i64 (r : Int)] wx fun e w' => e = .returned (.string ⟨(encAll (smallR r)).toArray⟩) ∧ Below wx.heap.size wx w') from hsml)
      have hl4 := smallR_len r
      obtain ⟨ao, cap, hv⟩ := own_slice hown
      subst hv
      clear hr hn hdn hsml
      cases hsp : spaceN r with
      | true =>
        rw [foldS_space _ _ _ _ hsp] at hacc
        rw [hsp] at hsb
        have HN : Hid (encAll (foldS acc true (runes (s.data.toList.drop (p + n)))) = fold s.data.toList) := hacc
        clear hacc hsp
        go_wp2_with (first | (go_at_call 37; refine hfst.mono ?_; rintro e w' ⟨rfl, rfl⟩) | (go_at_call 38; refine (refspace_any _ _).mono ?_; rintro e w' ⟨rfl, rfl⟩))
        go_roundw
        case rel => exact ⟨p + n, acc, true, hown, rfl, by go_num, by omega, by omega, hbw, HN⟩
        case measure => simp [intOf]; omega
      | false =>
        rw [foldS_char _ _ _ _ hsp] at hacc
        rw [hsp] at hsb
        by_cases hgp : gap = true ∧ acc.length ≠ 0
        · have hgr : gapR gap acc = [32] := by unfold gapR; rw [if_pos hgp]
          rw [hgr] at hacc
          have hlen : 0 < (encAll acc).length := by have := (encAll_le acc).1; omega
          have hltz : (0 : Int) < ((encAll acc).length : Int) := by omega
          obtain ⟨rfl, hg2⟩ := hgp
          have HN : Hid (encAll (foldS (acc ++ [32] ++ smallR r) false (runes (s.data.toList.drop (p + n)))) = fold s.data.toList) := hacc
          clear hacc hsp hgr hg2
          go_wp2_with (first | (go_at_call 37; refine hfst.mono ?_; rintro e w' ⟨rfl, rfl⟩) | (go_at_call 38; refine (refspace_any _ _).mono ?_; rintro e w' ⟨rfl, rfl⟩) | (at_builtin; refine wpList_append_own _ rfl _ _ 46 rfl w.heap.size 5 i0 (.int .u8 0) 1 1 Tryd.underlying46 hi hz0 hz1 hz2 rfl (by decide) _ _ _ rfl (hown.alloc _) ⟨wr.heap.size, 0, none⟩ 1 1 [.int .u8 32] rfl rfl ?c1 ?c2 ?c3 ?c4 ?c5 ?_))
          case c1 => exact lit_cells _ [.int .u8 32] _
          case c2 => intro u hu; simp at hu; subst hu; rfl
          case c3 => unfold maxLen; omega
          case c4 => omega
          case c5 => simp; omega
          intro v2 w2 hown3 hgrow _
          have hbw3 := below_grown hbw hsz hown hgrow
          have hsz3 : w.heap.size ≤ w2.heap.size := by have := hgrow.size; simp at this; omega
          have hown4 : w2.ownsRow w.heap.size 5 1 v2 ((encAll acc).length + 1) (Lib.byteCells (encAll acc) ++ [.int .u8 32]) := hown3
          clear hown3 hgrow hown hbw
          go_wp2_with (go_at_call 39; refine (HSM.out _).mono ?_)
          first | rintro e w3 rfl hb3 | rintro e w3 ⟨rfl, hb3⟩
          have hown5 := own_stays hown4 hb3
          have hbw5 := hbw3.trans (hb3.mono hsz3)
          have hsz5 := hbw5.size
          have hsl := size_list (encAll (smallR r))
          go_wp2_with (at_builtin; refine Lib.wpList_append_own_string _ rfl _ _ 46 9 rfl w.heap.size 5 i0 Tryd.underlying46 Tryd.underlying9 hi hz0 hz1 hz2 _ _ _ rfl hown5 _ rfl ?d1 ?d2 hsz5 ?_)
          case d1 => unfold maxLen; omega
          case d2 => omega
          intro v3 w4 hown6 hgrow6 _
          have hbw6 := below_grown0 hbw5 hsz5 hown5 hgrow6
          try rw [hsl] at hown6
          go_wp2
          go_roundw
          case rel =>
            have ea : encAll (acc ++ [32] ++ smallR r) = (encAll acc ++ [32]) ++ encAll (smallR r) := by rw [encAll_append, encAll_append]; rfl
            refine ⟨p + n, acc ++ [32] ++ smallR r, false, ?_, rfl, by go_num, by omega, ?_, hbw6, HN⟩
            · rw [ea, Lib.byteCells_append, bytes_push, List.length_append, List.length_append, List.append_assoc]; first | exact hown6 | (rw [List.append_assoc] at hown6; exact hown6)
            · rw [ea, List.length_append, List.length_append]; simp only [List.length_cons, List.length_nil]; omega
          case measure => simp [intOf]; omega
        · have hgr : gapR gap acc = [] := by unfold gapR; rw [if_neg hgp]
          rw [hgr, List.append_nil] at hacc
          have HN : Hid (encAll (foldS (acc ++ smallR r) false (runes (s.data.toList.drop (p + n)))) = fold s.data.toList) := hacc
          have hdec : gap = false ∨ (gap = true ∧ (encAll acc).length = 0) := by
            cases gap with
            | false => exact .inl rfl
            | true =>
              have h0 : acc.length = 0 := by
                by_cases h : acc.length = 0
                · exact h
                · exact absurd ⟨rfl, h⟩ hgp
              have := (encAll_le acc).2
              exact .inr ⟨rfl, by omega⟩
          clear hacc hsp hgr hgp
          have hsl := size_list (encAll (smallR r))
          rcases hdec with rfl | ⟨rfl, hz⟩
          case inr =>
            have hnl : ¬ (0 : Int) < ((encAll acc).length : Int) := by omega
            have hdd : decide ((0 : Int) < ((encAll acc).length : Int)) = false := decide_eq_false hnl
            have HZ : Hid ((encAll acc).length = 0) := hz
            clear hz
            go_wp2_with (first | (go_at_call 37; refine hfst.mono ?_; rintro e w' ⟨rfl, rfl⟩) | (go_at_call 38; refine (refspace_any _ _).mono ?_; rintro e w' ⟨rfl, rfl⟩) | (go_at_call 39; refine (HSM.out _).mono ?_))
            all_goals
              first | rintro e w3 rfl hb3 | rintro e w3 ⟨rfl, hb3⟩
              have hown5 := own_stays hown hb3
              have hbw5 := hbw.trans (hb3.mono hsz)
              have hsz5 := hbw5.size
              go_wp2_with (at_builtin; refine Lib.wpList_append_own_string _ rfl _ _ 46 9 rfl w.heap.size 5 i0 Tryd.underlying46 Tryd.underlying9 hi hz0 hz1 hz2 _ _ _ rfl hown5 _ rfl ?d1 ?d2 hsz5 ?_)
              case d1 => unfold maxLen; omega
              case d2 => omega
              intro v3 w4 hown6 hgrow6 _
              have hbw6 := below_grown0 hbw5 hsz5 hown5 hgrow6
              try rw [hsl] at hown6
              go_wp2
              go_roundw
              case rel =>
                refine ⟨p + n, acc ++ smallR r, false, ?_, rfl, by go_num, by omega, ?_, hbw6, HN⟩
                · rw [encAll_append, Lib.byteCells_append, List.length_append]; exact hown6
                · rw [encAll_append, List.length_append]; omega
              case measure => simp [intOf]; omega
          case inl =>
            go_wp2_with (first | (go_at_call 37; refine hfst.mono ?_; rintro e w' ⟨rfl, rfl⟩) | (go_at_call 38; refine (refspace_any _ _).mono ?_; rintro e w' ⟨rfl, rfl⟩) | (go_at_call 39; refine (HSM.out _).mono ?_))
            first | rintro e w3 rfl hb3 | rintro e w3 ⟨rfl, hb3⟩
            have hown5 := own_stays hown hb3
            have hbw5 := hbw.trans (hb3.mono hsz)
            have hsz5 := hbw5.size
            go_wp2_with (at_builtin; refine Lib.wpList_append_own_string _ rfl _ _ 46 9 rfl w.heap.size 5 i0 Tryd.underlying46 Tryd.underlying9 hi hz0 hz1 hz2 _ _ _ rfl hown5 _ rfl ?d1 ?d2 hsz5 ?_)
            case d1 => unfold maxLen; omega
            case d2 => omega
            intro v3 w4 hown6 hgrow6 _
            have hbw6 := below_grown0 hbw5 hsz5 hown5 hgrow6
            try rw [hsl] at hown6
            go_wp2
            go_roundw
            case rel =>
              refine ⟨p + n, acc ++ smallR r, false, ?_, rfl, by go_num, by omega, ?_, hbw6, HN⟩
              · rw [encAll_append, Lib.byteCells_append, List.length_append]; exact hown6
              · rw [encAll_append, List.length_append]; omega
            case measure => simp [intOf]; omega
    · have hcv := own_string hown
      have hacc := HA.out
      rw [List.drop_eq_nil_of_le (by rw [len_data]; omega), runes_nil] at hacc
      have hacc' : encAll acc = fold s.data.toList := hacc
      rw [hacc'] at hcv
      have hge : s.size ≤ p := by omega
      clear hown HA hacc hacc' hlt
      go_wp2
      go_ret
      exact ⟨rfl, hbw⟩

end Go.Proofs.YthpkoecpmbpnbaaDoor.run
