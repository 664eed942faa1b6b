/- The document's HTML and URL. -/
import Derived.Test.YtebnobhalffalaaRBytes
import Derived.Deep.RegionLaw
set_option linter.unusedVariables false
namespace Go.Proofs.Ytebnobhalffalaa
open Go.RowKit

set_option maxHeartbeats 4000000 in
set_option maxRecDepth 100000 in
theorem refhtml_any (s : ByteArray) (w : World) (hs : s.size ≤ 1073741824) :
    Calls Try.prog 11 #[.string s] w fun e w' => e = .returned (.string ⟨(html s.data.toList).toArray⟩) ∧ Below w.heap.size w w' := by
  obtain ⟨i0, hi, hz0, hz1, hz2⟩ := info_parts info5
  go_enter Try.func11, Try.ntmps11
  go_wp2
  go_loopw [3, 4] (fun v t wr => ∃ (p : Nat) (acc : List UInt8), OwnB wr w.heap.size v acc ∧ t = .int .i64 (p : Int) ∧ p ≤ s.size ∧ Below w.heap.size w wr ∧ Hid (acc ++ (s.data.toList.drop p).flatMap htmlB = html s.data.toList) ∧ acc.length ≤ 6 * p) (fun _ t _ => s.size - (intOf t).toNat)
  case atStart => exact ⟨0, [], World.ownsRow_nil _ _ _ _, rfl, by omega, Below.refl _ _, rfl, by simp⟩
  case round =>
    obtain ⟨p, acc, hown, rfl, hp, hbw, HA, hal⟩ := hrel
    have hsz := hbw.size
    by_cases hlt : p < s.size
    · have hstep := flat_step htmlB s p hlt
      by_cases h1 : s[p].toNat = 38
      · have q1 : ((s[p].toNat : Int) == 38) = true := by rw [h1]; rfl
        have hB1 : [38, 97, 109, 112, 59] = htmlB s[p] := by unfold htmlB; rw [if_pos h1]
        clear h1
        have HA' : Hid ((acc ++ [38, 97, 109, 112, 59]) ++ (s.data.toList.drop (p + 1)).flatMap htmlB = html s.data.toList) := by
          show _ = _
          rw [← hB1] at hstep
          rw [List.append_assoc, ← hstep]
          exact HA.out
        clear HA hstep hB1
        go_wp2_with (at_builtin; refine Lib.wpList_append_own_string _ rfl _ _ 28 9 rfl w.heap.size 5 i0 Try.underlying28 Try.underlying9 hi hz0 hz1 hz2 _ _ _ rfl hown ⟨#[38, 97, 109, 112, 59]⟩ rfl ?c1 ?c2 hsz ?_)
        case c1 => unfold maxLen; show _ + 5 ≤ _; omega
        case c2 => show _ + 5 ≤ _; omega
        intro v2 w2 hown2 hgrow _
        have hown2' := own_push (l := [38, 97, 109, 112, 59]) hown2 rfl rfl
        have hb2 := below_grown0 hbw hsz hown hgrow
        clear hown2 hgrow
        go_wp2
        go_roundw
        case rel => exact ⟨p + 1, acc ++ [38, 97, 109, 112, 59], hown2', by go_num, by omega, hb2, HA', by rw [List.length_append]; simp; omega⟩
        case measure => simp [intOf]; omega
      have q1 : ((s[p].toNat : Int) == 38) = false := by simp; omega
      by_cases h2 : s[p].toNat = 60
      · have q2 : ((s[p].toNat : Int) == 60) = true := by rw [h2]; rfl
        have hB1 : [38, 108, 116, 59] = htmlB s[p] := by unfold htmlB; rw [if_neg h1, if_pos h2]
        clear h1 h2
        have HA' : Hid ((acc ++ [38, 108, 116, 59]) ++ (s.data.toList.drop (p + 1)).flatMap htmlB = html s.data.toList) := by
          show _ = _
          rw [← hB1] at hstep
          rw [List.append_assoc, ← hstep]
          exact HA.out
        clear HA hstep hB1
        go_wp2_with (at_builtin; refine Lib.wpList_append_own_string _ rfl _ _ 28 9 rfl w.heap.size 5 i0 Try.underlying28 Try.underlying9 hi hz0 hz1 hz2 _ _ _ rfl hown ⟨#[38, 108, 116, 59]⟩ rfl ?c1 ?c2 hsz ?_)
        case c1 => unfold maxLen; show _ + 4 ≤ _; omega
        case c2 => show _ + 4 ≤ _; omega
        intro v2 w2 hown2 hgrow _
        have hown2' := own_push (l := [38, 108, 116, 59]) hown2 rfl rfl
        have hb2 := below_grown0 hbw hsz hown hgrow
        clear hown2 hgrow
        go_wp2
        go_roundw
        case rel => exact ⟨p + 1, acc ++ [38, 108, 116, 59], hown2', by go_num, by omega, hb2, HA', by rw [List.length_append]; simp; omega⟩
        case measure => simp [intOf]; omega
      have q2 : ((s[p].toNat : Int) == 60) = false := by simp; omega
      by_cases h3 : s[p].toNat = 62
      · have q3 : ((s[p].toNat : Int) == 62) = true := by rw [h3]; rfl
        have hB1 : [38, 103, 116, 59] = htmlB s[p] := by unfold htmlB; rw [if_neg h1, if_neg h2, if_pos h3]
        clear h1 h2 h3
        have HA' : Hid ((acc ++ [38, 103, 116, 59]) ++ (s.data.toList.drop (p + 1)).flatMap htmlB = html s.data.toList) := by
          show _ = _
          rw [← hB1] at hstep
          rw [List.append_assoc, ← hstep]
          exact HA.out
        clear HA hstep hB1
        go_wp2_with (at_builtin; refine Lib.wpList_append_own_string _ rfl _ _ 28 9 rfl w.heap.size 5 i0 Try.underlying28 Try.underlying9 hi hz0 hz1 hz2 _ _ _ rfl hown ⟨#[38, 103, 116, 59]⟩ rfl ?c1 ?c2 hsz ?_)
        case c1 => unfold maxLen; show _ + 4 ≤ _; omega
        case c2 => show _ + 4 ≤ _; omega
        intro v2 w2 hown2 hgrow _
        have hown2' := own_push (l := [38, 103, 116, 59]) hown2 rfl rfl
        have hb2 := below_grown0 hbw hsz hown hgrow
        clear hown2 hgrow
        go_wp2
        go_roundw
        case rel => exact ⟨p + 1, acc ++ [38, 103, 116, 59], hown2', by go_num, by omega, hb2, HA', by rw [List.length_append]; simp; omega⟩
        case measure => simp [intOf]; omega
      have q3 : ((s[p].toNat : Int) == 62) = false := by simp; omega
      by_cases h4 : s[p].toNat = 34
      · have q4 : ((s[p].toNat : Int) == 34) = true := by rw [h4]; rfl
        have hB1 : [38, 113, 117, 111, 116, 59] = htmlB s[p] := by unfold htmlB; rw [if_neg h1, if_neg h2, if_neg h3, if_pos h4]
        clear h1 h2 h3 h4
        have HA' : Hid ((acc ++ [38, 113, 117, 111, 116, 59]) ++ (s.data.toList.drop (p + 1)).flatMap htmlB = html s.data.toList) := by
          show _ = _
          rw [← hB1] at hstep
          rw [List.append_assoc, ← hstep]
          exact HA.out
        clear HA hstep hB1
        go_wp2_with (at_builtin; refine Lib.wpList_append_own_string _ rfl _ _ 28 9 rfl w.heap.size 5 i0 Try.underlying28 Try.underlying9 hi hz0 hz1 hz2 _ _ _ rfl hown ⟨#[38, 113, 117, 111, 116, 59]⟩ rfl ?c1 ?c2 hsz ?_)
        case c1 => unfold maxLen; show _ + 6 ≤ _; omega
        case c2 => show _ + 6 ≤ _; omega
        intro v2 w2 hown2 hgrow _
        have hown2' := own_push (l := [38, 113, 117, 111, 116, 59]) hown2 rfl rfl
        have hb2 := below_grown0 hbw hsz hown hgrow
        clear hown2 hgrow
        go_wp2
        go_roundw
        case rel => exact ⟨p + 1, acc ++ [38, 113, 117, 111, 116, 59], hown2', by go_num, by omega, hb2, HA', by rw [List.length_append]; simp; omega⟩
        case measure => simp [intOf]; omega
      have q4 : ((s[p].toNat : Int) == 34) = false := by simp; omega
      have hB1 : [s[p]] = htmlB s[p] := by unfold htmlB; rw [if_neg h1, if_neg h2, if_neg h3, if_neg h4]
      clear h1 h2 h3 h4
      have HA' : Hid ((acc ++ [s[p]]) ++ (s.data.toList.drop (p + 1)).flatMap htmlB = html s.data.toList) := by
        show _ = _
        rw [← hB1] at hstep
        rw [List.append_assoc, ← hstep]
        exact HA.out
      clear HA hstep hB1
      go_wp2_with (at_builtin; refine wpList_append_own _ rfl _ _ 28 rfl w.heap.size 5 i0 (.int .u8 0) 1 1 Try.underlying28 hi hz0 hz1 hz2 rfl (by decide) _ _ _ rfl (hown.alloc _) ⟨_, 0, none⟩ 1 1 [.int .u8 (s[p].toNat : Int)] rfl rfl (lit_cells _ _ _) ?c2 ?c3 ?c4 ?c5 ?_)
      case c2 => intro u hu; simp at hu; subst hu; rfl
      case c3 => unfold maxLen; omega
      case c4 => omega
      case c5 => simp; omega
      intro v2 w2 hown2 hgrow _
      have hown2' := own_push (l := [s[p]]) hown2 rfl (byteCells_one _)
      have hb2 := below_grown hbw hsz hown hgrow
      clear hown2 hgrow
      go_wp2
      go_roundw
      case rel => exact ⟨p + 1, acc ++ [s[p]], hown2', by go_num, by omega, hb2, HA', by rw [List.length_append]; simp; omega⟩
      case measure => simp [intOf]; omega
    · have hcv := own_string hown
      have hfin := HA.out
      rw [drop_past s p (by omega), List.flatMap_nil, List.append_nil] at hfin
      have HF : Hid (Ending.returned (.string ⟨acc.toArray⟩) = .returned (.string ⟨(html s.data.toList).toArray⟩)) := by show _ = _; rw [hfin]
      clear hfin HA hown
      go_wp2
      go_ret
      exact ⟨HF.out, hbw⟩

theorem own_drew {w : World} {B : Nat} {e : TypeId} {v : Value} {n : Nat} {xs : List Value} (h : w.ownsRow B e 1 v n xs) : w.drew.ownsRow B e 1 v n xs := h

set_option maxHeartbeats 4000000 in
set_option maxRecDepth 100000 in
theorem refurl_any (s : ByteArray) (w : World) (hs : s.size ≤ 1073741824) :
    Calls Try.prog 13 #[.string s] w fun e w' => e = .returned (.string ⟨(url s.data.toList).toArray⟩) ∧ Below w.heap.size w w' := by
  obtain ⟨i0, hi, hz0, hz1, hz2⟩ := info_parts info5
  go_enter Try.func13, Try.ntmps13
  go_wp2
  go_loopw [4, 5] (fun v t wr => ∃ (p : Nat) (acc : List UInt8), OwnB wr w.heap.size v acc ∧ t = .int .i64 (p : Int) ∧ p ≤ s.size ∧ Below w.heap.size w wr ∧ Hid (acc ++ (s.data.toList.drop p).flatMap urlB = url s.data.toList) ∧ acc.length ≤ 5 * p) (fun _ t _ => s.size - (intOf t).toNat)
  case atStart => exact ⟨0, [], World.ownsRow_nil _ _ _ _, rfl, by omega, Below.refl _ _, rfl, by simp⟩
  case round =>
    obtain ⟨p, acc, hown, rfl, hp, hbw, HA, hal⟩ := hrel
    have hsz := hbw.size
    by_cases hlt : p < s.size
    · have hstep := flat_step urlB s p hlt
      have cp := plain_any s[p]
      have hul : urlB s[p] = if plainB s[p] = true then [s[p]] else if s[p].toNat = 38 then [38, 97, 109, 112, 59] else [37, hexs.getD (s[p].toNat / 16) 0, hexs.getD (s[p].toNat % 16) 0] := rfl
      cases hpb : plainB s[p] with
      | true =>
        rw [hpb] at cp hul
        rw [hul, if_pos rfl] at hstep
        have HA' : Hid ((acc ++ [s[p]]) ++ (s.data.toList.drop (p + 1)).flatMap urlB = url s.data.toList) := by
          show _ = _
          rw [List.append_assoc, ← hstep]
          exact HA.out
        clear HA hstep hul hpb
        go_wp2_with (first | (go_at_call 18; refine (cp _).mono ?_; rintro e w' ⟨rfl, rfl⟩) | (at_builtin; refine wpList_append_own _ rfl _ _ 28 rfl w.heap.size 5 i0 (.int .u8 0) 1 1 Try.underlying28 hi hz0 hz1 hz2 rfl (by decide) _ _ _ rfl (hown.alloc _) ⟨_, 0, none⟩ 1 1 [.int .u8 (s[p].toNat : Int)] rfl rfl (lit_cells _ _ _) ?c2 ?c3 ?c4 ?c5 ?_))
        case c2 => intro u hu; simp at hu; subst hu; rfl
        case c3 => unfold maxLen; omega
        case c4 => omega
        case c5 => simp; omega
        intro v2 w2 hown2 hgrow _
        have hown2' := own_push (l := [s[p]]) hown2 rfl (byteCells_one _)
        have hb2 := below_grown hbw hsz hown hgrow
        clear hown2 hgrow
        go_wp2
        go_roundw
        case rel => exact ⟨p + 1, acc ++ [s[p]], hown2', by go_num, by omega, hb2, HA', by rw [List.length_append]; simp; omega⟩
        case measure => simp [intOf]; omega
      | false =>
        rw [hpb] at cp hul
        rw [if_neg (by simp)] at hul
        by_cases h38 : s[p].toNat = 38
        · have q : ((s[p].toNat : Int) == 38) = true := by rw [h38]; rfl
          rw [hul, if_pos h38] at hstep
          have HA' : Hid ((acc ++ [38, 97, 109, 112, 59]) ++ (s.data.toList.drop (p + 1)).flatMap urlB = url s.data.toList) := by
            show _ = _
            rw [List.append_assoc, ← hstep]
            exact HA.out
          clear HA hstep hul hpb h38
          go_wp2_with (first | (go_at_call 18; refine (cp _).mono ?_; rintro e w' ⟨rfl, rfl⟩) | (at_builtin; refine Lib.wpList_append_own_string _ rfl _ _ 28 9 rfl w.heap.size 5 i0 Try.underlying28 Try.underlying9 hi hz0 hz1 hz2 _ _ _ rfl hown ⟨#[38, 97, 109, 112, 59]⟩ rfl ?c1 ?c2 hsz ?_))
          case c1 => unfold maxLen; show _ + 5 ≤ _; omega
          case c2 => show _ + 5 ≤ _; omega
          intro v2 w2 hown2 hgrow _
          have hown2' := own_push (l := [38, 97, 109, 112, 59]) hown2 rfl rfl
          have hb2 := below_grown0 hbw hsz hown hgrow
          clear hown2 hgrow
          go_wp2
          go_roundw
          case rel => exact ⟨p + 1, acc ++ [38, 97, 109, 112, 59], hown2', by go_num, by omega, hb2, HA', by rw [List.length_append]; simp; omega⟩
          case measure => simp [intOf]; omega
        · have q : ((s[p].toNat : Int) == 38) = false := by simp; omega
          rw [hul, if_neg h38] at hstep
          have HA' : Hid ((acc ++ [37, hexs.getD (s[p].toNat / 16) 0, hexs.getD (s[p].toNat % 16) 0]) ++ (s.data.toList.drop (p + 1)).flatMap urlB = url s.data.toList) := by
            show _ = _
            rw [List.append_assoc, ← hstep]
            exact HA.out
          have hc255 := s[p].toNat_lt
          have x0 : 0 ≤ (s[p].toNat : Int) / 16 := by omega
          have x1 : (s[p].toNat : Int) / 16 < 16 := by omega
          have y0 : 0 ≤ (s[p].toNat : Int) % 16 := by omega
          have y1 : (s[p].toNat : Int) % 16 < 16 := by omega
          have xw : IntKind.u8.wrap ((s[p].toNat : Int) / 16) = (s[p].toNat : Int) / 16 := by rw [IntKind.wrap_u8]; omega
          have yw : (s[p].toNat : Int).tmod 16 = (s[p].toNat : Int) % 16 := Int.tmod_eq_emod_of_nonneg (by omega)
          have pI : (p : Int) < (s.size : Int) := by omega
          have p0 : 0 ≤ (p : Int) := by omega
          clear HA hstep hul hpb h38
          go_wp2_with (first | (go_at_call 18; refine (cp _).mono ?_; rintro e w' ⟨rfl, rfl⟩))
          go_region_law (refine step_append_own rfl (.tmp 17) (.tmp 30) 28 rfl w.heap.size 5 i0 (.int .u8 0) 1 1 Try.underlying28 hi hz0 hz1 hz2 rfl (by decide) _ acc.length (Lib.byteCells acc) (by simp [Act.eval]) (World.ownsRow.alloc (w := _) (own_drew hown) _) ⟨_, 0, none⟩ 3 3 _ (by simp [Act.eval]) rfl (lit_cells _ _ _) (by intro u hu; simp at hu; rcases hu with rfl | rfl | rfl <;> rfl) (by unfold maxLen; omega) (by omega) (by simp; omega) ?_; intro v2 w2 hown2 hgrow)
          all_goals
            have hown2' := own_push (l := [37, hexs.getD (s[p].toNat / 16) 0, hexs.getD (s[p].toNat % 16) 0]) hown2 rfl (by
              rw [hex_at _ (by omega), hex_at _ (by omega)]
              simp only [Lib.byteCells, List.map_cons, List.map_nil, show ((s[p].toNat : Int) / 16).toNat = s[p].toNat / 16 by omega, show ((s[p].toNat : Int) % 16).toNat = s[p].toNat % 16 by omega]
              rfl)
            have hb2 := (below_drew (hbw.alloc hsz _)).grown hgrow (by simp; omega) (fun k hk => (hown.lt k hk).1)
            clear hown2 hgrow
            go_wp2
            go_roundw
            case rel => exact ⟨p + 1, _, hown2', by go_num, by omega, hb2, HA', by rw [List.length_append]; simp; omega⟩
            case measure => simp [intOf]; omega
    · have hcv := own_string hown
      have hfin := HA.out
      rw [drop_past s p (by omega), List.flatMap_nil, List.append_nil] at hfin
      have HF : Hid (Ending.returned (.string ⟨acc.toArray⟩) = .returned (.string ⟨(url s.data.toList).toArray⟩)) := by show _ = _; rw [hfin]
      clear hfin HA hown
      go_wp2
      go_ret
      exact ⟨HF.out, hbw⟩

end Go.Proofs.Ytebnobhalffalaa
