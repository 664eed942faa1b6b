/- The document's answer for a text's lines: what the reference's Lines answers, of any text. -/
import Derived.Test.YtnpboadefhannaaShown
set_option linter.unusedVariables false
namespace Go.Proofs.Ytnpboadefhannaa
open Go.RowKit

theorem end_two {l : List UInt8} {i : Nat} (h13 : (l.getD i 0).toNat = 13) (h1 : i + 1 < l.length) (h10 : (l.getD (i + 1) 0).toNat = 10) : endAt l i = 2 := by
  unfold endAt; rw [if_neg (by omega), if_pos ⟨h13, h1, h10⟩]
theorem end_one {l : List UInt8} {i : Nat} (h0 : i < l.length) (h : ¬ ((l.getD i 0).toNat = 13 ∧ i + 1 < l.length ∧ (l.getD (i + 1) 0).toNat = 10)) : endAt l i = 1 := by
  unfold endAt; rw [if_neg (by omega), if_neg h]

set_option maxHeartbeats 4000000 in
set_option maxRecDepth 100000 in
theorem reflines_any (s : ByteArray) (w : World) (hs : s.size ≤ 1073741824) :
    Calls Try.prog 13 #[.string s] w fun e w' => ∃ v, e = .returned v ∧ w'.ownsRow w.heap.size 9 1 v (lines s.data.toList).length (strVs (lines s.data.toList)) ∧ Below w.heap.size w w' := by
  obtain ⟨i0, hi, hz0, hz1, hz2⟩ := info_parts info9
  go_enter Try.func13, Try.ntmps13
  go_wp2
  go_loopw [3, 4, 5] (fun v tf ti wr => ∃ (f i : Nat) (acc : List (List UInt8)), wr.ownsRow w.heap.size 9 1 v acc.length (strVs acc) ∧ tf = .int .i64 f ∧ ti = .int .i64 i ∧ f ≤ i ∧ i ≤ s.size ∧ acc.length ≤ f ∧ Below w.heap.size w wr ∧ Hid (stopAt s.data.toList f = stopAt s.data.toList i) ∧ Hid (acc ++ linesAt s.data.toList f = lines s.data.toList)) (fun _ _ ti _ => s.size - (intOf ti).toNat)
  case atStart => exact ⟨0, 0, [], World.ownsRow_nil _ _ _ _, rfl, rfl, by omega, by omega, by simp, Below.refl _ _, rfl, rfl⟩
  case round =>
    obtain ⟨f, i, acc, hown, rfl, rfl, hfi, his, hal, hbw, HS, HA⟩ := hrel
    have hsz := hbw.size
    by_cases hlt : i < s.size
    · have hb := byte_at s i hlt
      have hll : i < s.data.toList.length := by rw [len_data]; exact hlt
      cases hn : notEnd (s.data.toList.getD i 0) with
      | true =>
        have h1 := stop_more (l := s.data.toList) (i := i) hll hn
        have h2 := notEnd_of hn
        rw [← hb] at h2
        have q1 : ((s[i].toNat : Int) != 10) = true := by simp; omega
        have q2 : ((s[i].toNat : Int) != 13) = true := by simp; omega
        have HS' : Hid (stopAt s.data.toList f = stopAt s.data.toList (i + 1)) := by rw [← h1]; exact HS
        clear hb hn h1 h2 HS
        go_wp2
        go_roundw
        case rel => exact ⟨f, i + 1, acc, hown, rfl, by go_num, by omega, by omega, hal, hbw, HS', HA⟩
        case measure => simp [intOf]; omega
      | false =>
        have h1 := stop_here (l := s.data.toList) (i := i) hll hn
        have h2 := isEnd_of hn
        have hsf : stopAt s.data.toList f = i := by rw [HS.out, h1]
        have hst := lines_step (l := s.data.toList) (i := f) (by rw [len_data]; omega)
        have hex := extract_eq s f i
        have htk := take_stop s.data.toList f
        rw [hsf] at htk
        rw [← htk] at hex
        have hnx : nextAt s.data.toList f = i + endAt s.data.toList i := by unfold nextAt; rw [hsf]
        rw [hnx] at hst
        generalize hx : (s.data.toList.drop f).takeWhile notEnd = x at *
        have HX : Hid (Value.string (s.extract f i) = strV x) := congrArg Value.string hex
        have HN : Hid (acc ++ (x :: linesAt s.data.toList (i + endAt s.data.toList i)) = lines s.data.toList) := by rw [← hst]; exact HA
        have hcase : (s[i].toNat = 10 ∧ endAt s.data.toList i = 1) ∨ (s[i].toNat = 13 ∧ ((s.size ≤ i + 1 ∧ endAt s.data.toList i = 1) ∨ (∃ h : i + 1 < s.size, s[i + 1].toNat = 10 ∧ endAt s.data.toList i = 2) ∨ (∃ h : i + 1 < s.size, s[i + 1].toNat ≠ 10 ∧ endAt s.data.toList i = 1))) := by
          rw [hb]
          rcases h2 with h | h
          · exact .inl ⟨h, end_one hll (by omega)⟩
          · refine .inr ⟨h, ?_⟩
            by_cases h3 : i + 1 < s.size
            · have hb1 := byte_at s (i + 1) h3
              by_cases h4 : s[i + 1].toNat = 10
              · exact .inr (.inl ⟨h3, h4, end_two h (by rw [len_data]; exact h3) (by rw [← hb1]; exact h4)⟩)
              · exact .inr (.inr ⟨h3, h4, end_one hll (by rw [← hb1]; intro h5; exact h4 h5.2.2)⟩)
            · exact .inl ⟨by omega, end_one hll (by rw [len_data]; omega)⟩
        clear hb hn h1 h2 hsf hst hex htk hnx hx HS HA
        rcases hcase with ⟨h10, he⟩ | ⟨h13, ⟨h5, he⟩ | ⟨h5, h6, he⟩ | ⟨h5, h6, he⟩⟩
        · have q1 : ((s[i].toNat : Int) != 10) = false := by simp; omega
          have q2 : ((s[i].toNat : Int) == 13) = false := by simp; omega
          rw [he] at HN
          clear h10 he
          go_wp2_with (at_builtin; refine wpList_append_own _ rfl _ _ 28 rfl w.heap.size 9 i0 (.string ⟨#[]⟩) 1 16 Try.underlying28 hi hz0 hz1 hz2 rfl (by decide) _ _ _ rfl (hown.alloc _) ⟨wr.heap.size, 0, none⟩ 1 1 [.string (s.extract f i)] rfl rfl ?c1 ?c2 ?c3 ?c4 ?c5 ?_)
          case c1 => exact lit_cells _ [.string (s.extract f i)] _
          case c2 => intro u hu; simp at hu; subst hu; rfl
          case c3 => unfold maxLen; omega
          case c4 => omega
          case c5 => simp; omega
          intro v2 w2 hown3 hgrow _
          have hbw3 := below_grown hbw hsz hown hgrow
          go_wp2
          go_roundw
          case rel =>
            refine ⟨i + 1, i + 1, acc ++ [x], ?_, by go_num, by go_num, by omega, by omega, by simp; omega, hbw3, rfl, ?_⟩
            · rw [strVs_push, ← HX.out, List.length_append]; exact hown3
            · show (acc ++ [x]) ++ _ = _
              rw [List.append_assoc]; exact HN.out
          case measure => simp [intOf]; omega
        all_goals
          have q1 : ((s[i].toNat : Int) != 10) = true := by simp; omega
          have q2 : ((s[i].toNat : Int) != 13) = false := by simp; omega
          have q3 : ((s[i].toNat : Int) == 13) = true := by simp; omega
          first | have q4 : ((s[i + 1].toNat : Int) == 10) = true := by (simp; omega) | have q4 : ((s[i + 1].toNat : Int) == 10) = false := by (simp; omega) | have q4 : decide ((i : Int) + 1 < (s.size : Int)) = false := by (simp; omega)
          rw [he] at HN
          have h13' : s[i].toNat ≠ 0 := by omega
          clear h13 he h13'
          try clear h6
          go_wp2_with (at_builtin; refine wpList_append_own _ rfl _ _ 28 rfl w.heap.size 9 i0 (.string ⟨#[]⟩) 1 16 Try.underlying28 hi hz0 hz1 hz2 rfl (by decide) _ _ _ rfl (hown.alloc _) ⟨wr.heap.size, 0, none⟩ 1 1 [.string (s.extract f i)] rfl rfl ?c1 ?c2 ?c3 ?c4 ?c5 ?_)
          case c1 => exact lit_cells _ [.string (s.extract f i)] _
          case c2 => intro u hu; simp at hu; subst hu; rfl
          case c3 => unfold maxLen; omega
          case c4 => omega
          case c5 => simp; omega
          intro v2 w2 hown3 hgrow _
          have hbw3 := below_grown hbw hsz hown hgrow
          go_wp2
          go_roundw
          case rel =>
            first
              | refine ⟨i + 1, i + 1, acc ++ [x], ?_, by go_num, by go_num, by omega, by omega, by simp; omega, hbw3, rfl, ?_⟩
              | refine ⟨i + 2, i + 2, acc ++ [x], ?_, by go_num, by go_num, by omega, by omega, by simp; omega, hbw3, rfl, ?_⟩
            · rw [strVs_push, ← HX.out, List.length_append]; exact hown3
            · show (acc ++ [x]) ++ _ = _
              rw [List.append_assoc]; exact HN.out
          case measure => simp [intOf]; omega
    · have hie : i = s.size := by omega
      have hsf : stopAt s.data.toList f = s.size := by rw [HS.out, stop_past (by rw [len_data]; omega), hie]
      by_cases hf : f < s.size
      · have hst := lines_step (l := s.data.toList) (i := f) (by rw [len_data]; omega)
        have hex := extract_eq s f s.size
        have htk := take_stop s.data.toList f
        rw [hsf] at htk
        rw [← htk] at hex
        have hnx : nextAt s.data.toList f = s.size := by
          unfold nextAt; rw [hsf]; unfold endAt; rw [if_pos (by rw [len_data]; exact Nat.le_refl _)]; rfl
        rw [hnx, lines_end (i := s.size) (by rw [len_data]; exact Nat.le_refl _)] at hst
        generalize hx : (s.data.toList.drop f).takeWhile notEnd = x at *
        have HX : Hid (Value.string (s.extract f s.size) = strV x) := congrArg Value.string hex
        have HN : Hid (acc ++ [x] = lines s.data.toList) := by rw [← hst]; exact HA
        subst hie
        clear hst hex htk hnx hx HS HA hsf hlt
        go_wp2_with (at_builtin; refine wpList_append_own _ rfl _ _ 28 rfl w.heap.size 9 i0 (.string ⟨#[]⟩) 1 16 Try.underlying28 hi hz0 hz1 hz2 rfl (by decide) _ _ _ rfl (hown.alloc _) ⟨wr.heap.size, 0, none⟩ 1 1 [.string (s.extract f s.size)] rfl rfl ?c1 ?c2 ?c3 ?c4 ?c5 ?_)
        case c1 => exact lit_cells _ [.string (s.extract f s.size)] _
        case c2 => intro u hu; simp at hu; subst hu; rfl
        case c3 => unfold maxLen; omega
        case c4 => omega
        case c5 => simp; omega
        intro v2 w2 hown3 hgrow _
        have hbw3 := below_grown hbw hsz hown hgrow
        go_wp2
        go_ret
        refine ⟨_, rfl, ?_, hbw3⟩
        rw [← HN.out, strVs_push, ← HX.out, List.length_append]; exact hown3
      · have HN : Hid (acc = lines s.data.toList) := by
          have := HA.out
          rw [lines_end (by rw [len_data]; omega), List.append_nil] at this
          exact this
        subst hie
        clear HS HA hsf hlt
        go_wp2
        go_ret
        refine ⟨_, rfl, ?_, hbw⟩
        rw [← HN.out]; exact hown

end Go.Proofs.Ytnpboadefhannaa
