/- CursorMoves: for every line and every number, bytes passed one by one are bytes passed at once; no condition. -/
import Derived.Test.YtonlkkpoanlcbaaCTwo
import Derived.ProofKit
import Derived.OpenShut
import Derived.ShutString
import Derived.ChangeOld
import Derived.Below
import Derived.JoinedCond
import Derived.SizedLaws
set_option linter.unusedVariables false
namespace Go.Proofs.Ytonlkkpoanlcbaa.cursorMoves
open Go.ChangeShapes Go.WideShapes Go.ChangeAt Go.RowKit
open Go.ChangeMaps (open_string shut_string)

theorem own : ownKnob Try.prog.godebug = none := by kernel_rfl
theorem laidOut : laidOutB Try.prog = true := by kernel_rfl

theorem rem_some (n : Int) (h : 0 ≤ n) (d : Nat) : ∃ x : Nat, x < d + 3 ∧ n.tmod ((d : Int) + 3) = (x : Int) := by
  refine ⟨(n.tmod ((d : Int) + 3)).toNat, ?_, ?_⟩
  · rw [Int.tmod_eq_emod_of_nonneg h]
    have := Int.emod_lt_of_pos n (show (0 : Int) < (d : Int) + 3 by omega)
    omega
  · rw [Int.tmod_eq_emod_of_nonneg h]
    have := Int.emod_nonneg n (show (d : Int) + 3 ≠ 0 by omega)
    omega

set_option maxHeartbeats 8000000 in
set_option maxRecDepth 100000 in
theorem walk (s0 : ByteArray) (ws0 : s0.size ≤ 140737488351232) (a1 : Int) (w1 : -9223372036854775808 ≤ a1 ∧ a1 ≤ 9223372036854775807) (w : World) :
    Calls Try.prog 6 #[.string s0, .int .i64 a1] w fun e w' => e = .returned (.bool true) ∧ Below w.heap.size w w' := by
  obtain ⟨i0, hi, hz0, hz1, hz2⟩ := info_parts info5
  go_enter Try.func6, Try.ntmps6
  go_wp2_with (go_at_call 7; refine (shown_any _).mono ?_; rintro e w1 ⟨rfl, hb1⟩)
  go_loopw [6, 7] (fun v i wr => ∃ (k : Nat) (l : List UInt8), i = .int .i64 (k : Int) ∧ k ≤ s0.size ∧ k ≤ 1000 ∧ l.length ≤ k ∧ OwnB wr w.heap.size v l ∧ Hid (NoB l) ∧ Hid (Below w.heap.size w wr)) (fun _ i _ => 1000 - (intOf i).toNat)
  case atStart => exact ⟨0, [], rfl, by omega, by omega, by simp, World.ownsRow_nil _ _ _ _, (fun b hb => by cases hb), hb1⟩
  case round =>
    clear hb1
    obtain ⟨k, l, rfl, hk, hk9, hll, hown, hnb, hbw⟩ := hrel
    by_cases hlt : k < s0.size ∧ k < 1000
    · obtain ⟨h1, h2⟩ := hlt
      have g1 : (k : Int) < (s0.size : Int) := by omega
      have g2 : decide ((k : Int) < 1000) = true := by simp; omega
      have hib := isB_int s0[k]
      cases hB : isB s0[k] with
      | true =>
        rw [hB] at hib
        rcases Bool.or_eq_true_iff.1 hib.symm with q | q
        · have q1 : (s0[k].toNat : Int) = 32 := beq_iff_eq.1 q
          clear hib q hB
          go_wp2
          go_roundw
          case rel => exact ⟨k + 1, l, by go_num, by omega, by omega, by omega, hown, hnb, hbw⟩
          case measure => simp [intOf]; omega
        · have q1 : (s0[k].toNat : Int) = 9 := beq_iff_eq.1 q
          clear hib q hB
          go_wp2
          go_roundw
          case rel => exact ⟨k + 1, l, by go_num, by omega, by omega, by omega, hown, hnb, hbw⟩
          case measure => simp [intOf]; omega
      | false =>
        rw [hB] at hib
        obtain ⟨q1, q2⟩ := Bool.or_eq_false_iff.1 hib.symm
        have q3 : ((s0[k].toNat : Int) != 32) = true := by rw [bne, q1]; rfl
        have q4 : ((s0[k].toNat : Int) != 9) = true := by rw [bne, q2]; rfl
        clear hib
        have hsz := hbw.out.size
        go_wp2_with (at_builtin; refine wpList_append_own _ rfl _ _ 37 rfl w.heap.size 5 i0 (.int .u8 0) 1 1 Try.underlying37 hi hz0 hz1 hz2 rfl (by decide) _ _ _ rfl (hown.alloc _) ⟨wr.heap.size, 0, none⟩ 1 1 [.int .u8 (s0[k].toNat : Int)] rfl rfl ?c1 ?c2 ?c3 ?c4 ?c5 ?_)
        case c1 => exact lit_cells wr [.int .u8 (s0[k].toNat : Int)] _
        case c2 => intro u hu; simp at hu; subst hu; rfl
        case c3 => unfold maxLen; omega
        case c4 => omega
        case c5 => simp; omega
        intro v' w2 hown' hgrow _
        have R1 := own_push (l := [s0[k]]) hown' rfl (byteCells_one _)
        have R2 := below_grown hbw.out hsz hown hgrow
        clear hown' hgrow hown
        go_wp2
        go_roundw
        case rel => exact ⟨k + 1, l ++ [s0[k]], by go_num, by omega, by omega, by simp; omega, R1, hnb.out.push hB, R2⟩
        case measure => simp [intOf]; omega
    · have hcv := own_string hown
      obtain ⟨t, ht⟩ : ∃ t : ByteArray, t = ⟨l.toArray⟩ := ⟨_, rfl⟩
      rw [← ht] at hcv
      have htl : t.data.toList = l := by rw [ht]
      have hts : t.size ≤ 1000 := by rw [ht, size_list]; omega
      have HNB := (show Hid (NoB t.data.toList) from by rw [htl]; exact hnb.out)
      clear ht htl hnb hown hll
      obtain ⟨T, hT⟩ : ∃ T : List UInt8, t.data.toList = T := ⟨_, rfl⟩
      have HN := (show Hid (∀ w', Calls Try.prog 8 #[.string t] w' fun e w2 => ∃ b, e = .returned (cptr b) ∧ w'.heap.size ≤ b ∧ Cur w2 b (T, 0, 0) ∧ Below w'.heap.size w' w2) from fun w' => by rw [← hT]; exact new_at t w' (by omega))
      have hTl : T.length = t.size := by rw [← hT, len_data]
      have HT := (show Hid (t.data.toList = T) from hT)
      have HL := (show Hid (T.length = t.size) from hTl)
      rw [hT] at HNB
      clear hT hTl
      have hcc : k < s0.size ∨ s0.size ≤ k := by omega
      rcases hcc with hc | hc
      · have g1 : (k : Int) < (s0.size : Int) := by omega
        have g2 : decide ((k : Int) < 1000) = false := by simp; omega
        clear hlt
        by_cases hneg : a1 < 0
        · obtain ⟨x, hx, hmod⟩ := rem_some (-(a1 + 1)) (by omega) t.size
          go_wp2_with (first
            | (go_at_call 8; have hca := ca; refine (HN.out _).mono ?_; rintro e w3 ⟨b, rfl, lb, cb, hb3⟩; clear hca)
            | (go_at_call 8; refine (HN.out _).mono ?_; rintro e w2 ⟨a, rfl, la, ca, hb2⟩))
          have H2 := (show Hid (Two w w3 a b (T, 0, 0) (T, 0, 0)) from Two.mk hbw.out la ca hb2 lb cb hb3)
          clear la ca hb2 lb cb hb3 HN hbw hmod hcv
          go_loopw [11] (fun i wr => ∃ k : Nat, i = .int .i64 (k : Int) ∧ k ≤ x ∧ Hid (Two w wr a b (T.drop k, 0, min k T.length) (T, 0, 0))) (fun i _ => x - (intOf i).toNat)
          case atStart => exact ⟨0, rfl, by omega, by simpa using H2⟩
          case round =>
            clear H2
            obtain ⟨j, rfl, hj, h2⟩ := hrel
            by_cases hjx : j < x
            · have g3 : (j : Int) < (x : Int) := by omega
              go_wp2_with (go_at_call 11; refine (move_any h2.out.ca 1 (by omega)).mono ?_; rintro e w4 ⟨rfl, hc4, ho4⟩)
              go_roundw
              case rel =>
                refine ⟨j + 1, by go_num, by omega, ?_⟩
                have h4 := h2.out.oth_a hc4 ho4
                rw [show (1 : Int).toNat = 1 from rfl, HNB.out.one] at h4
                exact h4
              case measure => simp [intOf]; omega
            · have g3 : ¬ ((j : Int) < (x : Int)) := by omega
              have hjx' : j = x := by omega
              subst hjx'
              obtain ⟨M, hM⟩ : ∃ M, min j t.size = M := ⟨_, rfl⟩
              have hMle : (M : Int) ≤ (t.size : Int) := by omega
              have hMI : (if t.size < j then (t.size : Int) else (j : Int)) = (M : Int) := by split <;> omega
              obtain ⟨r, hr⟩ : ∃ r, T.drop j = r := ⟨_, rfl⟩
              have hext : t.extract M t.size = ⟨r.toArray⟩ := by rw [extract_end, HT.out, ← hM, ← HL.out, drop_min, hr]
              have HMv := (show Hid (∀ w', Two w w' a b (r, 0, M) (T, 0, 0) → Calls Try.prog 11 #[cptr b, .int .i64 (j : Int)] w' fun e w2 => e = .returned (.tuple #[]) ∧ Two w w2 a b (r, 0, M) (r, 0, M)) from fun w' h => (move_any h.cb (j : Int) (by omega)).mono fun e w2 ⟨he, hc, ho⟩ => ⟨he, by have := h.oth_b hc ho; rwa [Int.toNat_natCast, HNB.out.move, Nat.zero_add, HL.out, hr, hM] at this⟩)
              have h2' := h2.out
              rw [HL.out, hM, hr] at h2'
              have H2' := (show Hid (Two w wr a b (r, 0, M) (T, 0, 0)) from h2')
              clear h2 h2' hM hr
              have HRa := (show Hid (∀ w', Two w w' a b (r, 0, M) (r, 0, M) → Calls Try.prog 20 #[cptr a] w' fun e w2 => e = .returned (.string ⟨r.toArray⟩) ∧ ∃ m, w2 = w'.drewN m) from fun w' h => rest_any h.ca)
              have HRb := (show Hid (∀ w', Two w w' a b (r, 0, M) (r, 0, M) → Calls Try.prog 20 #[cptr b] w' fun e w2 => e = .returned (.string ⟨r.toArray⟩) ∧ ∃ m, w2 = w'.drewN m) from fun w' h => rest_any h.cb)
              go_wp2_with (go_at_call 11; refine (HMv.out _ H2'.out).mono ?_; rintro e w4 ⟨rfl, h4⟩; have H4 := (show Hid (Two w w4 a b (r, 0, M) (r, 0, M)) from h4); clear h4)
              go_quiet (first
                | (go_at_call_of 13 (cptr a); exact Calls.quiet_of_same (column_any (σ := (r, 0, M)) (H4.out.drewN _).ca))
                | (go_at_call_of 13 (cptr b); exact Calls.quiet_of_same (column_any (σ := (r, 0, M)) (H4.out.drewN _).cb))
                | (go_at_call_of 20 (cptr a); exact Calls.quiet_of (HRa.out _ (H4.out.drewN _)))
                | (go_at_call_of 20 (cptr b); exact Calls.quiet_of (HRb.out _ (H4.out.drewN _))))
              go_wp2
              go_ret
              exact ⟨rfl, (H4.out.drewN _).below⟩
        · obtain ⟨x, hx, hmod⟩ := rem_some a1 (by omega) t.size
          go_wp2_with (first
            | (go_at_call 8; have hca := ca; refine (HN.out _).mono ?_; rintro e w3 ⟨b, rfl, lb, cb, hb3⟩; clear hca)
            | (go_at_call 8; refine (HN.out _).mono ?_; rintro e w2 ⟨a, rfl, la, ca, hb2⟩))
          have H2 := (show Hid (Two w w3 a b (T, 0, 0) (T, 0, 0)) from Two.mk hbw.out la ca hb2 lb cb hb3)
          clear la ca hb2 lb cb hb3 HN hbw hmod hcv
          go_loopw [11] (fun i wr => ∃ k : Nat, i = .int .i64 (k : Int) ∧ k ≤ x ∧ Hid (Two w wr a b (T.drop k, 0, min k T.length) (T, 0, 0))) (fun i _ => x - (intOf i).toNat)
          case atStart => exact ⟨0, rfl, by omega, by simpa using H2⟩
          case round =>
            clear H2
            obtain ⟨j, rfl, hj, h2⟩ := hrel
            by_cases hjx : j < x
            · have g3 : (j : Int) < (x : Int) := by omega
              go_wp2_with (go_at_call 11; refine (move_any h2.out.ca 1 (by omega)).mono ?_; rintro e w4 ⟨rfl, hc4, ho4⟩)
              go_roundw
              case rel =>
                refine ⟨j + 1, by go_num, by omega, ?_⟩
                have h4 := h2.out.oth_a hc4 ho4
                rw [show (1 : Int).toNat = 1 from rfl, HNB.out.one] at h4
                exact h4
              case measure => simp [intOf]; omega
            · have g3 : ¬ ((j : Int) < (x : Int)) := by omega
              have hjx' : j = x := by omega
              subst hjx'
              obtain ⟨M, hM⟩ : ∃ M, min j t.size = M := ⟨_, rfl⟩
              have hMle : (M : Int) ≤ (t.size : Int) := by omega
              have hMI : (if t.size < j then (t.size : Int) else (j : Int)) = (M : Int) := by split <;> omega
              obtain ⟨r, hr⟩ : ∃ r, T.drop j = r := ⟨_, rfl⟩
              have hext : t.extract M t.size = ⟨r.toArray⟩ := by rw [extract_end, HT.out, ← hM, ← HL.out, drop_min, hr]
              have HMv := (show Hid (∀ w', Two w w' a b (r, 0, M) (T, 0, 0) → Calls Try.prog 11 #[cptr b, .int .i64 (j : Int)] w' fun e w2 => e = .returned (.tuple #[]) ∧ Two w w2 a b (r, 0, M) (r, 0, M)) from fun w' h => (move_any h.cb (j : Int) (by omega)).mono fun e w2 ⟨he, hc, ho⟩ => ⟨he, by have := h.oth_b hc ho; rwa [Int.toNat_natCast, HNB.out.move, Nat.zero_add, HL.out, hr, hM] at this⟩)
              have h2' := h2.out
              rw [HL.out, hM, hr] at h2'
              have H2' := (show Hid (Two w wr a b (r, 0, M) (T, 0, 0)) from h2')
              clear h2 h2' hM hr
              have HRa := (show Hid (∀ w', Two w w' a b (r, 0, M) (r, 0, M) → Calls Try.prog 20 #[cptr a] w' fun e w2 => e = .returned (.string ⟨r.toArray⟩) ∧ ∃ m, w2 = w'.drewN m) from fun w' h => rest_any h.ca)
              have HRb := (show Hid (∀ w', Two w w' a b (r, 0, M) (r, 0, M) → Calls Try.prog 20 #[cptr b] w' fun e w2 => e = .returned (.string ⟨r.toArray⟩) ∧ ∃ m, w2 = w'.drewN m) from fun w' h => rest_any h.cb)
              go_wp2_with (go_at_call 11; refine (HMv.out _ H2'.out).mono ?_; rintro e w4 ⟨rfl, h4⟩; have H4 := (show Hid (Two w w4 a b (r, 0, M) (r, 0, M)) from h4); clear h4)
              go_quiet (first
                | (go_at_call_of 13 (cptr a); exact Calls.quiet_of_same (column_any (σ := (r, 0, M)) (H4.out.drewN _).ca))
                | (go_at_call_of 13 (cptr b); exact Calls.quiet_of_same (column_any (σ := (r, 0, M)) (H4.out.drewN _).cb))
                | (go_at_call_of 20 (cptr a); exact Calls.quiet_of (HRa.out _ (H4.out.drewN _)))
                | (go_at_call_of 20 (cptr b); exact Calls.quiet_of (HRb.out _ (H4.out.drewN _))))
              go_wp2
              go_ret
              exact ⟨rfl, (H4.out.drewN _).below⟩
      · have g1 : ¬ ((k : Int) < (s0.size : Int)) := by omega
        clear hlt
        by_cases hneg : a1 < 0
        · obtain ⟨x, hx, hmod⟩ := rem_some (-(a1 + 1)) (by omega) t.size
          go_wp2_with (first
            | (go_at_call 8; have hca := ca; refine (HN.out _).mono ?_; rintro e w3 ⟨b, rfl, lb, cb, hb3⟩; clear hca)
            | (go_at_call 8; refine (HN.out _).mono ?_; rintro e w2 ⟨a, rfl, la, ca, hb2⟩))
          have H2 := (show Hid (Two w w3 a b (T, 0, 0) (T, 0, 0)) from Two.mk hbw.out la ca hb2 lb cb hb3)
          clear la ca hb2 lb cb hb3 HN hbw hmod hcv
          go_loopw [11] (fun i wr => ∃ k : Nat, i = .int .i64 (k : Int) ∧ k ≤ x ∧ Hid (Two w wr a b (T.drop k, 0, min k T.length) (T, 0, 0))) (fun i _ => x - (intOf i).toNat)
          case atStart => exact ⟨0, rfl, by omega, by simpa using H2⟩
          case round =>
            clear H2
            obtain ⟨j, rfl, hj, h2⟩ := hrel
            by_cases hjx : j < x
            · have g3 : (j : Int) < (x : Int) := by omega
              go_wp2_with (go_at_call 11; refine (move_any h2.out.ca 1 (by omega)).mono ?_; rintro e w4 ⟨rfl, hc4, ho4⟩)
              go_roundw
              case rel =>
                refine ⟨j + 1, by go_num, by omega, ?_⟩
                have h4 := h2.out.oth_a hc4 ho4
                rw [show (1 : Int).toNat = 1 from rfl, HNB.out.one] at h4
                exact h4
              case measure => simp [intOf]; omega
            · have g3 : ¬ ((j : Int) < (x : Int)) := by omega
              have hjx' : j = x := by omega
              subst hjx'
              obtain ⟨M, hM⟩ : ∃ M, min j t.size = M := ⟨_, rfl⟩
              have hMle : (M : Int) ≤ (t.size : Int) := by omega
              have hMI : (if t.size < j then (t.size : Int) else (j : Int)) = (M : Int) := by split <;> omega
              obtain ⟨r, hr⟩ : ∃ r, T.drop j = r := ⟨_, rfl⟩
              have hext : t.extract M t.size = ⟨r.toArray⟩ := by rw [extract_end, HT.out, ← hM, ← HL.out, drop_min, hr]
              have HMv := (show Hid (∀ w', Two w w' a b (r, 0, M) (T, 0, 0) → Calls Try.prog 11 #[cptr b, .int .i64 (j : Int)] w' fun e w2 => e = .returned (.tuple #[]) ∧ Two w w2 a b (r, 0, M) (r, 0, M)) from fun w' h => (move_any h.cb (j : Int) (by omega)).mono fun e w2 ⟨he, hc, ho⟩ => ⟨he, by have := h.oth_b hc ho; rwa [Int.toNat_natCast, HNB.out.move, Nat.zero_add, HL.out, hr, hM] at this⟩)
              have h2' := h2.out
              rw [HL.out, hM, hr] at h2'
              have H2' := (show Hid (Two w wr a b (r, 0, M) (T, 0, 0)) from h2')
              clear h2 h2' hM hr
              have HRa := (show Hid (∀ w', Two w w' a b (r, 0, M) (r, 0, M) → Calls Try.prog 20 #[cptr a] w' fun e w2 => e = .returned (.string ⟨r.toArray⟩) ∧ ∃ m, w2 = w'.drewN m) from fun w' h => rest_any h.ca)
              have HRb := (show Hid (∀ w', Two w w' a b (r, 0, M) (r, 0, M) → Calls Try.prog 20 #[cptr b] w' fun e w2 => e = .returned (.string ⟨r.toArray⟩) ∧ ∃ m, w2 = w'.drewN m) from fun w' h => rest_any h.cb)
              go_wp2_with (go_at_call 11; refine (HMv.out _ H2'.out).mono ?_; rintro e w4 ⟨rfl, h4⟩; have H4 := (show Hid (Two w w4 a b (r, 0, M) (r, 0, M)) from h4); clear h4)
              go_quiet (first
                | (go_at_call_of 13 (cptr a); exact Calls.quiet_of_same (column_any (σ := (r, 0, M)) (H4.out.drewN _).ca))
                | (go_at_call_of 13 (cptr b); exact Calls.quiet_of_same (column_any (σ := (r, 0, M)) (H4.out.drewN _).cb))
                | (go_at_call_of 20 (cptr a); exact Calls.quiet_of (HRa.out _ (H4.out.drewN _)))
                | (go_at_call_of 20 (cptr b); exact Calls.quiet_of (HRb.out _ (H4.out.drewN _))))
              go_wp2
              go_ret
              exact ⟨rfl, (H4.out.drewN _).below⟩
        · obtain ⟨x, hx, hmod⟩ := rem_some a1 (by omega) t.size
          go_wp2_with (first
            | (go_at_call 8; have hca := ca; refine (HN.out _).mono ?_; rintro e w3 ⟨b, rfl, lb, cb, hb3⟩; clear hca)
            | (go_at_call 8; refine (HN.out _).mono ?_; rintro e w2 ⟨a, rfl, la, ca, hb2⟩))
          have H2 := (show Hid (Two w w3 a b (T, 0, 0) (T, 0, 0)) from Two.mk hbw.out la ca hb2 lb cb hb3)
          clear la ca hb2 lb cb hb3 HN hbw hmod hcv
          go_loopw [11] (fun i wr => ∃ k : Nat, i = .int .i64 (k : Int) ∧ k ≤ x ∧ Hid (Two w wr a b (T.drop k, 0, min k T.length) (T, 0, 0))) (fun i _ => x - (intOf i).toNat)
          case atStart => exact ⟨0, rfl, by omega, by simpa using H2⟩
          case round =>
            clear H2
            obtain ⟨j, rfl, hj, h2⟩ := hrel
            by_cases hjx : j < x
            · have g3 : (j : Int) < (x : Int) := by omega
              go_wp2_with (go_at_call 11; refine (move_any h2.out.ca 1 (by omega)).mono ?_; rintro e w4 ⟨rfl, hc4, ho4⟩)
              go_roundw
              case rel =>
                refine ⟨j + 1, by go_num, by omega, ?_⟩
                have h4 := h2.out.oth_a hc4 ho4
                rw [show (1 : Int).toNat = 1 from rfl, HNB.out.one] at h4
                exact h4
              case measure => simp [intOf]; omega
            · have g3 : ¬ ((j : Int) < (x : Int)) := by omega
              have hjx' : j = x := by omega
              subst hjx'
              obtain ⟨M, hM⟩ : ∃ M, min j t.size = M := ⟨_, rfl⟩
              have hMle : (M : Int) ≤ (t.size : Int) := by omega
              have hMI : (if t.size < j then (t.size : Int) else (j : Int)) = (M : Int) := by split <;> omega
              obtain ⟨r, hr⟩ : ∃ r, T.drop j = r := ⟨_, rfl⟩
              have hext : t.extract M t.size = ⟨r.toArray⟩ := by rw [extract_end, HT.out, ← hM, ← HL.out, drop_min, hr]
              have HMv := (show Hid (∀ w', Two w w' a b (r, 0, M) (T, 0, 0) → Calls Try.prog 11 #[cptr b, .int .i64 (j : Int)] w' fun e w2 => e = .returned (.tuple #[]) ∧ Two w w2 a b (r, 0, M) (r, 0, M)) from fun w' h => (move_any h.cb (j : Int) (by omega)).mono fun e w2 ⟨he, hc, ho⟩ => ⟨he, by have := h.oth_b hc ho; rwa [Int.toNat_natCast, HNB.out.move, Nat.zero_add, HL.out, hr, hM] at this⟩)
              have h2' := h2.out
              rw [HL.out, hM, hr] at h2'
              have H2' := (show Hid (Two w wr a b (r, 0, M) (T, 0, 0)) from h2')
              clear h2 h2' hM hr
              have HRa := (show Hid (∀ w', Two w w' a b (r, 0, M) (r, 0, M) → Calls Try.prog 20 #[cptr a] w' fun e w2 => e = .returned (.string ⟨r.toArray⟩) ∧ ∃ m, w2 = w'.drewN m) from fun w' h => rest_any h.ca)
              have HRb := (show Hid (∀ w', Two w w' a b (r, 0, M) (r, 0, M) → Calls Try.prog 20 #[cptr b] w' fun e w2 => e = .returned (.string ⟨r.toArray⟩) ∧ ∃ m, w2 = w'.drewN m) from fun w' h => rest_any h.cb)
              go_wp2_with (go_at_call 11; refine (HMv.out _ H2'.out).mono ?_; rintro e w4 ⟨rfl, h4⟩; have H4 := (show Hid (Two w w4 a b (r, 0, M) (r, 0, M)) from h4); clear h4)
              go_quiet (first
                | (go_at_call_of 13 (cptr a); exact Calls.quiet_of_same (column_any (σ := (r, 0, M)) (H4.out.drewN _).ca))
                | (go_at_call_of 13 (cptr b); exact Calls.quiet_of_same (column_any (σ := (r, 0, M)) (H4.out.drewN _).cb))
                | (go_at_call_of 20 (cptr a); exact Calls.quiet_of (HRa.out _ (H4.out.drewN _)))
                | (go_at_call_of 20 (cptr b); exact Calls.quiet_of (HRb.out _ (H4.out.drewN _))))
              go_wp2
              go_ret
              exact ⟨rfl, (H4.out.drewN _).below⟩

theorem int_range {n : Int} (h : (Lit.int .i64 n).wf = true) : -9223372036854775808 ≤ n ∧ n ≤ 9223372036854775807 := by
  simp only [Lit.wf, Bool.and_eq_true, decide_eq_true_eq] at h
  exact h

theorem add_off (b off i : Nat) : (⟨b, off, none⟩ : Addr).add i = ⟨b, off + i, none⟩ := by unfold Addr.add; split <;> simp_all

set_option maxRecDepth 100000 in
theorem lifted (os : Os) (started : os.Started) (H : Type) (enc : TypeId × Value → H) :
    ReturnsInHanded {} Try.checked os 6 .any (Rows.cursorMovesSpec.pre6 enc Try.prog Try.f6 Rows.cursorMovesRow.domain false) (Rows.cursorMovesSpec.post enc Try.prog Try.f6 false true false false) := by
  refine returnsInHanded_of_change_sized (C := Try.checked) own started (by kernel_rfl) Try.func6
    (ChangeSpec.witness6 (enc := enc) (C := Try.checked) false ⟨#[], #[.string ⟨#[]⟩, .int .i64 0], []⟩ 8 (by kernel_rfl) (by kernel_rfl) (by kernel_rfl) (by kernel_rfl)) ?_
  intro W base args ds gs before hval0 hW hcnd hsz0 _
  have hsz1 : (DataW.weightsEach Try.prog (Try.f6.params.toList ++ []) (ds ++ gs)).all (· ≤ reachBytes) = true := hsz0
  clear hsz0
  have hval : ∀ (j : Nat) t v, Try.f6.params[j]? = some t → args[j]? = some v → Value.okWide Try.prog W .any base t v := hval0
  have hW' := hW
  obtain ⟨p, q, hA0, hV, rfl, hfz, hnd⟩ := hW
  have hA : DataW.TrodAll enc Try.prog W 0 (fun _ => true) true Try.f6.params.toList args.toList ds p := hA0
  rw [Try.params6] at hA hval hsz1
  obtain ⟨v0, vs0, d0, ds0, p0, q0, hargs, rfl, rfl, h0, r0⟩ := trodAll_cons hA
  obtain ⟨v1, vs1, d1, ds1, p1, q1, rfl, rfl, rfl, h1, r1⟩ := trodAll_cons r0
  obtain ⟨rfl, rfl, rfl⟩ := trodAll_nil r1
  obtain rfl : args = #[v0, v1] := by cases args; simp_all
  obtain ⟨rfl, rfl⟩ := trodVars_none hV
  obtain ⟨s0, rfl, rfl, rfl, ws0⟩ := open_string Try.underlying9 (hval 0 9 v0 rfl rfl) h0
  have hz0 : s0.size ≤ 140737488351232 := by have := sized_string hsz1 (j := 0) (t := 9) (bytes := s0.data.toList) rfl rfl; rwa [len_data] at this
  obtain ⟨a1, rfl, rfl, rfl, w1⟩ := open_int Try.underlying3 (hval 1 3 v1 rfl rfl) h1
  clear hA0 hval0 hsz1
  simp only [List.append_nil] at hW'
  refine (walk s0 hz0 a1 (int_range w1) W).mono fun e W' ⟨he, bel⟩ => ?_
  subst he
  exact ⟨_, rfl, _, _, _, [], _, [], hW', trodAll_mk1 (shut_bool Try.underlying4 _), (trodAll_cons_mk (shut_string Try.underlying9 ws0) (trodAll_cons_mk (shut_int Try.underlying3 w1) trodAll_mk0)), rfl, bel.frame _, fun h => by cases h⟩

theorem over : Rows.cursorMovesRow.holds Try.pinned (OpenSpec.ofChange Rows.cursorMovesSpec) :=
  OpenClaim.holds_of_wide 6 Try.f6 rfl rfl rfl rfl rfl rfl rfl ⟨rfl, rfl, rfl, rfl, rfl⟩ rfl rfl rfl rfl rfl (by kernel_rfl) Try.func6 (by kernel_rfl)
    (of_decide_eq_true (by kernel_rfl)) (by unfold Func.isWrapper; first | (rw [if_pos (by decide +kernel)]; kernel_rfl) | (rw [if_neg (by decide +kernel)]; exact ⟨rfl, rfl⟩))
    (fun os started H enc _ => lifted os started H enc)

theorem proved : Rows.CursorMovesSaid :=
  over
#print axioms proved
end Go.Proofs.Ytonlkkpoanlcbaa.cursorMoves
