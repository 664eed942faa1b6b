/- What the document's own place in a line answers: Indent, Behind, Blank, Next, Rest. -/
import Derived.Test.YtonlkkpoanlcbaaRCur
set_option linter.unusedVariables false
namespace Go.Proofs.Ytonlkkpoanlcbaa
open Go.RowKit

theorem ind_four (σ : Pl) (h3 : σ.2.1 ≤ 3) : indR σ ≤ 4 * σ.1.length + 4 := by
  have := (ind_le σ).2
  omega

set_option maxHeartbeats 1000000 in
theorem rindent_any {b : Nat} {σ : Pl} {w : World} (h : Ref w b σ) : Calls Try.prog 15 #[cptr b] w fun e w' => e = .returned (.int .i64 (indR σ : Int)) ∧ Below w.heap.size w w' := by
  obtain ⟨s, h1, h2, h3, h4⟩ := h
  have hlt := lt_of_block h1
  have c0 := cell_blk h1 (i := 0) rfl
  have c1 := cell_blk h1 (i := 1) rfl
  have c2 := cell_blk h1 (i := 2) rfl
  have hsz : s.size = σ.1.length := by rw [← len_data, h2]
  have hw4 : σ.2.2 + σ.2.1 + 4 * σ.1.length ≤ 35184372088832 := h4
  have hi4 := ind_four σ h3
  have hil := (ind_le σ).1
  have HSk := (show Hid (∀ w', Ref w' w.heap.size σ → Calls Try.prog 10 #[cptr w.heap.size, .int .i64 ((s.size : Int) * 4 + 4)] w' fun e w2 => e = .returned (.int .i64 (indR σ : Int)) ∧ Oth w.heap.size w' w2) from fun w' hr => by
    have := rskip_any hr ((s.size : Int) * 4 + 4) (by omega)
    refine this.mono fun e w2 ⟨he, _, ho⟩ => ⟨?_, ho⟩
    rw [he]
    refine ret_int ?_
    rw [skip_every σ _ (by omega)]
    show (endC σ.1 (σ.2.2 + σ.2.1) : Int) - _ = _
    omega)
  have HR := (show Hid (Ref (w.alloc (.cells #[.string s, .int .i64 (σ.2.1 : Int), .int .i64 (σ.2.2 : Int)] 28)) w.heap.size σ) from ⟨s, by
    show (w.heap.push _)[w.heap.size]? = _
    simp, h2, h3, h4⟩)
  have hs9 : s.size ≤ 35184372088832 := by omega
  clear h1 h2 h3 h4 hsz hw4 hi4 hil
  generalize σ.2.1 = part at *
  generalize σ.2.2 = c at *
  generalize indR σ = I at *
  go_enter Try.func15, Try.ntmps15
  go_wp2_with (go_at_call 10; refine (HSk.out _ HR.out).mono ?_; rintro e w1 ⟨rfl, ho⟩)
  go_ret
  exact ⟨rfl, ((Below.refl _ _).alloc (Nat.le_refl _) _).trans (ho.below (Nat.le_refl _))⟩

set_option maxHeartbeats 1000000 in
theorem rbehind_any {b : Nat} {σ : Pl} {w : World} (h : Ref w b σ) : Calls Try.prog 23 #[cptr b] w fun e w' => e = .returned (.string ⟨(beh σ.1).toArray⟩) ∧ w' = w := by
  obtain ⟨s, h1, h2, h3, h4⟩ := h
  have c0 := cell_blk h1 (i := 0) rfl
  have hs9 : s.size ≤ 35184372088832 := by
    have hsz : s.size = σ.1.length := by rw [← len_data, h2]
    have hw4 : σ.2.2 + σ.2.1 + 4 * σ.1.length ≤ 35184372088832 := h4
    omega
  rw [← h2]
  clear h1 h2 h3 h4
  go_enter Try.func23, Try.ntmps23
  go_wp2
  go_loopw [3] (fun i wr => ∃ k : Nat, i = .int .i64 (k : Int) ∧ k ≤ s.size ∧ Hid (beh (s.data.toList.drop k) = beh s.data.toList) ∧ Hid (wr = w)) (fun i _ => s.size - (intOf i).toNat)
  case atStart => exact ⟨0, rfl, by omega, rfl, rfl⟩
  case round =>
    obtain ⟨k, rfl, hk, hb, hw⟩ := hrel
    have hw' := hw.out
    subst hw'
    by_cases hlt : k < s.size
    · have hd := drop_cons s k hlt
      have HD : Hid (s.data.toList.drop k = s[k] :: s.data.toList.drop (k + 1)) := hd
      clear hd
      have hlt' : (k : Int) < (s.size : Int) := by omega
      have hkle : (k : Int) ≤ (s.size : Int) := by omega
      have hib := isB_int s[k]
      cases hB : isB s[k] with
      | true =>
        rw [hB] at hib
        have hrel2 : Hid (beh (s.data.toList.drop (k + 1)) = beh s.data.toList) := by
          have hb' := hb.out
          rw [HD.out] at hb'
          show beh (s.data.toList.drop (k + 1)) = _
          rw [← hb']
          simp only [beh, hB, if_true]
        rcases Bool.or_eq_true_iff.1 hib.symm with q | q
        · have q1 : (s[k].toNat : Int) = 32 := beq_iff_eq.1 q
          clear hib q hB
          go_wp2
          go_roundw
          case rel => exact ⟨k + 1, by go_num, by omega, hrel2, True.intro⟩
          case measure => simp [intOf]; omega
        · have q1 : (s[k].toNat : Int) = 9 := beq_iff_eq.1 q
          clear hib q hB
          go_wp2
          go_roundw
          case rel => exact ⟨k + 1, by go_num, by omega, hrel2, True.intro⟩
          case measure => simp [intOf]; omega
      | false =>
        rw [hB] at hib
        obtain ⟨q1, q2⟩ := Bool.or_eq_false_iff.1 hib.symm
        have q3 : ((s[k].toNat : Int) != 32) = true := by rw [bne, q1]; rfl
        have q4 : ((s[k].toNat : Int) != 9) = true := by rw [bne, q2]; rfl
        have e1 : s.data.toList.drop k = beh s.data.toList := by
          rw [← hb.out, HD.out]
          simp [beh, hB]
        have E1 := (show Hid (s.data.toList.drop k = beh s.data.toList) from e1)
        clear hib q1 q2 e1
        go_wp2
        go_ret
        refine ⟨ret_str ?_, rfl⟩
        rw [extract_end, E1.out]
    · have hge : ¬ ((k : Int) < (s.size : Int)) := by omega
      go_wp2
      go_ret
      refine ⟨ret_str ?_, rfl⟩
      rw [← hb.out, drop_nil s k (by omega)]
      rfl

theorem list_str (l : List UInt8) : (ByteArray.mk l.toArray).toList = l := by rw [ByteArray.toList_eq]

set_option maxHeartbeats 400000 in
theorem rblank_any {b : Nat} {σ : Pl} {w : World} (h : Ref w b σ) : Calls Try.prog 17 #[cptr b] w fun e w' => e = .returned (.bool (beh σ.1).isEmpty) ∧ w' = w := by
  have hb := rbehind_any h
  obtain ⟨r, hr⟩ : ∃ r : ByteArray, r = ⟨(beh σ.1).toArray⟩ := ⟨_, rfl⟩
  rw [← hr] at hb
  have HB := (show Hid (Calls Try.prog 23 #[cptr b] w fun e w' => e = .returned (.string r) ∧ w' = w) from hb)
  have hl : r.toList = beh σ.1 := by rw [hr, list_str]
  clear hb hr h
  go_enter Try.func17, Try.ntmps17
  go_wp2_with (go_at_call 23; refine HB.out.mono ?_; rintro e w1 ⟨rfl, hw1⟩; subst w1)
  go_ret
  refine ⟨ret_bool ?_, rfl⟩
  first | rfl | (rw [Bool.eq_iff_iff]; simp [hl])

set_option maxHeartbeats 400000 in
theorem rnext_any {b : Nat} {σ : Pl} {w : World} (h : Ref w b σ) : Calls Try.prog 19 #[cptr b] w fun e w' => e = .returned (.int .u8 (((beh σ.1).headD 0).toNat : Int)) ∧ w' = w := by
  have hb := rbehind_any h
  obtain ⟨r, hr⟩ : ∃ r : ByteArray, r = ⟨(beh σ.1).toArray⟩ := ⟨_, rfl⟩
  rw [← hr] at hb
  have HB := (show Hid (Calls Try.prog 23 #[cptr b] w fun e w' => e = .returned (.string r) ∧ w' = w) from hb)
  have hl : r.data.toList = beh σ.1 := by rw [hr]
  have hl2 : r.toList = beh σ.1 := by rw [ByteArray.toList_eq, hl]
  clear hb hr h
  cases hc : beh σ.1 with
  | nil =>
    rw [hc] at hl hl2
    go_enter Try.func19, Try.ntmps19
    go_wp2_with (go_at_call 23; refine HB.out.mono ?_; rintro e w1 ⟨rfl, hw1⟩; subst w1)
    go_ret
    exact ⟨rfl, rfl⟩
  | cons x t =>
    rw [hc] at hl hl2
    obtain ⟨hs0, _, hx0⟩ := data_cons hl
    have hx := hx0 hs0
    have hs0' : (0 : Int) < (r.size : Int) := by omega
    clear hx0 hl hc
    go_enter Try.func19, Try.ntmps19
    go_wp2_with (go_at_call 23; refine HB.out.mono ?_; rintro e w1 ⟨rfl, hw1⟩; subst w1)
    go_ret
    exact ⟨rfl, rfl⟩

set_option maxHeartbeats 400000 in
theorem rrest_any {b : Nat} {σ : Pl} {w : World} (h : Ref w b σ) : Calls Try.prog 21 #[cptr b] w fun e w' => e = .returned (.string ⟨(restR σ).toArray⟩) ∧ w' = w := by
  obtain ⟨s, h1, h2, h3, h4⟩ := h
  have c0 := cell_blk h1 (i := 0) rfl
  have c1 := cell_blk h1 (i := 1) rfl
  have hs9 : s.size ≤ 35184372088832 := by
    have hsz : s.size = σ.1.length := by rw [← len_data, h2]
    have hw4 : σ.2.2 + σ.2.1 + 4 * σ.1.length ≤ 35184372088832 := h4
    omega
  unfold restR
  rw [← h2]
  clear h1 h2 h4
  generalize σ.2.1 = part at *
  go_enter Try.func21, Try.ntmps21
  go_wp2
  go_loopw [3, 4] (fun v i wr => ∃ (k : Nat) (l : List UInt8), i = .int .i64 (k : Int) ∧ v = .string ⟨l.toArray⟩ ∧ k ≤ part ∧ l.length ≤ k ∧ Hid (l = List.replicate k 32) ∧ Hid (wr = w)) (fun _ i _ => part - (intOf i).toNat)
  case atStart => exact ⟨0, [], rfl, rfl, by omega, by simp, rfl, rfl⟩
  case round =>
    obtain ⟨k, l, rfl, rfl, hk, hll, hl, hw⟩ := hrel
    have hw' := hw.out
    subst hw'
    by_cases hlt : k < part
    · have hlt' : (k : Int) < (part : Int) := by omega
      go_wp2
      go_roundw
      case rel => exact ⟨k + 1, l ++ [32], by go_num, by rw [← cat_eq], by omega, by simp; omega, by show l ++ [32] = _; rw [hl.out, List.replicate_succ'], True.intro⟩
      case measure => simp [intOf]; omega
    · have hge : ¬ ((k : Int) < (part : Int)) := by omega
      have hkp : k = part := by omega
      go_wp2
      go_ret
      refine ⟨ret_str ?_, rfl⟩
      rw [← hkp, ← hl.out, ← cat_eq, mk_data]

end Go.Proofs.Ytonlkkpoanlcbaa
