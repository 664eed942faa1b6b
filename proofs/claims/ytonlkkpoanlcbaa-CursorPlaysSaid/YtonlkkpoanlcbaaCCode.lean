/- What the calls of cursor that only read answer, of any place in a line. -/
import Derived.Test.YtonlkkpoanlcbaaCBase
set_option linter.unusedVariables false
namespace Go.Proofs.Ytonlkkpoanlcbaa
open Go.RowKit

theorem isB_int (b : UInt8) : isB b = (((b.toNat : Int) == 32) || ((b.toNat : Int) == 9)) := by
  have e1 : ((b.toNat : Int) == 32) = (b == 32) := by
    rw [Bool.eq_iff_iff]; simp only [beq_iff_eq]
    constructor
    · intro h; exact UInt8.toNat_inj.1 (by show b.toNat = 32; omega)
    · rintro rfl; rfl
  have e2 : ((b.toNat : Int) == 9) = (b == 9) := by
    rw [Bool.eq_iff_iff]; simp only [beq_iff_eq]
    constructor
    · intro h; exact UInt8.toNat_inj.1 (by show b.toNat = 9; omega)
    · rintro rfl; rfl
  rw [e1, e2]; rfl

theorem tab_int (b : UInt8) : b = 9 ↔ (b.toNat : Int) = 9 := by
  constructor
  · rintro rfl; rfl
  · intro h; exact UInt8.toNat_inj.1 (by show b.toNat = 9; omega)

set_option maxHeartbeats 400000 in
theorem isBlank_any (b : UInt8) (w : World) : Calls Try.prog 24 #[.int .u8 (b.toNat : Int)] w fun e w' => e = .returned (.bool (isB b)) ∧ w' = w := by
  rw [isB_int]
  rcases Decidable.em ((b.toNat : Int) = 32) with h | h
  · have q : ((b.toNat : Int) == 32) = true := by rw [h]; rfl
    go_enter Try.func24, Try.ntmps24
    go_wp2
    go_ret
    exact ⟨by rw [q]; rfl, rfl⟩
  · have q : ((b.toNat : Int) == 32) = false := by simpa using h
    go_enter Try.func24, Try.ntmps24
    go_wp2
    go_ret
    exact ⟨by rw [q]; rfl, rfl⟩

set_option maxHeartbeats 400000 in
theorem width_any (b : UInt8) (c : Nat) (w : World) (hc : c ≤ 1152921504606846976) : Calls Try.prog 25 #[.int .u8 (b.toNat : Int), .int .i64 (c : Int)] w fun e w' => e = .returned (.int .i64 (wid b c : Int)) ∧ w' = w := by
  have hm : (c : Int).tmod 4 = ((c % 4 : Nat) : Int) := by rw [Int.tmod_eq_emod_of_nonneg (by omega)]; omega
  have h4 : c % 4 < 4 := Nat.mod_lt _ (by omega)
  unfold wid
  by_cases h : b = 9
  · have q : ((b.toNat : Int) == 9) = true := by rw [h]; rfl
    rw [if_pos h]
    clear h
    have e : ((4 - c % 4 : Nat) : Int) = 4 - ((c % 4 : Nat) : Int) := by omega
    rw [e]
    generalize c % 4 = r at *
    go_enter Try.func25, Try.ntmps25
    go_wp2
    go_ret
    exact ⟨rfl, rfl⟩
  · have q : ((b.toNat : Int) == 9) = false := by
      have := mt (tab_int b).2 h
      simpa using this
    rw [if_neg h]
    clear h hm h4
    go_enter Try.func25, Try.ntmps25
    go_wp2
    go_ret
    exact ⟨rfl, rfl⟩

set_option maxHeartbeats 400000 in
theorem new_any (s : ByteArray) (w : World) (hs : s.size ≤ 1099511627776) : Calls Try.prog 8 #[.string s] w fun e w' => e = .returned (cptr w.heap.size) ∧ Cur w' w.heap.size (s.data.toList, 0, 0) ∧ Below w.heap.size w w' := by
  go_enter Try.func8, Try.ntmps8
  go_wp2
  go_ret
  refine ⟨rfl, ⟨s, 0, 0, false, ?_, by omega, hs, ?_, .inl ⟨rfl, rfl⟩⟩, (Below.refl _ _).alloc (Nat.le_refl _) _⟩
  · show (w.heap.push _)[w.heap.size]? = _
    simp
  · simp only [wt]; rw [len_data]; omega

set_option maxHeartbeats 400000 in
theorem column_any {b : Nat} {σ : Pl} {w : World} (h : Cur w b σ) : Calls Try.prog 13 #[cptr b] w fun e w' => e = .returned (.int .i64 (σ.2.2 : Int)) ∧ w' = w := by
  obtain ⟨s, p, c, wi, h1, h2, h3, h4, h5⟩ := h
  rw [h5.col]
  have c2 := cell_blk h1 (i := 2) rfl
  clear h1
  go_enter Try.func13, Try.ntmps13
  go_wp2
  go_ret
  exact ⟨rfl, rfl⟩

set_option maxHeartbeats 400000 in
theorem behindAt_any {b : Nat} {s : ByteArray} {p c : Nat} {wi : Bool} {w : World} (h : CurB w b s p c wi) (h2 : p ≤ s.size) (h3 : s.size ≤ 1099511627776) : Calls Try.prog 29 #[cptr b] w fun e w' => e = .returned (.int .i64 (bAt s p : Int)) ∧ w' = w := by
  have c0 := cell_blk h (i := 0) rfl
  have c1 := cell_blk h (i := 1) rfl
  clear h
  go_enter Try.func29, Try.ntmps29
  go_wp2
  go_loopw [3] (fun i wr => ∃ k : Nat, i = .int .i64 (k : Int) ∧ k ≤ s.size ∧ Hid (beh (s.data.toList.drop k) = beh (s.data.toList.drop p)) ∧ Hid (wr = w)) (fun i _ => s.size - (intOf i).toNat)
  case atStart => exact ⟨p, rfl, h2, rfl, rfl⟩
  case round =>
    obtain ⟨k, rfl, hk, hb, hw⟩ := hrel
    have hw' := hw.out
    subst hw'
    by_cases hlt : k < s.size
    · have hd := drop_cons s k hlt
      have HD : Hid (s.data.toList.drop k = s[k] :: s.data.toList.drop (k + 1)) := hd
      clear hd
      have hlt' : (k : Int) < (s.size : Int) := by omega
      have dlt : decide ((k : Int) < (s.size : Int)) = true := by simpa using hlt
      cases hB : isB s[k] with
      | true =>
        go_wp2_with (go_at_call 24; refine (isBlank_any _ _).mono ?_; rintro e w1 ⟨rfl, rfl⟩)
        go_roundw
        case rel =>
          refine ⟨k + 1, by go_num, by omega, ?_, True.intro⟩
          have hb' := hb.out
          rw [HD.out] at hb'
          show beh (s.data.toList.drop (k + 1)) = _
          rw [← hb']
          simp only [beh, hB, if_true]
        case measure => simp [intOf]; omega
      | false =>
        go_wp2_with (go_at_call 24; refine (isBlank_any _ _).mono ?_; rintro e w1 ⟨rfl, rfl⟩)
        go_ret
        refine ⟨ret_int ?_, rfl⟩
        rw [bAt_eq s p k hk]
        rw [← hb.out, HD.out]
        simp [beh, hB]
    · have hge : ¬ ((k : Int) < (s.size : Int)) := by omega
      have dlt : decide ((k : Int) < (s.size : Int)) = false := by simpa using hge
      go_wp2
      go_ret
      refine ⟨ret_int ?_, rfl⟩
      rw [bAt_eq s p k hk]
      rw [← hb.out, drop_nil s k (by omega)]
      rfl

set_option maxHeartbeats 400000 in
theorem indent_any {b : Nat} {σ : Pl} {w : World} (h : Cur w b σ) : Calls Try.prog 14 #[cptr b] w fun e w' => e = .returned (.int .i64 (indR σ : Int)) ∧ w' = w := by
  obtain ⟨s, p, c, wi, h1, h2, h3, h4, h5⟩ := h
  have hcw := h5.wt
  have e1 : (indR σ : Int) = (endC (s.data.toList.drop p) c : Int) - (c : Int) := by
    have h6 := ind_le σ
    rw [h5.endC, h5.col] at h6
    omega
  have hle := (endC_le (s.data.toList.drop p) c).2
  have hdl : (s.data.toList.drop p).length ≤ s.size := by rw [List.length_drop, len_data]; omega
  have hmax : endC (s.data.toList.drop p) c ≤ 39582418599936 := by omega
  rw [e1]
  clear e1 h5 h4 hle hdl
  have c0 := cell_blk h1 (i := 0) rfl
  have c1 := cell_blk h1 (i := 1) rfl
  have c2 := cell_blk h1 (i := 2) rfl
  clear h1
  generalize hE : endC (s.data.toList.drop p) c = E at *
  have HE : Hid (endC (s.data.toList.drop p) c = E) := hE
  clear hE
  go_enter Try.func14, Try.ntmps14
  go_wp2
  go_loopw [3, 4] (fun m i wr => ∃ k x : Nat, i = .int .i64 (k : Int) ∧ m = .int .i64 (x : Int) ∧ k ≤ s.size ∧ c ≤ x ∧ x ≤ E ∧ Hid (endC (s.data.toList.drop k) x = E) ∧ Hid (wr = w)) (fun _ i _ => s.size - (intOf i).toNat)
  case atStart => exact ⟨p, c, rfl, rfl, h2, Nat.le_refl _, by have := (endC_le (s.data.toList.drop p) c).1; have := HE.out; omega, HE, rfl⟩
  case round =>
    obtain ⟨k, x, rfl, rfl, hk, hcx, hx, hb, hw⟩ := hrel
    have hw' := hw.out
    subst hw'
    by_cases hlt : k < s.size
    · have hd := drop_cons s k hlt
      have HD : Hid (s.data.toList.drop k = s[k] :: s.data.toList.drop (k + 1)) := hd
      clear hd
      have hlt' : (k : Int) < (s.size : Int) := by omega
      have dlt : decide ((k : Int) < (s.size : Int)) = true := by simpa using hlt
      have hw4 := wid_pos s[k] x
      cases hB : isB s[k] with
      | true =>
        go_wp2_with (first
          | (go_at_call 24; refine (isBlank_any _ _).mono ?_; rintro e w1 ⟨rfl, rfl⟩)
          | (go_at_call 25; refine (width_any _ _ _ (by omega)).mono ?_; rintro e w1 ⟨rfl, rfl⟩))
        go_roundw
        case rel =>
          have hb' := hb.out
          rw [HD.out] at hb'
          simp only [endC, hB, if_true] at hb'
          refine ⟨k + 1, x + wid s[k] x, by go_num, by go_num, by omega, by omega, ?_, hb', True.intro⟩
          have := (endC_le (s.data.toList.drop (k + 1)) (x + wid s[k] x)).1
          omega
        case measure => simp [intOf]; omega
      | false =>
        go_wp2_with (go_at_call 24; refine (isBlank_any _ _).mono ?_; rintro e w1 ⟨rfl, rfl⟩)
        go_ret
        refine ⟨ret_int ?_, rfl⟩
        have hb' := hb.out
        rw [HD.out] at hb'
        simp [endC, hB] at hb'
        omega
    · have hge : ¬ ((k : Int) < (s.size : Int)) := by omega
      have dlt : decide ((k : Int) < (s.size : Int)) = false := by simpa using hge
      go_wp2
      go_ret
      refine ⟨ret_int ?_, rfl⟩
      have hb' := hb.out
      rw [drop_nil s k (by omega)] at hb'
      simp [endC] at hb'
      omega

set_option maxHeartbeats 400000 in
theorem blank_any {b : Nat} {σ : Pl} {w : World} (h : Cur w b σ) : Calls Try.prog 16 #[cptr b] w fun e w' => e = .returned (.bool (beh σ.1).isEmpty) ∧ ∃ m, w' = w.drewN m := by
  obtain ⟨s, p, c, wi, h1, h2, h3, h4, h5⟩ := h
  have c0 := cell_blk h1 (i := 0) rfl
  have hB := bAt_end s p
  rw [h5.beh]
  have HB : Hid (bAt s p = s.size ↔ (beh (s.data.toList.drop p)).isEmpty = true) := hB
  have H1 : Hid (CurB w b s p c wi) := h1
  clear hB h1
  go_enter Try.func16, Try.ntmps16
  go_wp2
  go_quiet ((go_at_call 29; exact Calls.quiet_of_same (behindAt_any H1 h2 h3)))
  go_wp2
  go_ret
  refine ⟨ret_bool ?_, _, rfl⟩
  rw [Bool.eq_iff_iff, ← HB.out]
  simp
  omega

set_option maxHeartbeats 400000 in
theorem next_any {b : Nat} {σ : Pl} {w : World} (h : Cur w b σ) : Calls Try.prog 18 #[cptr b] w fun e w' => e = .returned (.int .u8 (((beh σ.1).headD 0).toNat : Int)) ∧ w' = w := by
  obtain ⟨s, p, c, wi, h1, h2, h3, h4, h5⟩ := h
  have c0 := cell_blk h1 (i := 0) rfl
  have hle := bAt_le s p
  have hd := bAt_drop s p h2
  rw [h5.beh, ← hd]
  clear hd
  have hba := behindAt_any h1 h2 h3
  have HB : Hid (Calls Try.prog 29 #[cptr b] w fun e w' => e = .returned (.int .i64 (bAt s p : Int)) ∧ w' = w) := hba
  clear h1 hba
  generalize bAt s p = k at *
  by_cases hlt : k < s.size
  · have hlt' : (k : Int) < (s.size : Int) := by omega
    rw [drop_cons s k hlt, List.headD_cons]
    go_enter Try.func18, Try.ntmps18
    go_wp2_with (go_at_call 29; refine HB.out.mono ?_; rintro e w1 ⟨rfl, rfl⟩)
    go_ret
    exact ⟨rfl, rfl⟩
  · have hge : ¬ ((k : Int) < (s.size : Int)) := by omega
    rw [drop_nil s k (by omega), List.headD_nil]
    go_enter Try.func18, Try.ntmps18
    go_wp2_with (go_at_call 29; refine HB.out.mono ?_; rintro e w1 ⟨rfl, rfl⟩)
    go_ret
    exact ⟨rfl, rfl⟩

set_option maxHeartbeats 400000 in
theorem behind_any {b : Nat} {σ : Pl} {w : World} (h : Cur w b σ) : Calls Try.prog 22 #[cptr b] w fun e w' => e = .returned (.string ⟨(beh σ.1).toArray⟩) ∧ ∃ m, w' = w.drewN m := by
  obtain ⟨s, p, c, wi, h1, h2, h3, h4, h5⟩ := h
  have c0 := cell_blk h1 (i := 0) rfl
  have hle := bAt_le s p
  have hd := bAt_drop s p h2
  rw [h5.beh, ← hd]
  clear hd
  have HB : Hid (∀ n, Calls Try.prog 29 #[cptr b] (w.drewN n) fun e w' => e = .returned (.int .i64 (bAt s p : Int)) ∧ w' = w.drewN n) := fun n => behindAt_any (w := w.drewN n) h1 h2 h3
  clear h1
  generalize bAt s p = k at *
  have hle' : (k : Int) ≤ (s.size : Int) := by omega
  go_enter Try.func22, Try.ntmps22
  go_wp2
  go_quiet ((go_at_call 29; exact Calls.quiet_of_same (HB.out _)))
  go_wp2
  go_ret
  refine ⟨ret_str ?_, _, rfl⟩
  exact extract_end s k

end Go.Proofs.Ytonlkkpoanlcbaa
