/- Package leaf: number, Marker; walked. -/
import Derived.Test.YtnjfkgkcapkfbaaGreatDoorLRule
set_option linter.unusedVariables false
namespace Go.Proofs.YtnjfkgkcapkfbaaGreatDoor
open Go.RowKit

theorem digB_range {b : UInt8} (h : digitB b = true) : 48 ≤ b.toNat ∧ b.toNat ≤ 57 := by
  unfold digitB at h
  simpa using h

set_option maxHeartbeats 1000000 in
theorem lnumber_any (s : ByteArray) (hs : s.size ≤ 9) (hd : s.data.toList.all digitB = true) (w : World) :
    Calls Tryz.prog 35 #[.string s] w fun e w' => e = .returned (.int .i64 (numL 0 s.data.toList : Int)) ∧ w' = w := by
  have HD : Hid (s.data.toList.all digitB = true) := hd
  clear hd
  go_enter Tryz.func35, Tryz.ntmps35
  go_wp2
  go_loop [3, 7] (fun V A => ∃ (l' : List UInt8) (v : Nat), V = .int .i64 (v : Int) ∧ A = .int .i64 (pos s l' : Int) ∧ Hid (Suf s l') ∧ Hid (numL v l' = numL 0 s.data.toList) ∧ Hid (v < 10 ^ pos s l')) (fun _ A => s.size - (intOf A).toNat)
  case atStart => exact ⟨s.data.toList, 0, rfl, by rw [pos_whole]; rfl, Suf.whole s, rfl, by show 0 < _; exact Nat.pos_of_ne_zero (by simp)⟩
  case round =>
    obtain ⟨l', v, rfl, rfl, h1, h2, h3⟩ := hrel
    cases l' with
    | nil =>
      have hp : pos s [] = s.size := pos_nil s
      go_wp2
      go_ret
      exact ⟨ret_int (by rw [← h2.out]; rfl), rfl⟩
    | cons b t =>
      have hlt := h1.out.lt
      have hb := h1.out.byte hlt
      have hle : (pos s (b :: t) : Int) + 1 ≤ (s.size : Int) := by omega
      have hsu := (show Hid _ from h1.out.succ)
      have hdb : digitB b = true := by
        obtain ⟨p, e⟩ := h1.out
        have := HD.out
        rw [e, List.all_append, Bool.and_eq_true] at this
        have h4 := this.2
        rw [List.all_cons, Bool.and_eq_true] at h4
        exact h4.1
      have HV : Hid (v < 100000000) := by
        have := Nat.pow_le_pow_right (n := 10) (by omega) (show pos s (b :: t) ≤ 8 by omega)
        exact Nat.lt_of_lt_of_le h3.out this
      have hv : (v : Int) ≤ 100000000 := by have := HV.out; omega
      have hv0 : (0 : Int) ≤ (v : Int) := by omega
      have hr := digB_range hdb
      have r1 : (48 : Int) ≤ (b.toNat : Int) := by omega
      have r2 : (b.toNat : Int) ≤ 57 := by omega
      have HR := (show Hid _ from hr)
      clear hdb hr
      go_wp2
      go_round
      case rel =>
        have h5 := HR.out
        refine ⟨t, v * 10 + (b.toNat - 48), ?_, ?_, h1.out.tail, ?_, ?_⟩
        · congr 1; push_cast [h5.1]; go_num
        · rw [hsu.out]; go_num
        · exact h2.out
        · show _ < _
          rw [hsu.out, Nat.pow_succ]
          have := h3.out
          omega
      case measure => simp [intOf]; omega

/-- What Marker tells. -/
def markV (o : UInt8 × Nat × Nat) : Value := .tuple #[.int .u8 (o.1.toNat : Int), .int .i64 (o.2.1 : Int), .int .i64 (o.2.2 : Int)]

theorem row_drop (p : UInt8 → Bool) : ∀ l : List UInt8, l.dropWhile p = l.drop (rowN p l)
  | [] => by simp
  | b :: t => by
    rw [row_cons, List.dropWhile_cons]
    split
    · rw [row_drop p t, List.drop_succ_cons]
    · rfl
theorem row_take (p : UInt8 → Bool) : ∀ l : List UInt8, (l.take (rowN p l)).all p = true
  | [] => by simp
  | b :: t => by
    rw [row_cons]
    split
    · rename_i h
      rw [List.take_succ_cons, List.all_cons, h, row_take p t]; rfl
    · simp

set_option maxHeartbeats 2000000 in
theorem lmarker_any (s : ByteArray) (hs : s.size ≤ 9223372036854775000) (w : World) :
    Calls Tryz.prog 15 #[.string s] w fun e w' => e = .returned (markV (markL s.data.toList)) ∧ ∃ n, w' = w.drewN n := by
  have hkl : rowN digitB s.data.toList ≤ s.size := by have := row_le digitB s.data.toList; rw [len_data] at this; exact this
  have HR := (show Hid _ from fun w => lrow_any ldigit_kind s hs w trivial)
  have HN : Hid (rowN digitB s.data.toList ≤ 9 → ∀ w, Calls Tryz.prog 35 #[.string (s.extract 0 (rowN digitB s.data.toList))] w fun e w' => e = .returned (.int .i64 (numL 0 (s.data.toList.take (rowN digitB s.data.toList)) : Int)) ∧ w' = w) := fun h9 w => by
    have hd : (s.extract 0 (rowN digitB s.data.toList)).data.toList = s.data.toList.take (rowN digitB s.data.toList) := by rw [extract_eq]; rfl
    have hz : (s.extract 0 (rowN digitB s.data.toList)).size ≤ 9 := by rw [ByteArray.size_extract]; omega
    have := lnumber_any (s.extract 0 (rowN digitB s.data.toList)) hz (by rw [hd]; exact row_take _ _) w
    rwa [hd] at this
  have HL : Hid (markL s.data.toList = if 9 < rowN digitB s.data.toList then (0, 0, 0) else match s.data.toList.drop (rowN digitB s.data.toList) with
    | [] => (0, 0, 0)
    | b :: t => if partedL t = false then (0, 0, 0) else if (if 0 < rowN digitB s.data.toList then b == 46 || b == 41 else b == 45 || b == 43 || b == 42) = true then (b, rowN digitB s.data.toList + 1, numL 0 (s.data.toList.take (rowN digitB s.data.toList))) else (0, 0, 0)) := rfl
  have hsd : Suf s (s.data.toList.drop (rowN digitB s.data.toList)) := (Suf.whole s).drop _
  have hln : (s.data.toList.drop (rowN digitB s.data.toList)).length = s.size - rowN digitB s.data.toList := by rw [List.length_drop, len_data]
  generalize numL 0 (s.data.toList.take (rowN digitB s.data.toList)) = N at *
  generalize s.data.toList.drop (rowN digitB s.data.toList) = D at *
  generalize rowN digitB s.data.toList = d at *
  by_cases h9 : 9 < d
  · have q9 : (9 : Int) < (d : Int) := by omega
    have HE : Hid (markL s.data.toList = (0, 0, 0)) := by show _ = _; rw [HL.out, if_pos h9]
    clear HL HN
    go_enter Tryz.func15, Tryz.ntmps15
    go_wp2_with (go_at_call 33; refine (HR.out _).mono ?_; rintro e w1 ⟨rfl, hw⟩; subst w1)
    go_ret3
    exact ⟨by rw [HE.out]; rfl, 0, rfl⟩
  · have q9 : ¬ (9 : Int) < (d : Int) := by omega
    rw [if_neg h9] at HL
    have HN := (show Hid _ from HN.out (by omega))
    cases D with
    | nil =>
      have hq : (d : Int) = (s.size : Int) := by simp only [List.length_nil] at hln; omega
      have hqb : ((d : Int) == (s.size : Int)) = true := by simpa using hq
      have HE : Hid (markL s.data.toList = (0, 0, 0)) := HL.out
      clear HL HN hq hln
      go_enter Tryz.func15, Tryz.ntmps15
      go_wp2_with (go_at_call 33; refine (HR.out _).mono ?_; rintro e w1 ⟨rfl, hw⟩; subst w1)
      go_ret3
      exact ⟨by rw [HE.out]; rfl, 0, rfl⟩
    | cons b t =>
      have hsum := hsd.sum
      have hpd : pos s (b :: t) = d := by rw [hln] at hsum; have := hsd.lt; omega
      have hlt : d < s.size := by have := hsd.lt; omega
      have hb : s[d] = b := by have := hsd.byte (by rw [hpd]; exact hlt); simpa [hpd] using this
      have hle : (d : Int) + 1 ≤ (s.size : Int) := by omega
      have hq : ¬ (d : Int) = (s.size : Int) := by omega
      have hqb : ((d : Int) == (s.size : Int)) = false := by rw [beq_eq_false_iff_ne]; exact hq
      have hT : (s.extract (d + 1) s.size).data.toList = t := by
        rw [ext_from]
        have := hsd.tail.at
        rwa [hsd.succ, hpd] at this
      have HP := (show Hid _ from fun w => lparted_any (s.extract (d + 1) s.size) w)
      rw [hT] at HP
      have HL : Hid (markL s.data.toList = if partedL t = false then (0, 0, 0) else if (if 0 < d then b == 46 || b == 41 else b == 45 || b == 43 || b == 42) = true then (b, d + 1, N) else (0, 0, 0)) := HL.out
      generalize partedL t = pb at *
      clear hT hpd hsum hln hsd
      cases pb
      · have HE : Hid (markL s.data.toList = (0, 0, 0)) := by show _ = _; rw [HL.out, if_pos rfl]
        clear HL HN
        go_enter Tryz.func15, Tryz.ntmps15
        go_wp2_with (first
          | (go_at_call 33; refine (HR.out _).mono ?_; rintro e w1 ⟨rfl, hw⟩; subst w1)
          | (go_at_call 23; refine (HP.out _).mono ?_; rintro e w1 ⟨rfl, hw⟩; subst w1))
        go_ret3
        exact ⟨by rw [HE.out]; rfl, 0, rfl⟩
      · rw [if_neg (by decide)] at HL
        by_cases hd0 : 0 < d
        · have q0 : (0 : Int) < (d : Int) := by omega
          have HI := (show Hid _ from fun w => among_any ⟨#[46, 41]⟩ b w)
          have HL : Hid (markL s.data.toList = if ([46, 41] : List UInt8).elem b = true then (b, d + 1, N) else (0, 0, 0)) := by
            show _ = _
            rw [HL.out, if_pos hd0]
            have : ([46, 41] : List UInt8).elem b = (b == 46 || b == 41) := by rw [Bool.eq_iff_iff]; simp
            rw [this]
          cases hel : ([46, 41] : List UInt8).elem b
          · have HE : Hid (markL s.data.toList = (0, 0, 0)) := by show _ = _; rw [HL.out, hel]; rfl
            clear HL HN
            go_enter Tryz.func15, Tryz.ntmps15
            go_wp2_with (first
              | (go_at_call 33; refine (HR.out _).mono ?_; rintro e w1 ⟨rfl, hw⟩; subst w1)
              | (go_at_call 23; refine (HP.out _).mono ?_; rintro e w1 ⟨rfl, hw⟩; subst w1)
              | (go_at_call 19; refine (HI.out _).mono ?_; rintro e w1 ⟨⟨k, rfl, hk1, hk2⟩, hw⟩; subst w1; have hk := hk2 hel))
            go_ret3
            exact ⟨by rw [HE.out]; rfl, 0, rfl⟩
          · have HE : Hid (markL s.data.toList = (b, d + 1, N)) := by show _ = _; rw [HL.out, hel]; rfl
            clear HL
            go_enter Tryz.func15, Tryz.ntmps15
            go_wp2_with (first
              | (go_at_call 33; refine (HR.out _).mono ?_; rintro e w1 ⟨rfl, hw⟩; subst w1)
              | (go_at_call 23; refine (HP.out _).mono ?_; rintro e w1 ⟨rfl, hw⟩; subst w1)
              | (go_at_call 19; refine (HI.out _).mono ?_; rintro e w1 ⟨⟨k, rfl, hk1, hk2⟩, hw⟩; subst w1; have hk := hk1 hel))
            go_quiet ((go_at_call 35; exact Calls.quiet_of_same (HN.out _)))
            go_wp2
            go_ret3
            exact ⟨by rw [HE.out]; go_num, _, rfl⟩
        · have q0 : ¬ (0 : Int) < (d : Int) := by omega
          have HI := (show Hid _ from fun w => among_any ⟨#[45, 43, 42]⟩ b w)
          have HL : Hid (markL s.data.toList = if ([45, 43, 42] : List UInt8).elem b = true then (b, d + 1, N) else (0, 0, 0)) := by
            show _ = _
            rw [HL.out, if_neg hd0]
            have : ([45, 43, 42] : List UInt8).elem b = (b == 45 || b == 43 || b == 42) := by rw [Bool.eq_iff_iff]; simp [or_assoc]
            rw [this]
          cases hel : ([45, 43, 42] : List UInt8).elem b
          · have HE : Hid (markL s.data.toList = (0, 0, 0)) := by show _ = _; rw [HL.out, hel]; rfl
            clear HL HN
            go_enter Tryz.func15, Tryz.ntmps15
            go_wp2_with (first
              | (go_at_call 33; refine (HR.out _).mono ?_; rintro e w1 ⟨rfl, hw⟩; subst w1)
              | (go_at_call 23; refine (HP.out _).mono ?_; rintro e w1 ⟨rfl, hw⟩; subst w1)
              | (go_at_call 19; refine (HI.out _).mono ?_; rintro e w1 ⟨⟨k, rfl, hk1, hk2⟩, hw⟩; subst w1; have hk := hk2 hel))
            go_ret3
            exact ⟨by rw [HE.out]; rfl, 0, rfl⟩
          · have HE : Hid (markL s.data.toList = (b, d + 1, N)) := by show _ = _; rw [HL.out, hel]; rfl
            clear HL
            go_enter Tryz.func15, Tryz.ntmps15
            go_wp2_with (first
              | (go_at_call 33; refine (HR.out _).mono ?_; rintro e w1 ⟨rfl, hw⟩; subst w1)
              | (go_at_call 23; refine (HP.out _).mono ?_; rintro e w1 ⟨rfl, hw⟩; subst w1)
              | (go_at_call 19; refine (HI.out _).mono ?_; rintro e w1 ⟨⟨k, rfl, hk1, hk2⟩, hw⟩; subst w1; have hk := hk1 hel))
            go_quiet ((go_at_call 35; exact Calls.quiet_of_same (HN.out _)))
            go_wp2
            go_ret3
            exact ⟨by rw [HE.out]; go_num, _, rfl⟩

end Go.Proofs.YtnjfkgkcapkfbaaGreatDoor
