/- What escape's character and numberEntity answer. -/
import Derived.Test.YthpkoecpmbpnbaaDoorQEKinds
set_option linter.unusedVariables false
namespace Go.Proofs.YthpkoecpmbpnbaaDoor.esc
open Go.RowKit

theorem encode_enc (r : Nat) (hr : Ok r) : Utf8.encode (r : Int) = ⟨(enc r).toArray⟩ := by
  have hv : Utf8.valid (r : Int) = true := by simp only [Utf8.valid, Bool.or_eq_true, Bool.and_eq_true, decide_eq_true_eq]; omega
  unfold Utf8.encode enc Lib.encodeRune
  simp only [hv, if_true, Int.toNat_natCast]
  split
  · rw [Lib.encodeRuneZ_one (by omega) (by omega)]
    simp
  · split
    · rw [Lib.encodeRuneZ_two (by omega) (by omega)]
      rfl
    · split
      · rw [Lib.encodeRuneZ_three (by omega)]
        rfl
      · rw [Lib.encodeRuneZ_four (by omega) (by omega)]
        rfl

theorem charN_ok (n : Nat) : Ok (charN n) := by unfold charN; split <;> (simp only [Ok]; omega)

set_option maxHeartbeats 1000000 in
set_option maxRecDepth 100000 in
theorem character_any (n : Nat) (hn : n ≤ 16777216) (w : World) :
    Calls Tryd.prog 73 #[.int .i32 (n : Int)] w fun e w' => e = .returned (.string ⟨(enc (charN n)).toArray⟩) ∧ w' = w := by
  have hv := validRune_any (n : Int)
  have hen := encode_enc (charN n) (charN_ok n)
  obtain ⟨S, HS⟩ : ∃ S : ByteArray, Hid (ByteArray.mk (enc (charN n)).toArray = S) := ⟨_, rfl⟩
  rw [HS.out] at hen
  have hfin : Hid (Ending.returned (.string S) = .returned (.string ⟨(enc (charN n)).toArray⟩)) := by show _ = _; rw [HS.out]
  rw [HS.out]
  clear hfin HS
  by_cases h0 : n = 0
  · subst h0
    have h1 : Utf8.encode (65533 : Int) = S := hen
    clear hen hv
    go_enter Tryd.func73, Tryd.ntmps73
    go_wp2
    go_ret
    exact ⟨rfl, rfl⟩
  · have q0 : ((n : Int) == 0) = false := by simp; omega
    by_cases hok : n < 55296 ∨ (57343 < n ∧ n ≤ 1114111)
    · have hc : charN n = n := by unfold charN; rw [if_neg (by omega)]
      rw [hc] at hen
      have hd : decide ((0 ≤ (n : Int) ∧ (n : Int) < 55296) ∨ (57343 < (n : Int) ∧ (n : Int) ≤ 1114111)) = true := by rw [decide_eq_true_iff]; omega
      rw [hd] at hv
      clear hd hok hc
      go_enter Tryd.func73, Tryd.ntmps73
      go_wp2_with (go_at_call 84; refine (hv _).mono ?_; rintro e w' ⟨rfl, rfl⟩)
      go_ret
      exact ⟨rfl, rfl⟩
    · have hc : charN n = 65533 := by unfold charN; rw [if_pos (by omega)]
      rw [hc] at hen
      have h1 : Utf8.encode (65533 : Int) = S := hen
      have hd : decide ((0 ≤ (n : Int) ∧ (n : Int) < 55296) ∨ (57343 < (n : Int) ∧ (n : Int) ≤ 1114111)) = false := by rw [decide_eq_false_iff_not]; omega
      rw [hd] at hv
      clear hd hok hc hen
      go_enter Tryd.func73, Tryd.ntmps73
      go_wp2_with (go_at_call 84; refine (hv _).mono ?_; rintro e w' ⟨rfl, rfl⟩)
      go_ret
      exact ⟨rfl, rfl⟩

theorem numE_of {l : List UInt8} {start base most k n : Nat} (h : readN base most (l.drop start) 0 = (k, n)) :
    numE l start base most = if k ≠ 0 ∧ l[start + k]? = some 59 then (enc (charN n), start + k + 1) else ([], 0) := by
  unfold numE
  rw [h]

theorem get_byte (s : ByteArray) (k : Nat) (h : k < s.size) : s.data.toList[k]? = some s[k] := by
  have h' : k < s.data.toList.length := by simpa using h
  rw [List.getElem?_eq_getElem h']
  rfl
theorem get_past (s : ByteArray) (k : Nat) (h : s.size ≤ k) : s.data.toList[k]? = none := by
  rw [List.getElem?_eq_none]; rw [len_data]; exact h
theorem drop_byte (s : ByteArray) (k : Nat) (h : k < s.size) : s.data.toList.drop k = s[k] :: s.data.toList.drop (k + 1) := by
  rw [List.drop_eq_getElem_cons (by rw [len_data]; exact h)]
  rfl
theorem drop_past (s : ByteArray) (k : Nat) (h : s.size ≤ k) : s.data.toList.drop k = [] := by
  rw [List.drop_eq_nil_of_le]; rw [len_data]; exact h
theorem readN_nil (base m n : Nat) : readN base m [] n = (0, n) := by cases m <;> rfl

theorem pair_none {v : List UInt8} {z : Nat} (h : Hid ((v, z) = (([] : List UInt8), 0))) : Ending.returned (.tuple #[.string ⟨#[]⟩, .int .i64 0]) = .returned (.tuple #[.string ⟨v.toArray⟩, .int .i64 (z : Int)]) := by
  have := h.out
  simp only [Prod.mk.injEq] at this
  rw [this.1, this.2]
  rfl
theorem pair_some {v x : List UInt8} {z m : Nat} {k : Int} (h : Hid ((v, z) = (x, m))) (hk : k = (m : Int)) : Ending.returned (.tuple #[.string ⟨x.toArray⟩, .int .i64 k]) = .returned (.tuple #[.string ⟨v.toArray⟩, .int .i64 (z : Int)]) := by
  have := h.out
  simp only [Prod.mk.injEq] at this
  rw [this.1, this.2, hk]

set_option maxHeartbeats 4000000 in
set_option maxRecDepth 100000 in
theorem number_10 (s : ByteArray) (hs : s.size ≤ 140737488355328) (v : List UInt8) (z : Nat) (HE : Hid (numE s.data.toList 2 10 7 = (v, z))) (w : World) (hst : 2 ≤ s.size) :
    Calls Tryd.prog 59 #[.string s, .int .i64 2, .int .i32 10, .int .i64 7] w fun e w' => e = .returned (.tuple #[.string ⟨v.toArray⟩, .int .i64 (z : Int)]) ∧ w = w' := by
  obtain ⟨R, hR⟩ : ∃ R, Hid (readN 10 7 (s.data.toList.drop 2) 0 = R) := ⟨_, rfl⟩
  go_enter Tryd.func59, Tryd.ntmps59
  go_wp2
  go_loopw [10, 11] (fun x t wr => Hid (w = wr) ∧ ∃ (p n : Nat), 2 ≤ p ∧ p ≤ 2 + 7 ∧ p ≤ s.size ∧ t = .int .i64 (p : Int) ∧ x = .int .i32 (n : Int) ∧ Hid (n < 10 ^ (p - 2)) ∧ Hid (R = ((readN 10 (7 - (p - 2)) (s.data.toList.drop p) n).1 + (p - 2), (readN 10 (7 - (p - 2)) (s.data.toList.drop p) n).2))) (fun _ t _ => s.size - (intOf t).toNat)
  case atStart => exact ⟨rfl, 2, 0, by omega, by omega, by omega, rfl, rfl, (by show 0 < 1; omega), (by show _ = _; rw [← hR.out]; rfl)⟩
  case round =>
    obtain ⟨HW, p, n, hp0, hpm, hps, rfl, rfl, HN, HR⟩ := hrel
    have hnI : (n : Int) ≤ 16777215 := by
      have := HN.out
      have h2 : 10 ^ (p - 2) ≤ 10 ^ 7 := Nat.pow_le_pow_right (by omega) (by omega)
      have h3 : 10 ^ 7 ≤ 16777216 := by decide
      omega
    have hch := character_any n (by omega)
    have hout : ∀ (hz : readN 10 (7 - (p - 2)) (s.data.toList.drop p) n = (0, n)), Hid ((v, z) = if p - 2 ≠ 0 ∧ s.data.toList[p]? = some 59 then (enc (charN n), p + 1) else ([], 0)) := by
      intro hz
      have h1 := HR.out
      rw [hz] at h1
      have h2 := numE_of (l := s.data.toList) (start := 2) (base := 10) (most := 7) (k := p - 2) (n := n) (by rw [hR.out, h1]; simp)
      rw [show 2 + (p - 2) = p by omega] at h2
      show _ = _
      rw [← HE.out]
      exact h2
    have hW := HW.out
    by_cases hlt : p < s.size
    · have hget : s.data.toList[p]? = some s[p] := get_byte s p hlt
      have hdrop : s.data.toList.drop p = s[p] :: s.data.toList.drop (p + 1) := drop_byte s p hlt
      have hd1 : decide ((p : Int) < (s.size : Int)) = true := by simp; omega
      have hnl : ((p : Int) == (s.size : Int)) = false := by simp; omega
      by_cases hm : p < 2 + 7
      · have hdv := digitValue_any s[p].toNat (by have := s[p].toNat_lt; omega)
        have hdv' : digVN s[p].toNat = digV s[p] := rfl
        rw [hdv'] at hdv
        obtain ⟨m, hm'⟩ : ∃ m, 7 - (p - 2) = m + 1 := ⟨7 - (p - 2) - 1, by omega⟩
        have hd2 : decide ((p : Int) - 2 < 7) = true := by simp; omega
        by_cases hdg : digV s[p] < 10
        · have hstep : readN 10 (7 - (p - 2)) (s.data.toList.drop p) n = ((readN 10 (7 - (p + 1 - 2)) (s.data.toList.drop (p + 1)) (n * 10 + digV s[p])).1 + 1, (readN 10 (7 - (p + 1 - 2)) (s.data.toList.drop (p + 1)) (n * 10 + digV s[p])).2) := by
            rw [hdrop, hm', show 7 - (p + 1 - 2) = m by omega]
            exact if_pos hdg
          have HR' : Hid (R = ((readN 10 (7 - (p + 1 - 2)) (s.data.toList.drop (p + 1)) (n * 10 + digV s[p])).1 + (p + 1 - 2), (readN 10 (7 - (p + 1 - 2)) (s.data.toList.drop (p + 1)) (n * 10 + digV s[p])).2)) := by
            show _ = _
            rw [HR.out, hstep]
            congr 1
            omega
          have HN' : Hid (n * 10 + digV s[p] < 10 ^ (p + 1 - 2)) := by
            show _ < _
            rw [show p + 1 - 2 = (p - 2) + 1 by omega, Nat.pow_succ]
            have := HN.out
            omega
          have hnk : (n : Int) * 10 + 10 ≤ 16777216 := by
            have h1 := HN.out
            have h2 : 10 ^ (p - 2 + 1) ≤ 10 ^ 7 := Nat.pow_le_pow_right (by omega) (by omega)
            have h3 : 10 ^ 7 ≤ 16777216 := by decide
            rw [Nat.pow_succ] at h2
            omega
          generalize digV s[p] = d at *
          have hge : decide ((10 : Int) ≤ (d : Int)) = false := by simp; omega
          clear hout hstep hdrop hget hdv' HR HN hR HE hch hm' hnI
          go_wp2_with (go_at_call 72; refine (hdv _).mono ?_; rintro e w' ⟨rfl, rfl⟩)
          go_roundw
          case rel => exact ⟨HW, p + 1, n * 10 + d, by omega, by omega, by omega, by go_num, by go_num, HN', HR'⟩
          case measure => simp [intOf]; omega
        · have hz : readN 10 (7 - (p - 2)) (s.data.toList.drop p) n = (0, n) := by
            rw [hdrop, hm']
            exact if_neg hdg
          have HO := hout hz
          rw [hget] at HO
          have hge : decide ((10 : Int) ≤ (digV s[p] : Int)) = true := by simp; omega
          generalize digV s[p] = d at *
          subst hW
          clear hout hz hdrop hget hdv' HR HN hR hm' HE HW hnI
          by_cases hk0 : p - 2 = 0
          · have hk1 : ((p : Int) == 2) = true := by simp; omega
            have HV : Hid ((v, z) = (([] : List UInt8), 0)) := by show _ = _; rw [HO.out, if_neg (by simp [hk0])]
            clear HO
            go_wp2_with (go_at_call 72; refine (hdv _).mono ?_; rintro e w' ⟨rfl, rfl⟩)
            go_ret2
            exact ⟨pair_none HV, rfl⟩
          · have hk1 : ((p : Int) == 2) = false := by simp; omega
            by_cases h59 : s[p] = 59
            · have q59 : ((s[p].toNat : Int) != 59) = false := by rw [h59]; rfl
              have HV : Hid ((v, z) = (enc (charN n), p + 1)) := by show _ = _; rw [HO.out, h59, if_pos ⟨hk0, rfl⟩]
              clear HO h59
              go_wp2_with (first | (go_at_call 72; refine (hdv _).mono ?_; rintro e w' ⟨rfl, rfl⟩) | (go_at_call 73; refine (hch _).mono ?_; rintro e w' ⟨rfl, rfl⟩))
              go_ret2
              exact ⟨pair_some HV (by go_num), rfl⟩
            · have HV : Hid ((v, z) = (([] : List UInt8), 0)) := by show _ = _; rw [HO.out, if_neg (by simp [h59])]
              have q59 : ((s[p].toNat : Int) != 59) = true := by rw [bne_iff_ne]; intro h; exact h59 (u8_eq (n := 59) (by omega))
              clear HO h59
              go_wp2_with (first | (go_at_call 72; refine (hdv _).mono ?_; rintro e w' ⟨rfl, rfl⟩))
              go_ret2
              exact ⟨pair_none HV, rfl⟩
      · have hkm : p = 2 + 7 := by omega
        have HO := hout (by rw [show 7 - (p - 2) = 0 by omega]; rfl)
        rw [hget] at HO
        have hd2 : decide ((p : Int) - 2 < 7) = false := by simp; omega
        have hk0 : p - 2 ≠ 0 := by omega
        have hk1 : ((p : Int) == 2) = false := by simp; omega
        subst hW
        clear hout hdrop hget HR HN hR HE HW hnI hkm
        by_cases h59 : s[p] = 59
        · have q59 : ((s[p].toNat : Int) != 59) = false := by rw [h59]; rfl
          have HV : Hid ((v, z) = (enc (charN n), p + 1)) := by show _ = _; rw [HO.out, h59, if_pos ⟨hk0, rfl⟩]
          clear HO h59
          go_wp2_with (go_at_call 73; refine (hch _).mono ?_; rintro e w' ⟨rfl, rfl⟩)
          go_ret2
          exact ⟨pair_some HV (by go_num), rfl⟩
        · have HV : Hid ((v, z) = (([] : List UInt8), 0)) := by show _ = _; rw [HO.out, if_neg (by simp [h59])]
          have q59 : ((s[p].toNat : Int) != 59) = true := by rw [bne_iff_ne]; intro h; exact h59 (u8_eq (n := 59) (by omega))
          clear HO h59
          go_wp2
          go_ret2
          exact ⟨pair_none HV, rfl⟩
    · have hd1 : decide ((p : Int) < (s.size : Int)) = false := by simp; omega
      have hnl : ((p : Int) == (s.size : Int)) = true := by simp; omega
      have HO := hout (by rw [drop_past s _ (by omega), readN_nil])
      have HV : Hid ((v, z) = (([] : List UInt8), 0)) := by show _ = _; rw [HO.out, get_past s _ (by omega), if_neg (by simp)]
      subst hW
      clear hout HO HR HN hR HE HW hch
      by_cases hk0 : p = 2
      · have hk1 : ((p : Int) == 2) = true := by simp; omega
        go_wp2
        go_ret2
        exact ⟨pair_none HV, rfl⟩
      · have hk1 : ((p : Int) == 2) = false := by simp; omega
        go_wp2
        go_ret2
        exact ⟨pair_none HV, rfl⟩

set_option maxHeartbeats 4000000 in
set_option maxRecDepth 100000 in
theorem number_16 (s : ByteArray) (hs : s.size ≤ 140737488355328) (v : List UInt8) (z : Nat) (HE : Hid (numE s.data.toList 3 16 6 = (v, z))) (w : World) (hst : 3 ≤ s.size) :
    Calls Tryd.prog 59 #[.string s, .int .i64 3, .int .i32 16, .int .i64 6] w fun e w' => e = .returned (.tuple #[.string ⟨v.toArray⟩, .int .i64 (z : Int)]) ∧ w = w' := by
  obtain ⟨R, hR⟩ : ∃ R, Hid (readN 16 6 (s.data.toList.drop 3) 0 = R) := ⟨_, rfl⟩
  go_enter Tryd.func59, Tryd.ntmps59
  go_wp2
  go_loopw [10, 11] (fun x t wr => Hid (w = wr) ∧ ∃ (p n : Nat), 3 ≤ p ∧ p ≤ 3 + 6 ∧ p ≤ s.size ∧ t = .int .i64 (p : Int) ∧ x = .int .i32 (n : Int) ∧ Hid (n < 16 ^ (p - 3)) ∧ Hid (R = ((readN 16 (6 - (p - 3)) (s.data.toList.drop p) n).1 + (p - 3), (readN 16 (6 - (p - 3)) (s.data.toList.drop p) n).2))) (fun _ t _ => s.size - (intOf t).toNat)
  case atStart => exact ⟨rfl, 3, 0, by omega, by omega, by omega, rfl, rfl, (by show 0 < 1; omega), (by show _ = _; rw [← hR.out]; rfl)⟩
  case round =>
    obtain ⟨HW, p, n, hp0, hpm, hps, rfl, rfl, HN, HR⟩ := hrel
    have hnI : (n : Int) ≤ 16777215 := by
      have := HN.out
      have h2 : 16 ^ (p - 3) ≤ 16 ^ 6 := Nat.pow_le_pow_right (by omega) (by omega)
      have h3 : 16 ^ 6 ≤ 16777216 := by decide
      omega
    have hch := character_any n (by omega)
    have hout : ∀ (hz : readN 16 (6 - (p - 3)) (s.data.toList.drop p) n = (0, n)), Hid ((v, z) = if p - 3 ≠ 0 ∧ s.data.toList[p]? = some 59 then (enc (charN n), p + 1) else ([], 0)) := by
      intro hz
      have h1 := HR.out
      rw [hz] at h1
      have h2 := numE_of (l := s.data.toList) (start := 3) (base := 16) (most := 6) (k := p - 3) (n := n) (by rw [hR.out, h1]; simp)
      rw [show 3 + (p - 3) = p by omega] at h2
      show _ = _
      rw [← HE.out]
      exact h2
    have hW := HW.out
    by_cases hlt : p < s.size
    · have hget : s.data.toList[p]? = some s[p] := get_byte s p hlt
      have hdrop : s.data.toList.drop p = s[p] :: s.data.toList.drop (p + 1) := drop_byte s p hlt
      have hd1 : decide ((p : Int) < (s.size : Int)) = true := by simp; omega
      have hnl : ((p : Int) == (s.size : Int)) = false := by simp; omega
      by_cases hm : p < 3 + 6
      · have hdv := digitValue_any s[p].toNat (by have := s[p].toNat_lt; omega)
        have hdv' : digVN s[p].toNat = digV s[p] := rfl
        rw [hdv'] at hdv
        obtain ⟨m, hm'⟩ : ∃ m, 6 - (p - 3) = m + 1 := ⟨6 - (p - 3) - 1, by omega⟩
        have hd2 : decide ((p : Int) - 3 < 6) = true := by simp; omega
        by_cases hdg : digV s[p] < 16
        · have hstep : readN 16 (6 - (p - 3)) (s.data.toList.drop p) n = ((readN 16 (6 - (p + 1 - 3)) (s.data.toList.drop (p + 1)) (n * 16 + digV s[p])).1 + 1, (readN 16 (6 - (p + 1 - 3)) (s.data.toList.drop (p + 1)) (n * 16 + digV s[p])).2) := by
            rw [hdrop, hm', show 6 - (p + 1 - 3) = m by omega]
            exact if_pos hdg
          have HR' : Hid (R = ((readN 16 (6 - (p + 1 - 3)) (s.data.toList.drop (p + 1)) (n * 16 + digV s[p])).1 + (p + 1 - 3), (readN 16 (6 - (p + 1 - 3)) (s.data.toList.drop (p + 1)) (n * 16 + digV s[p])).2)) := by
            show _ = _
            rw [HR.out, hstep]
            congr 1
            omega
          have HN' : Hid (n * 16 + digV s[p] < 16 ^ (p + 1 - 3)) := by
            show _ < _
            rw [show p + 1 - 3 = (p - 3) + 1 by omega, Nat.pow_succ]
            have := HN.out
            omega
          have hnk : (n : Int) * 16 + 16 ≤ 16777216 := by
            have h1 := HN.out
            have h2 : 16 ^ (p - 3 + 1) ≤ 16 ^ 6 := Nat.pow_le_pow_right (by omega) (by omega)
            have h3 : 16 ^ 6 ≤ 16777216 := by decide
            rw [Nat.pow_succ] at h2
            omega
          generalize digV s[p] = d at *
          have hge : decide ((16 : Int) ≤ (d : Int)) = false := by simp; omega
          clear hout hstep hdrop hget hdv' HR HN hR HE hch hm' hnI
          go_wp2_with (go_at_call 72; refine (hdv _).mono ?_; rintro e w' ⟨rfl, rfl⟩)
          go_roundw
          case rel => exact ⟨HW, p + 1, n * 16 + d, by omega, by omega, by omega, by go_num, by go_num, HN', HR'⟩
          case measure => simp [intOf]; omega
        · have hz : readN 16 (6 - (p - 3)) (s.data.toList.drop p) n = (0, n) := by
            rw [hdrop, hm']
            exact if_neg hdg
          have HO := hout hz
          rw [hget] at HO
          have hge : decide ((16 : Int) ≤ (digV s[p] : Int)) = true := by simp; omega
          generalize digV s[p] = d at *
          subst hW
          clear hout hz hdrop hget hdv' HR HN hR hm' HE HW hnI
          by_cases hk0 : p - 3 = 0
          · have hk1 : ((p : Int) == 3) = true := by simp; omega
            have HV : Hid ((v, z) = (([] : List UInt8), 0)) := by show _ = _; rw [HO.out, if_neg (by simp [hk0])]
            clear HO
            go_wp2_with (go_at_call 72; refine (hdv _).mono ?_; rintro e w' ⟨rfl, rfl⟩)
            go_ret2
            exact ⟨pair_none HV, rfl⟩
          · have hk1 : ((p : Int) == 3) = false := by simp; omega
            by_cases h59 : s[p] = 59
            · have q59 : ((s[p].toNat : Int) != 59) = false := by rw [h59]; rfl
              have HV : Hid ((v, z) = (enc (charN n), p + 1)) := by show _ = _; rw [HO.out, h59, if_pos ⟨hk0, rfl⟩]
              clear HO h59
              go_wp2_with (first | (go_at_call 72; refine (hdv _).mono ?_; rintro e w' ⟨rfl, rfl⟩) | (go_at_call 73; refine (hch _).mono ?_; rintro e w' ⟨rfl, rfl⟩))
              go_ret2
              exact ⟨pair_some HV (by go_num), rfl⟩
            · have HV : Hid ((v, z) = (([] : List UInt8), 0)) := by show _ = _; rw [HO.out, if_neg (by simp [h59])]
              have q59 : ((s[p].toNat : Int) != 59) = true := by rw [bne_iff_ne]; intro h; exact h59 (u8_eq (n := 59) (by omega))
              clear HO h59
              go_wp2_with (first | (go_at_call 72; refine (hdv _).mono ?_; rintro e w' ⟨rfl, rfl⟩))
              go_ret2
              exact ⟨pair_none HV, rfl⟩
      · have hkm : p = 3 + 6 := by omega
        have HO := hout (by rw [show 6 - (p - 3) = 0 by omega]; rfl)
        rw [hget] at HO
        have hd2 : decide ((p : Int) - 3 < 6) = false := by simp; omega
        have hk0 : p - 3 ≠ 0 := by omega
        have hk1 : ((p : Int) == 3) = false := by simp; omega
        subst hW
        clear hout hdrop hget HR HN hR HE HW hnI hkm
        by_cases h59 : s[p] = 59
        · have q59 : ((s[p].toNat : Int) != 59) = false := by rw [h59]; rfl
          have HV : Hid ((v, z) = (enc (charN n), p + 1)) := by show _ = _; rw [HO.out, h59, if_pos ⟨hk0, rfl⟩]
          clear HO h59
          go_wp2_with (go_at_call 73; refine (hch _).mono ?_; rintro e w' ⟨rfl, rfl⟩)
          go_ret2
          exact ⟨pair_some HV (by go_num), rfl⟩
        · have HV : Hid ((v, z) = (([] : List UInt8), 0)) := by show _ = _; rw [HO.out, if_neg (by simp [h59])]
          have q59 : ((s[p].toNat : Int) != 59) = true := by rw [bne_iff_ne]; intro h; exact h59 (u8_eq (n := 59) (by omega))
          clear HO h59
          go_wp2
          go_ret2
          exact ⟨pair_none HV, rfl⟩
    · have hd1 : decide ((p : Int) < (s.size : Int)) = false := by simp; omega
      have hnl : ((p : Int) == (s.size : Int)) = true := by simp; omega
      have HO := hout (by rw [drop_past s _ (by omega), readN_nil])
      have HV : Hid ((v, z) = (([] : List UInt8), 0)) := by show _ = _; rw [HO.out, get_past s _ (by omega), if_neg (by simp)]
      subst hW
      clear hout HO HR HN hR HE HW hch
      by_cases hk0 : p = 3
      · have hk1 : ((p : Int) == 3) = true := by simp; omega
        go_wp2
        go_ret2
        exact ⟨pair_none HV, rfl⟩
      · have hk1 : ((p : Int) == 3) = false := by simp; omega
        go_wp2
        go_ret2
        exact ⟨pair_none HV, rfl⟩

end Go.Proofs.YthpkoecpmbpnbaaDoor.esc
