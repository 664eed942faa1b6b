/- Several texts in one. -/
import Derived.Test.YtjdijlaoeoikhaaGreatDoorG06
import Derived.Test.YtjdijlaoeoikhaaGreatDoorG03
import Derived.Lib.Bytealg
set_option linter.unusedVariables false
/- Bytes and characters in package escape: letter, digit, digitValue, Mark, IndexByte, ValidRune, character. -/
namespace Go.Proofs.YtjdijlaoeoikhaaGreatDoor.esc
open Go.RowKit

set_option maxHeartbeats 1000000 in
theorem mark_any (c : Nat) (w : World) :
    Calls Tryz.prog 30 #[.int .u8 (c : Int)] w fun e w' => e = .returned (.bool (markN c)) ∧ w' = w := by
  have hc : c < 33 ∨ (33 ≤ c ∧ c ≤ 47) ∨ (47 < c ∧ c < 58) ∨ (58 ≤ c ∧ c ≤ 64) ∨ (64 < c ∧ c < 91) ∨ (91 ≤ c ∧ c ≤ 96) ∨ (96 < c ∧ c < 123) ∨ (123 ≤ c ∧ c ≤ 126) ∨ 126 < c := by omega
  rcases hc with h | ⟨h, h'⟩ | ⟨h, h'⟩ | ⟨h, h'⟩ | ⟨h, h'⟩ | ⟨h, h'⟩ | ⟨h, h'⟩ | ⟨h, h'⟩ | h
  all_goals
    go_enter Tryz.func30, Tryz.ntmps30
    go_wp2
    go_ret
    exact ⟨ret_bool (by unfold markN; rw [Bool.eq_iff_iff]; simp; omega), rfl⟩

theorem letter_any (c : Nat) (w : World) :
    Calls Tryz.prog 88 #[.int .u8 (c : Int)] w fun e w' => e = .returned (.bool (letterN c)) ∧ w' = w := by
  have hc : c < 65 ∨ (65 ≤ c ∧ c ≤ 90) ∨ (90 < c ∧ c < 97) ∨ (97 ≤ c ∧ c ≤ 122) ∨ 122 < c := by omega
  rcases hc with h | ⟨h, h'⟩ | ⟨h, h'⟩ | ⟨h, h'⟩ | h
  all_goals
    go_enter Tryz.func88, Tryz.ntmps88
    go_wp2
    go_ret
    exact ⟨ret_bool (by unfold letterN; rw [Bool.eq_iff_iff]; simp; omega), rfl⟩

theorem digit_any (c : Nat) (w : World) :
    Calls Tryz.prog 89 #[.int .u8 (c : Int)] w fun e w' => e = .returned (.bool (digitN c)) ∧ w' = w := by
  have hc : c < 48 ∨ (48 ≤ c ∧ c ≤ 57) ∨ 57 < c := by omega
  rcases hc with h | ⟨h, h'⟩ | h
  all_goals
    go_enter Tryz.func89, Tryz.ntmps89
    go_wp2
    go_ret
    exact ⟨ret_bool (by unfold digitN; rw [Bool.eq_iff_iff]; simp; omega), rfl⟩

def digVN (c : Nat) : Nat :=
  if 48 ≤ c ∧ c ≤ 57 then c - 48 else if 97 ≤ c ∧ c ≤ 102 then c - 87 else if 65 ≤ c ∧ c ≤ 70 then c - 55 else 16

theorem digitValue_any (c : Nat) (hc : c ≤ 255) (w : World) :
    Calls Tryz.prog 91 #[.int .u8 (c : Int)] w fun e w' => e = .returned (.int .i32 (digVN c)) ∧ w' = w := by
  have hcc : c < 48 ∨ (48 ≤ c ∧ c ≤ 57) ∨ (57 < c ∧ c < 65) ∨ (65 ≤ c ∧ c ≤ 70) ∨ (70 < c ∧ c < 97) ∨ (97 ≤ c ∧ c ≤ 102) ∨ 102 < c := by omega
  rcases hcc with h | ⟨h, h'⟩ | ⟨h, h'⟩ | ⟨h, h'⟩ | ⟨h, h'⟩ | ⟨h, h'⟩ | h
  all_goals
    have hd : digitN c = decide (48 ≤ c ∧ c ≤ 57) := rfl
    first | rw [decide_eq_true (by omega)] at hd | rw [decide_eq_false (by omega)] at hd
    go_enter Tryz.func91, Tryz.ntmps91
    go_wp2_with (go_at_call 89; refine (digit_any _ _).mono ?_; rintro e w' ⟨rfl, rfl⟩)
    go_ret
    exact ⟨ret_int (by unfold digVN; split; · omega
                       split; · omega
                       split <;> omega), rfl⟩

/-- The entry for which the model stands in. -/
theorem index_entry (s : ByteArray) (c : Int) (w : World) : (callFunc 111 #[.string s, .int .u8 c]).run Tryz.prog w = .ok (.value (.int .i64 (Lib.indexByte s.data.toList c.toNat.toUInt8))) w := by
  rw [run_callFunc_extern (e := Extern.BytealgIndexByte.indexByte) Tryz.func111 (by kernel_rfl) (by kernel_rfl) (by kernel_rfl) (by kernel_rfl), Lib.run_indexByteString]
  rfl

theorem stringslite_any (s : ByteArray) (c : Int) (w : World) :
    Calls Tryz.prog 78 #[.string s, .int .u8 c] w fun e w' => e = .returned (.int .i64 (Lib.indexByte s.data.toList c.toNat.toUInt8)) ∧ w' = w := by
  have hx := index_entry s c
  go_enter Tryz.func78, Tryz.ntmps78
  go_wp2
  go_ret
  exact ⟨rfl, rfl⟩

theorem indexByte_any (s : ByteArray) (c : Int) (w : World) :
    Calls Tryz.prog 49 #[.string s, .int .u8 c] w fun e w' => e = .returned (.int .i64 (Lib.indexByte s.data.toList c.toNat.toUInt8)) ∧ w' = w := by
  go_enter Tryz.func49, Tryz.ntmps49
  go_wp2_with (go_at_call 78; refine (stringslite_any _ _ _).mono ?_; rintro e w' ⟨rfl, rfl⟩)
  go_ret
  exact ⟨rfl, rfl⟩

theorem validRune_any (n : Int) (w : World) :
    Calls Tryz.prog 124 #[.int .i32 n] w fun e w' => e = .returned (.bool (decide ((0 ≤ n ∧ n < 55296) ∨ (57343 < n ∧ n ≤ 1114111)))) ∧ w' = w := by
  have hc : n < 0 ∨ (0 ≤ n ∧ n < 55296) ∨ (55296 ≤ n ∧ n ≤ 57343) ∨ (57343 < n ∧ n ≤ 1114111) ∨ 1114111 < n := by omega
  rcases hc with h | ⟨h, h'⟩ | ⟨h, h'⟩ | ⟨h, h'⟩ | h
  all_goals
    go_enter Tryz.func124, Tryz.ntmps124
    go_wp2
    go_ret
    exact ⟨ret_bool (by rw [Bool.eq_iff_iff]; simp; omega), rfl⟩

end Go.Proofs.YtjdijlaoeoikhaaGreatDoor.esc

/- What escape's character and numberEntity answer. -/
namespace Go.Proofs.YtjdijlaoeoikhaaGreatDoor.esc
open Go.RowKit

theorem encode_enc (r : Nat) (hr : Ok r) : Utf8.encode (r : Int) = ⟨(enc r).toArray⟩ := by
  have hv : Utf8.valid (r : Int) = true := by simp only [Utf8.valid, Bool.or_eq_true, Bool.and_eq_true, decide_eq_true_eq]; omega
  unfold Utf8.encode enc Lib.encodeRune
  simp only [hv, if_true, Int.toNat_natCast]
  split
  · rw [Lib.encodeRuneZ_one (by omega) (by omega)]
    simp
  · split
    · rw [Lib.encodeRuneZ_two (by omega) (by omega)]
      rfl
    · split
      · rw [Lib.encodeRuneZ_three (by omega)]
        rfl
      · rw [Lib.encodeRuneZ_four (by omega) (by omega)]
        rfl

theorem charN_ok (n : Nat) : Ok (charN n) := by unfold charN; split <;> (simp only [Ok]; omega)

set_option maxHeartbeats 1000000 in
set_option maxRecDepth 100000 in
theorem character_any (n : Nat) (hn : n ≤ 16777216) (w : World) :
    Calls Tryz.prog 92 #[.int .i32 (n : Int)] w fun e w' => e = .returned (.string ⟨(enc (charN n)).toArray⟩) ∧ w' = w := by
  have hv := validRune_any (n : Int)
  have hen := encode_enc (charN n) (charN_ok n)
  obtain ⟨S, HS⟩ : ∃ S : ByteArray, Hid (ByteArray.mk (enc (charN n)).toArray = S) := ⟨_, rfl⟩
  rw [HS.out] at hen
  have hfin : Hid (Ending.returned (.string S) = .returned (.string ⟨(enc (charN n)).toArray⟩)) := by show _ = _; rw [HS.out]
  rw [HS.out]
  clear hfin HS
  by_cases h0 : n = 0
  · subst h0
    have h1 : Utf8.encode (65533 : Int) = S := hen
    clear hen hv
    go_enter Tryz.func92, Tryz.ntmps92
    go_wp2
    go_ret
    exact ⟨rfl, rfl⟩
  · have q0 : ((n : Int) == 0) = false := by simp; omega
    by_cases hok : n < 55296 ∨ (57343 < n ∧ n ≤ 1114111)
    · have hc : charN n = n := by unfold charN; rw [if_neg (by omega)]
      rw [hc] at hen
      have hd : decide ((0 ≤ (n : Int) ∧ (n : Int) < 55296) ∨ (57343 < (n : Int) ∧ (n : Int) ≤ 1114111)) = true := by rw [decide_eq_true_iff]; omega
      rw [hd] at hv
      clear hd hok hc
      go_enter Tryz.func92, Tryz.ntmps92
      go_wp2_with (go_at_call 124; refine (hv _).mono ?_; rintro e w' ⟨rfl, rfl⟩)
      go_ret
      exact ⟨rfl, rfl⟩
    · have hc : charN n = 65533 := by unfold charN; rw [if_pos (by omega)]
      rw [hc] at hen
      have h1 : Utf8.encode (65533 : Int) = S := hen
      have hd : decide ((0 ≤ (n : Int) ∧ (n : Int) < 55296) ∨ (57343 < (n : Int) ∧ (n : Int) ≤ 1114111)) = false := by rw [decide_eq_false_iff_not]; omega
      rw [hd] at hv
      clear hd hok hc hen
      go_enter Tryz.func92, Tryz.ntmps92
      go_wp2_with (go_at_call 124; refine (hv _).mono ?_; rintro e w' ⟨rfl, rfl⟩)
      go_ret
      exact ⟨rfl, rfl⟩

theorem numE_of {l : List UInt8} {start base most k n : Nat} (h : readN base most (l.drop start) 0 = (k, n)) :
    numE l start base most = if k ≠ 0 ∧ l[start + k]? = some 59 then (enc (charN n), start + k + 1) else ([], 0) := by
  unfold numE
  rw [h]

theorem get_byte (s : ByteArray) (k : Nat) (h : k < s.size) : s.data.toList[k]? = some s[k] := by
  have h' : k < s.data.toList.length := by simpa using h
  rw [List.getElem?_eq_getElem h']
  rfl
theorem get_past (s : ByteArray) (k : Nat) (h : s.size ≤ k) : s.data.toList[k]? = none := by
  rw [List.getElem?_eq_none]; rw [len_data]; exact h
theorem drop_byte (s : ByteArray) (k : Nat) (h : k < s.size) : s.data.toList.drop k = s[k] :: s.data.toList.drop (k + 1) := by
  rw [List.drop_eq_getElem_cons (by rw [len_data]; exact h)]
  rfl
theorem drop_past (s : ByteArray) (k : Nat) (h : s.size ≤ k) : s.data.toList.drop k = [] := by
  rw [List.drop_eq_nil_of_le]; rw [len_data]; exact h
theorem readN_nil (base m n : Nat) : readN base m [] n = (0, n) := by cases m <;> rfl

theorem pair_none {v : List UInt8} {z : Nat} (h : Hid ((v, z) = (([] : List UInt8), 0))) : Ending.returned (.tuple #[.string ⟨#[]⟩, .int .i64 0]) = .returned (.tuple #[.string ⟨v.toArray⟩, .int .i64 (z : Int)]) := by
  have := h.out
  simp only [Prod.mk.injEq] at this
  rw [this.1, this.2]
  rfl
theorem pair_some {v x : List UInt8} {z m : Nat} {k : Int} (h : Hid ((v, z) = (x, m))) (hk : k = (m : Int)) : Ending.returned (.tuple #[.string ⟨x.toArray⟩, .int .i64 k]) = .returned (.tuple #[.string ⟨v.toArray⟩, .int .i64 (z : Int)]) := by
  have := h.out
  simp only [Prod.mk.injEq] at this
  rw [this.1, this.2, hk]

set_option maxHeartbeats 4000000 in
set_option maxRecDepth 100000 in
theorem number_10 (s : ByteArray) (hs : s.size ≤ 140737488355328) (v : List UInt8) (z : Nat) (HE : Hid (numE s.data.toList 2 10 7 = (v, z))) (w : World) (hst : 2 ≤ s.size) :
    Calls Tryz.prog 56 #[.string s, .int .i64 2, .int .i32 10, .int .i64 7] w fun e w' => e = .returned (.tuple #[.string ⟨v.toArray⟩, .int .i64 (z : Int)]) ∧ w = w' := by
  obtain ⟨R, hR⟩ : ∃ R, Hid (readN 10 7 (s.data.toList.drop 2) 0 = R) := ⟨_, rfl⟩
  go_enter Tryz.func56, Tryz.ntmps56
  go_wp2
  go_loopw [10, 11] (fun x t wr => Hid (w = wr) ∧ ∃ (p n : Nat), 2 ≤ p ∧ p ≤ 2 + 7 ∧ p ≤ s.size ∧ t = .int .i64 (p : Int) ∧ x = .int .i32 (n : Int) ∧ Hid (n < 10 ^ (p - 2)) ∧ Hid (R = ((readN 10 (7 - (p - 2)) (s.data.toList.drop p) n).1 + (p - 2), (readN 10 (7 - (p - 2)) (s.data.toList.drop p) n).2))) (fun _ t _ => s.size - (intOf t).toNat)
  case atStart => exact ⟨rfl, 2, 0, by omega, by omega, by omega, rfl, rfl, (by show 0 < 1; omega), (by show _ = _; rw [← hR.out]; rfl)⟩
  case round =>
    obtain ⟨HW, p, n, hp0, hpm, hps, rfl, rfl, HN, HR⟩ := hrel
    have hnI : (n : Int) ≤ 16777215 := by
      have := HN.out
      have h2 : 10 ^ (p - 2) ≤ 10 ^ 7 := Nat.pow_le_pow_right (by omega) (by omega)
      have h3 : 10 ^ 7 ≤ 16777216 := by decide
      omega
    have hch := character_any n (by omega)
    have hout : ∀ (hz : readN 10 (7 - (p - 2)) (s.data.toList.drop p) n = (0, n)), Hid ((v, z) = if p - 2 ≠ 0 ∧ s.data.toList[p]? = some 59 then (enc (charN n), p + 1) else ([], 0)) := by
      intro hz
      have h1 := HR.out
      rw [hz] at h1
      have h2 := numE_of (l := s.data.toList) (start := 2) (base := 10) (most := 7) (k := p - 2) (n := n) (by rw [hR.out, h1]; simp)
      rw [show 2 + (p - 2) = p by omega] at h2
      show _ = _
      rw [← HE.out]
      exact h2
    have hW := HW.out
    by_cases hlt : p < s.size
    · have hget : s.data.toList[p]? = some s[p] := get_byte s p hlt
      have hdrop : s.data.toList.drop p = s[p] :: s.data.toList.drop (p + 1) := drop_byte s p hlt
      have hd1 : decide ((p : Int) < (s.size : Int)) = true := by simp; omega
      have hnl : ((p : Int) == (s.size : Int)) = false := by simp; omega
      by_cases hm : p < 2 + 7
      · have hdv := digitValue_any s[p].toNat (by have := s[p].toNat_lt; omega)
        have hdv' : digVN s[p].toNat = digV s[p] := rfl
        rw [hdv'] at hdv
        obtain ⟨m, hm'⟩ : ∃ m, 7 - (p - 2) = m + 1 := ⟨7 - (p - 2) - 1, by omega⟩
        have hd2 : decide ((p : Int) - 2 < 7) = true := by simp; omega
        by_cases hdg : digV s[p] < 10
        · have hstep : readN 10 (7 - (p - 2)) (s.data.toList.drop p) n = ((readN 10 (7 - (p + 1 - 2)) (s.data.toList.drop (p + 1)) (n * 10 + digV s[p])).1 + 1, (readN 10 (7 - (p + 1 - 2)) (s.data.toList.drop (p + 1)) (n * 10 + digV s[p])).2) := by
            rw [hdrop, hm', show 7 - (p + 1 - 2) = m by omega]
            exact if_pos hdg
          have HR' : Hid (R = ((readN 10 (7 - (p + 1 - 2)) (s.data.toList.drop (p + 1)) (n * 10 + digV s[p])).1 + (p + 1 - 2), (readN 10 (7 - (p + 1 - 2)) (s.data.toList.drop (p + 1)) (n * 10 + digV s[p])).2)) := by
            show _ = _
            rw [HR.out, hstep]
            congr 1
            omega
          have HN' : Hid (n * 10 + digV s[p] < 10 ^ (p + 1 - 2)) := by
            show _ < _
            rw [show p + 1 - 2 = (p - 2) + 1 by omega, Nat.pow_succ]
            have := HN.out
            omega
          have hnk : (n : Int) * 10 + 10 ≤ 16777216 := by
            have h1 := HN.out
            have h2 : 10 ^ (p - 2 + 1) ≤ 10 ^ 7 := Nat.pow_le_pow_right (by omega) (by omega)
            have h3 : 10 ^ 7 ≤ 16777216 := by decide
            rw [Nat.pow_succ] at h2
            omega
          generalize digV s[p] = d at *
          have hge : decide ((10 : Int) ≤ (d : Int)) = false := by simp; omega
          clear hout hstep hdrop hget hdv' HR HN hR HE hch hm' hnI
          go_wp2_with (go_at_call 91; refine (hdv _).mono ?_; rintro e w' ⟨rfl, rfl⟩)
          go_roundw
          case rel => exact ⟨HW, p + 1, n * 10 + d, by omega, by omega, by omega, by go_num, by go_num, HN', HR'⟩
          case measure => simp [intOf]; omega
        · have hz : readN 10 (7 - (p - 2)) (s.data.toList.drop p) n = (0, n) := by
            rw [hdrop, hm']
            exact if_neg hdg
          have HO := hout hz
          rw [hget] at HO
          have hge : decide ((10 : Int) ≤ (digV s[p] : Int)) = true := by simp; omega
          generalize digV s[p] = d at *
          subst hW
          clear hout hz hdrop hget hdv' HR HN hR hm' HE HW hnI
          by_cases hk0 : p - 2 = 0
          · have hk1 : ((p : Int) == 2) = true := by simp; omega
            have HV : Hid ((v, z) = (([] : List UInt8), 0)) := by show _ = _; rw [HO.out, if_neg (by simp [hk0])]
            clear HO
            go_wp2_with (go_at_call 91; refine (hdv _).mono ?_; rintro e w' ⟨rfl, rfl⟩)
            go_ret2
            exact ⟨pair_none HV, rfl⟩
          · have hk1 : ((p : Int) == 2) = false := by simp; omega
            by_cases h59 : s[p] = 59
            · have q59 : ((s[p].toNat : Int) != 59) = false := by rw [h59]; rfl
              have HV : Hid ((v, z) = (enc (charN n), p + 1)) := by show _ = _; rw [HO.out, h59, if_pos ⟨hk0, rfl⟩]
              clear HO h59
              go_wp2_with (first | (go_at_call 91; refine (hdv _).mono ?_; rintro e w' ⟨rfl, rfl⟩) | (go_at_call 92; refine (hch _).mono ?_; rintro e w' ⟨rfl, rfl⟩))
              go_ret2
              exact ⟨pair_some HV (by go_num), rfl⟩
            · have HV : Hid ((v, z) = (([] : List UInt8), 0)) := by show _ = _; rw [HO.out, if_neg (by simp [h59])]
              have q59 : ((s[p].toNat : Int) != 59) = true := by rw [bne_iff_ne]; intro h; exact h59 (u8_eq (n := 59) (by omega))
              clear HO h59
              go_wp2_with (first | (go_at_call 91; refine (hdv _).mono ?_; rintro e w' ⟨rfl, rfl⟩))
              go_ret2
              exact ⟨pair_none HV, rfl⟩
      · have hkm : p = 2 + 7 := by omega
        have HO := hout (by rw [show 7 - (p - 2) = 0 by omega]; rfl)
        rw [hget] at HO
        have hd2 : decide ((p : Int) - 2 < 7) = false := by simp; omega
        have hk0 : p - 2 ≠ 0 := by omega
        have hk1 : ((p : Int) == 2) = false := by simp; omega
        subst hW
        clear hout hdrop hget HR HN hR HE HW hnI hkm
        by_cases h59 : s[p] = 59
        · have q59 : ((s[p].toNat : Int) != 59) = false := by rw [h59]; rfl
          have HV : Hid ((v, z) = (enc (charN n), p + 1)) := by show _ = _; rw [HO.out, h59, if_pos ⟨hk0, rfl⟩]
          clear HO h59
          go_wp2_with (go_at_call 92; refine (hch _).mono ?_; rintro e w' ⟨rfl, rfl⟩)
          go_ret2
          exact ⟨pair_some HV (by go_num), rfl⟩
        · have HV : Hid ((v, z) = (([] : List UInt8), 0)) := by show _ = _; rw [HO.out, if_neg (by simp [h59])]
          have q59 : ((s[p].toNat : Int) != 59) = true := by rw [bne_iff_ne]; intro h; exact h59 (u8_eq (n := 59) (by omega))
          clear HO h59
          go_wp2
          go_ret2
          exact ⟨pair_none HV, rfl⟩
    · have hd1 : decide ((p : Int) < (s.size : Int)) = false := by simp; omega
      have hnl : ((p : Int) == (s.size : Int)) = true := by simp; omega
      have HO := hout (by rw [drop_past s _ (by omega), readN_nil])
      have HV : Hid ((v, z) = (([] : List UInt8), 0)) := by show _ = _; rw [HO.out, get_past s _ (by omega), if_neg (by simp)]
      subst hW
      clear hout HO HR HN hR HE HW hch
      by_cases hk0 : p = 2
      · have hk1 : ((p : Int) == 2) = true := by simp; omega
        go_wp2
        go_ret2
        exact ⟨pair_none HV, rfl⟩
      · have hk1 : ((p : Int) == 2) = false := by simp; omega
        go_wp2
        go_ret2
        exact ⟨pair_none HV, rfl⟩

set_option maxHeartbeats 4000000 in
set_option maxRecDepth 100000 in
theorem number_16 (s : ByteArray) (hs : s.size ≤ 140737488355328) (v : List UInt8) (z : Nat) (HE : Hid (numE s.data.toList 3 16 6 = (v, z))) (w : World) (hst : 3 ≤ s.size) :
    Calls Tryz.prog 56 #[.string s, .int .i64 3, .int .i32 16, .int .i64 6] w fun e w' => e = .returned (.tuple #[.string ⟨v.toArray⟩, .int .i64 (z : Int)]) ∧ w = w' := by
  obtain ⟨R, hR⟩ : ∃ R, Hid (readN 16 6 (s.data.toList.drop 3) 0 = R) := ⟨_, rfl⟩
  go_enter Tryz.func56, Tryz.ntmps56
  go_wp2
  go_loopw [10, 11] (fun x t wr => Hid (w = wr) ∧ ∃ (p n : Nat), 3 ≤ p ∧ p ≤ 3 + 6 ∧ p ≤ s.size ∧ t = .int .i64 (p : Int) ∧ x = .int .i32 (n : Int) ∧ Hid (n < 16 ^ (p - 3)) ∧ Hid (R = ((readN 16 (6 - (p - 3)) (s.data.toList.drop p) n).1 + (p - 3), (readN 16 (6 - (p - 3)) (s.data.toList.drop p) n).2))) (fun _ t _ => s.size - (intOf t).toNat)
  case atStart => exact ⟨rfl, 3, 0, by omega, by omega, by omega, rfl, rfl, (by show 0 < 1; omega), (by show _ = _; rw [← hR.out]; rfl)⟩
  case round =>
    obtain ⟨HW, p, n, hp0, hpm, hps, rfl, rfl, HN, HR⟩ := hrel
    have hnI : (n : Int) ≤ 16777215 := by
      have := HN.out
      have h2 : 16 ^ (p - 3) ≤ 16 ^ 6 := Nat.pow_le_pow_right (by omega) (by omega)
      have h3 : 16 ^ 6 ≤ 16777216 := by decide
      omega
    have hch := character_any n (by omega)
    have hout : ∀ (hz : readN 16 (6 - (p - 3)) (s.data.toList.drop p) n = (0, n)), Hid ((v, z) = if p - 3 ≠ 0 ∧ s.data.toList[p]? = some 59 then (enc (charN n), p + 1) else ([], 0)) := by
      intro hz
      have h1 := HR.out
      rw [hz] at h1
      have h2 := numE_of (l := s.data.toList) (start := 3) (base := 16) (most := 6) (k := p - 3) (n := n) (by rw [hR.out, h1]; simp)
      rw [show 3 + (p - 3) = p by omega] at h2
      show _ = _
      rw [← HE.out]
      exact h2
    have hW := HW.out
    by_cases hlt : p < s.size
    · have hget : s.data.toList[p]? = some s[p] := get_byte s p hlt
      have hdrop : s.data.toList.drop p = s[p] :: s.data.toList.drop (p + 1) := drop_byte s p hlt
      have hd1 : decide ((p : Int) < (s.size : Int)) = true := by simp; omega
      have hnl : ((p : Int) == (s.size : Int)) = false := by simp; omega
      by_cases hm : p < 3 + 6
      · have hdv := digitValue_any s[p].toNat (by have := s[p].toNat_lt; omega)
        have hdv' : digVN s[p].toNat = digV s[p] := rfl
        rw [hdv'] at hdv
        obtain ⟨m, hm'⟩ : ∃ m, 6 - (p - 3) = m + 1 := ⟨6 - (p - 3) - 1, by omega⟩
        have hd2 : decide ((p : Int) - 3 < 6) = true := by simp; omega
        by_cases hdg : digV s[p] < 16
        · have hstep : readN 16 (6 - (p - 3)) (s.data.toList.drop p) n = ((readN 16 (6 - (p + 1 - 3)) (s.data.toList.drop (p + 1)) (n * 16 + digV s[p])).1 + 1, (readN 16 (6 - (p + 1 - 3)) (s.data.toList.drop (p + 1)) (n * 16 + digV s[p])).2) := by
            rw [hdrop, hm', show 6 - (p + 1 - 3) = m by omega]
            exact if_pos hdg
          have HR' : Hid (R = ((readN 16 (6 - (p + 1 - 3)) (s.data.toList.drop (p + 1)) (n * 16 + digV s[p])).1 + (p + 1 - 3), (readN 16 (6 - (p + 1 - 3)) (s.data.toList.drop (p + 1)) (n * 16 + digV s[p])).2)) := by
            show _ = _
            rw [HR.out, hstep]
            congr 1
            omega
          have HN' : Hid (n * 16 + digV s[p] < 16 ^ (p + 1 - 3)) := by
            show _ < _
            rw [show p + 1 - 3 = (p - 3) + 1 by omega, Nat.pow_succ]
            have := HN.out
            omega
          have hnk : (n : Int) * 16 + 16 ≤ 16777216 := by
            have h1 := HN.out
            have h2 : 16 ^ (p - 3 + 1) ≤ 16 ^ 6 := Nat.pow_le_pow_right (by omega) (by omega)
            have h3 : 16 ^ 6 ≤ 16777216 := by decide
            rw [Nat.pow_succ] at h2
            omega
          generalize digV s[p] = d at *
          have hge : decide ((16 : Int) ≤ (d : Int)) = false := by simp; omega
          clear hout hstep hdrop hget hdv' HR HN hR HE hch hm' hnI
          go_wp2_with (go_at_call 91; refine (hdv _).mono ?_; rintro e w' ⟨rfl, rfl⟩)
          go_roundw
          case rel => exact ⟨HW, p + 1, n * 16 + d, by omega, by omega, by omega, by go_num, by go_num, HN', HR'⟩
          case measure => simp [intOf]; omega
        · have hz : readN 16 (6 - (p - 3)) (s.data.toList.drop p) n = (0, n) := by
            rw [hdrop, hm']
            exact if_neg hdg
          have HO := hout hz
          rw [hget] at HO
          have hge : decide ((16 : Int) ≤ (digV s[p] : Int)) = true := by simp; omega
          generalize digV s[p] = d at *
          subst hW
          clear hout hz hdrop hget hdv' HR HN hR hm' HE HW hnI
          by_cases hk0 : p - 3 = 0
          · have hk1 : ((p : Int) == 3) = true := by simp; omega
            have HV : Hid ((v, z) = (([] : List UInt8), 0)) := by show _ = _; rw [HO.out, if_neg (by simp [hk0])]
            clear HO
            go_wp2_with (go_at_call 91; refine (hdv _).mono ?_; rintro e w' ⟨rfl, rfl⟩)
            go_ret2
            exact ⟨pair_none HV, rfl⟩
          · have hk1 : ((p : Int) == 3) = false := by simp; omega
            by_cases h59 : s[p] = 59
            · have q59 : ((s[p].toNat : Int) != 59) = false := by rw [h59]; rfl
              have HV : Hid ((v, z) = (enc (charN n), p + 1)) := by show _ = _; rw [HO.out, h59, if_pos ⟨hk0, rfl⟩]
              clear HO h59
              go_wp2_with (first | (go_at_call 91; refine (hdv _).mono ?_; rintro e w' ⟨rfl, rfl⟩) | (go_at_call 92; refine (hch _).mono ?_; rintro e w' ⟨rfl, rfl⟩))
              go_ret2
              exact ⟨pair_some HV (by go_num), rfl⟩
            · have HV : Hid ((v, z) = (([] : List UInt8), 0)) := by show _ = _; rw [HO.out, if_neg (by simp [h59])]
              have q59 : ((s[p].toNat : Int) != 59) = true := by rw [bne_iff_ne]; intro h; exact h59 (u8_eq (n := 59) (by omega))
              clear HO h59
              go_wp2_with (first | (go_at_call 91; refine (hdv _).mono ?_; rintro e w' ⟨rfl, rfl⟩))
              go_ret2
              exact ⟨pair_none HV, rfl⟩
      · have hkm : p = 3 + 6 := by omega
        have HO := hout (by rw [show 6 - (p - 3) = 0 by omega]; rfl)
        rw [hget] at HO
        have hd2 : decide ((p : Int) - 3 < 6) = false := by simp; omega
        have hk0 : p - 3 ≠ 0 := by omega
        have hk1 : ((p : Int) == 3) = false := by simp; omega
        subst hW
        clear hout hdrop hget HR HN hR HE HW hnI hkm
        by_cases h59 : s[p] = 59
        · have q59 : ((s[p].toNat : Int) != 59) = false := by rw [h59]; rfl
          have HV : Hid ((v, z) = (enc (charN n), p + 1)) := by show _ = _; rw [HO.out, h59, if_pos ⟨hk0, rfl⟩]
          clear HO h59
          go_wp2_with (go_at_call 92; refine (hch _).mono ?_; rintro e w' ⟨rfl, rfl⟩)
          go_ret2
          exact ⟨pair_some HV (by go_num), rfl⟩
        · have HV : Hid ((v, z) = (([] : List UInt8), 0)) := by show _ = _; rw [HO.out, if_neg (by simp [h59])]
          have q59 : ((s[p].toNat : Int) != 59) = true := by rw [bne_iff_ne]; intro h; exact h59 (u8_eq (n := 59) (by omega))
          clear HO h59
          go_wp2
          go_ret2
          exact ⟨pair_none HV, rfl⟩
    · have hd1 : decide ((p : Int) < (s.size : Int)) = false := by simp; omega
      have hnl : ((p : Int) == (s.size : Int)) = true := by simp; omega
      have HO := hout (by rw [drop_past s _ (by omega), readN_nil])
      have HV : Hid ((v, z) = (([] : List UInt8), 0)) := by show _ = _; rw [HO.out, get_past s _ (by omega), if_neg (by simp)]
      subst hW
      clear hout HO HR HN hR HE HW hch
      by_cases hk0 : p = 3
      · have hk1 : ((p : Int) == 3) = true := by simp; omega
        go_wp2
        go_ret2
        exact ⟨pair_none HV, rfl⟩
      · have hk1 : ((p : Int) == 3) = false := by simp; omega
        go_wp2
        go_ret2
        exact ⟨pair_none HV, rfl⟩

end Go.Proofs.YtjdijlaoeoikhaaGreatDoor.esc

/- What escape's names stand for. -/
namespace Go.Proofs.YtjdijlaoeoikhaaGreatDoor.esc
open Go.RowKit

set_option maxHeartbeats 4000000 in
set_option maxRecDepth 100000 in
theorem namedPair_any (s : ByteArray) (w : World) :
    Calls Tryz.prog 123 #[.string s] w fun e w' => e = .returned (.string ⟨((tPair.lookup s.toList).getD []).toArray⟩) ∧ w' = w := by
  go_enter Tryz.func123, Tryz.ntmps123
  go_wp2
  all_goals
    go_ret
    refine ⟨ret_str ?_, rfl⟩
    simp only [tPair, List.lookup_cons, List.lookup_nil, Option.getD, *]

set_option maxHeartbeats 4000000 in
set_option maxRecDepth 100000 in
theorem namedSign_any (s : ByteArray) (w : World) :
    Calls Tryz.prog 120 #[.string s] w fun e w' => e = .returned (.string ⟨((tSign.lookup s.toList).getD []).toArray⟩) ∧ w' = w := by
  go_enter Tryz.func120, Tryz.ntmps120
  go_wp2
  all_goals
    go_ret
    refine ⟨ret_str ?_, rfl⟩
    simp only [tSign, List.lookup_cons, List.lookup_nil, Option.getD, *]

set_option maxHeartbeats 4000000 in
set_option maxRecDepth 100000 in
theorem namedLetter_any (s : ByteArray) (w : World) :
    Calls Tryz.prog 121 #[.string s] w fun e w' => e = .returned (.string ⟨((tLetter.lookup s.toList).getD []).toArray⟩) ∧ w' = w := by
  go_enter Tryz.func121, Tryz.ntmps121
  go_wp2
  all_goals
    go_ret
    refine ⟨ret_str ?_, rfl⟩
    simp only [tLetter, List.lookup_cons, List.lookup_nil, Option.getD, *]

set_option maxHeartbeats 4000000 in
set_option maxRecDepth 100000 in
theorem namedFar_any (s : ByteArray) (w : World) :
    Calls Tryz.prog 122 #[.string s] w fun e w' => e = .returned (.string ⟨((tFar.lookup s.toList).getD []).toArray⟩) ∧ w' = w := by
  go_enter Tryz.func122, Tryz.ntmps122
  go_wp2
  all_goals
    go_ret
    refine ⟨ret_str ?_, rfl⟩
    simp only [tFar, List.lookup_cons, List.lookup_nil, Option.getD, *]

theorem empty_mk (p : List UInt8) : (ByteArray.mk p.toArray).toList.isEmpty = p.isEmpty := by
  rw [ByteArray.toList_eq]

set_option maxHeartbeats 1000000 in
set_option maxRecDepth 100000 in
theorem named_any (s : ByteArray) (w : World) :
    Calls Tryz.prog 90 #[.string s] w fun e w' => e = .returned (.string ⟨(nameT s.toList).toArray⟩) ∧ w' = w := by
  have c1 := namedSign_any s
  have c2 := namedLetter_any s
  have c3 := namedFar_any s
  have c4 := namedPair_any s
  rw [nameT_parts]
  have e1 := empty_mk ((tSign.lookup s.toList).getD [])
  have e2 := empty_mk ((tLetter.lookup s.toList).getD [])
  have e3 := empty_mk ((tFar.lookup s.toList).getD [])
  generalize (tSign.lookup s.toList).getD [] = p1 at *
  generalize (tLetter.lookup s.toList).getD [] = p2 at *
  generalize (tFar.lookup s.toList).getD [] = p3 at *
  generalize (tPair.lookup s.toList).getD [] = p4 at *
  by_cases h1 : p1 = []
  · subst h1
    by_cases h2 : p2 = []
    · subst h2
      by_cases h3 : p3 = []
      · subst h3
        simp only [ne_eq, not_true_eq_false, if_false]
        clear e1 e2 e3
        go_enter Tryz.func90, Tryz.ntmps90
        go_wp2_with (first | (go_at_call 120; refine (c1 _).mono ?_; rintro e w' ⟨rfl, rfl⟩) | (go_at_call 121; refine (c2 _).mono ?_; rintro e w' ⟨rfl, rfl⟩) | (go_at_call 122; refine (c3 _).mono ?_; rintro e w' ⟨rfl, rfl⟩) | (go_at_call 123; refine (c4 _).mono ?_; rintro e w' ⟨rfl, rfl⟩))
        go_ret
        exact ⟨rfl, rfl⟩
      · have f3 : p3.isEmpty = false := by simpa using h3
        rw [f3] at e3
        simp only [ne_eq, not_true_eq_false, if_false, if_pos (show ¬ p3 = [] from h3)]
        clear e1 e2
        go_enter Tryz.func90, Tryz.ntmps90
        go_wp2_with (first | (go_at_call 120; refine (c1 _).mono ?_; rintro e w' ⟨rfl, rfl⟩) | (go_at_call 121; refine (c2 _).mono ?_; rintro e w' ⟨rfl, rfl⟩) | (go_at_call 122; refine (c3 _).mono ?_; rintro e w' ⟨rfl, rfl⟩))
        go_ret
        exact ⟨rfl, rfl⟩
    · have f2 : p2.isEmpty = false := by simpa using h2
      rw [f2] at e2
      simp only [ne_eq, not_true_eq_false, if_false, if_pos (show ¬ p2 = [] from h2)]
      clear e1 e3
      go_enter Tryz.func90, Tryz.ntmps90
      go_wp2_with (first | (go_at_call 120; refine (c1 _).mono ?_; rintro e w' ⟨rfl, rfl⟩) | (go_at_call 121; refine (c2 _).mono ?_; rintro e w' ⟨rfl, rfl⟩))
      go_ret
      exact ⟨rfl, rfl⟩
  · have f1 : p1.isEmpty = false := by simpa using h1
    rw [f1] at e1
    simp only [ne_eq, if_pos (show ¬ p1 = [] from h1)]
    clear e2 e3
    go_enter Tryz.func90, Tryz.ntmps90
    go_wp2_with (first | (go_at_call 120; refine (c1 _).mono ?_; rintro e w' ⟨rfl, rfl⟩))
    go_ret
    exact ⟨rfl, rfl⟩

end Go.Proofs.YtjdijlaoeoikhaaGreatDoor.esc

/- What escape's namedEntity and Entity answer. -/
namespace Go.Proofs.YtjdijlaoeoikhaaGreatDoor.esc
open Go.RowKit

/-- Where a name that holds place i stops. -/
def stopN (l : List UInt8) (i : Nat) : Nat := i + ((l.drop i).takeWhile alnum).length

theorem stopN_more (s : ByteArray) (p : Nat) (h : p < s.size) (ha : alnum s[p] = true) : stopN s.data.toList p = stopN s.data.toList (p + 1) := by
  unfold stopN
  rw [drop_byte s p h, List.takeWhile_cons, if_pos ha, List.length_cons]
  omega
theorem stopN_here (s : ByteArray) (p : Nat) (h : p < s.size) (ha : alnum s[p] = false) : stopN s.data.toList p = p := by
  unfold stopN
  rw [drop_byte s p h, List.takeWhile_cons, if_neg (by simp [ha])]
  rfl
theorem stopN_past (s : ByteArray) (p : Nat) (h : s.size ≤ p) : stopN s.data.toList p = p := by
  unfold stopN
  rw [drop_past s p h]
  rfl

theorem take_take (p : UInt8 → Bool) : ∀ l : List UInt8, l.take (l.takeWhile p).length = l.takeWhile p
  | [] => rfl
  | c :: l => by
    rw [List.takeWhile_cons]
    split
    · rw [List.length_cons, List.take_succ_cons, take_take p l]
    · rfl

/-- The name that stands behind the first byte. -/
theorem name_bytes (s : ByteArray) (p : Nat) (h : stopN s.data.toList 1 = p) : (s.extract 1 p).toList = (s.data.toList.drop 1).takeWhile alnum := by
  rw [extract_eq, ByteArray.toList_eq]
  subst h
  have : stopN s.data.toList 1 - 1 = ((s.data.toList.drop 1).takeWhile alnum).length := by unfold stopN; omega
  rw [this, take_take]

theorem nameE_of {l : List UInt8} {p : Nat} (h : stopN l 1 = p) : nameE l = if l[p]? = some 59 ∧ nameT ((l.drop 1).takeWhile alnum) ≠ [] then (nameT ((l.drop 1).takeWhile alnum), p + 1) else ([], 0) := by
  unfold nameE
  subst h
  rfl

set_option maxHeartbeats 4000000 in
set_option maxRecDepth 100000 in
theorem namedEntity_any (s : ByteArray) (hs : s.size ≤ 140737488355328) (h1 : 1 ≤ s.size) (v : List UInt8) (z : Nat) (HE : Hid (nameE s.data.toList = (v, z))) (w : World) :
    Calls Tryz.prog 55 #[.string s] w fun e w' => e = .returned (.tuple #[.string ⟨v.toArray⟩, .int .i64 (z : Int)]) ∧ w = w' := by
  go_enter Tryz.func55, Tryz.ntmps55
  go_wp2
  go_loopw [4] (fun t wr => Hid (w = wr) ∧ ∃ (p : Nat), 1 ≤ p ∧ p ≤ s.size ∧ t = .int .i64 (p : Int) ∧ Hid (stopN s.data.toList p = stopN s.data.toList 1)) (fun t _ => s.size - (intOf t).toNat)
  case atStart => exact ⟨rfl, 1, by omega, by omega, rfl, rfl⟩
  case round =>
    obtain ⟨HW, p, hp1, hps, rfl, HS⟩ := hrel
    have hW := HW.out
    by_cases hlt : p < s.size
    · have cl := letter_any s[p].toNat
      have cd := digit_any s[p].toNat
      have hal : alnum s[p] = (letterN s[p].toNat || digitN s[p].toNat) := rfl
      have hd1 : decide ((p : Int) < (s.size : Int)) = true := by simp; omega
      have hnl : ((p : Int) == (s.size : Int)) = false := by simp; omega
      cases ha : alnum s[p] with
      | true =>
        have HS' : Hid (stopN s.data.toList (p + 1) = stopN s.data.toList 1) := by show _ = _; rw [← stopN_more s p hlt ha]; exact HS.out
        rw [ha] at hal
        generalize letterN s[p].toNat = bl at *
        generalize digitN s[p].toNat = bd at *
        clear HS HE ha
        cases bl with
        | true =>
          clear hal cd
          go_wp2_with (first | (go_at_call 88; refine (cl _).mono ?_; rintro e w' ⟨rfl, rfl⟩))
          go_roundw
          case rel => exact ⟨HW, p + 1, by omega, by omega, by go_num, HS'⟩
          case measure => simp [intOf]; omega
        | false =>
          have hbd : bd = true := by simpa using hal.symm
          subst hbd
          clear hal
          go_wp2_with (first | (go_at_call 88; refine (cl _).mono ?_; rintro e w' ⟨rfl, rfl⟩) | (go_at_call 89; refine (cd _).mono ?_; rintro e w' ⟨rfl, rfl⟩))
          go_roundw
          case rel => exact ⟨HW, p + 1, by omega, by omega, by go_num, HS'⟩
          case measure => simp [intOf]; omega
      | false =>
        have hst : stopN s.data.toList 1 = p := by rw [← HS.out, stopN_here s p hlt ha]
        have hne := nameE_of hst
        have hnm := name_bytes s p hst
        rw [get_byte s p hlt, HE.out] at hne
        have hcn := named_any (s.extract 1 p)
        rw [hnm] at hcn
        have hemp := empty_mk (nameT ((s.data.toList.drop 1).takeWhile alnum))
        generalize nameT ((s.data.toList.drop 1).takeWhile alnum) = t at *
        rw [ha] at hal
        have hbl : letterN s[p].toNat = false := (Bool.or_eq_false_iff.1 hal.symm).1
        have hbd : digitN s[p].toNat = false := (Bool.or_eq_false_iff.1 hal.symm).2
        rw [hbl] at cl
        rw [hbd] at cd
        subst hW
        clear HS HE ha hal hbl hbd hst hnm HW
        by_cases h59 : s[p] = 59
        · have q59 : ((s[p].toNat : Int) != 59) = false := by rw [h59]; rfl
          by_cases ht : t = []
          · have HV : Hid ((v, z) = (([] : List UInt8), 0)) := by show _ = _; rw [hne, if_neg (by simp [ht])]
            subst ht
            clear hne hemp h59
            go_wp2_with (first | (go_at_call 88; refine (cl _).mono ?_; rintro e w' ⟨rfl, rfl⟩) | (go_at_call 89; refine (cd _).mono ?_; rintro e w' ⟨rfl, rfl⟩) | (go_at_call 90; refine (hcn _).mono ?_; rintro e w' ⟨rfl, rfl⟩))
            go_ret2
            exact ⟨pair_none HV, rfl⟩
          · have HV : Hid ((v, z) = (t, p + 1)) := by show _ = _; rw [hne, if_pos ⟨by rw [h59], ht⟩]
            have f1 : t.isEmpty = false := by simpa using ht
            rw [f1] at hemp
            clear hne h59 ht
            go_wp2_with (first | (go_at_call 88; refine (cl _).mono ?_; rintro e w' ⟨rfl, rfl⟩) | (go_at_call 89; refine (cd _).mono ?_; rintro e w' ⟨rfl, rfl⟩) | (go_at_call 90; refine (hcn _).mono ?_; rintro e w' ⟨rfl, rfl⟩))
            go_ret2
            exact ⟨pair_some HV (by go_num), rfl⟩
        · have HV : Hid ((v, z) = (([] : List UInt8), 0)) := by show _ = _; rw [hne, if_neg (by simp [h59])]
          have q59 : ((s[p].toNat : Int) != 59) = true := by rw [bne_iff_ne]; intro h; exact h59 (u8_eq (n := 59) (by omega))
          clear hne hemp h59 hcn
          go_wp2_with (first | (go_at_call 88; refine (cl _).mono ?_; rintro e w' ⟨rfl, rfl⟩) | (go_at_call 89; refine (cd _).mono ?_; rintro e w' ⟨rfl, rfl⟩))
          go_ret2
          exact ⟨pair_none HV, rfl⟩
    · have hd1 : decide ((p : Int) < (s.size : Int)) = false := by simp; omega
      have hnl : ((p : Int) == (s.size : Int)) = true := by simp; omega
      have hst : stopN s.data.toList 1 = p := by rw [← HS.out, stopN_past s p (by omega)]
      have hne := nameE_of hst
      rw [get_past s p (by omega), HE.out] at hne
      have HV : Hid ((v, z) = (([] : List UInt8), 0)) := by show _ = _; rw [hne, if_neg (by simp)]
      subst hW
      clear HS HE HW hst hne
      go_wp2
      go_ret2
      exact ⟨pair_none HV, rfl⟩

set_option maxHeartbeats 4000000 in
set_option maxRecDepth 100000 in
theorem entity_call (s : ByteArray) (hs : s.size ≤ 140737488355328) (v : List UInt8) (z : Nat) (HE : Hid (entity s.data.toList = (v, z))) (w : World) :
    Calls Tryz.prog 36 #[.string s] w fun e w' => e = .returned (.tuple #[.string ⟨v.toArray⟩, .int .i64 (z : Int)]) ∧ w = w' := by
  by_cases h2 : s.size < 2
  · have HV : Hid ((v, z) = (([] : List UInt8), 0)) := by
      show _ = _
      rw [← HE.out]
      have h1 : s.data.toList[1]? = none := get_past s 1 (by omega)
      unfold entity
      split
      · rw [h1, if_neg (by simp)]
        rw [nameE_of (p := 1) (by unfold stopN; rw [drop_past s 1 (by omega)]; rfl), h1, if_neg (by simp)]
      · rfl
    clear HE
    go_enter Tryz.func36, Tryz.ntmps36
    go_wp2
    go_ret2
    exact ⟨pair_none HV, rfl⟩
  · have g0 : s.data.toList[0]? = some s[0] := get_byte s 0 (by omega)
    have g1 : s.data.toList[1]? = some s[1] := get_byte s 1 (by omega)
    have hE := HE.out
    unfold entity at hE
    rw [g0, g1] at hE
    clear g0 g1
    by_cases h38 : s[0] = 38
    · have q38 : ((s[0].toNat : Int) != 38) = false := by rw [h38]; rfl
      rw [if_pos (by rw [h38])] at hE
      by_cases h35 : s[1] = 35
      · have q35 : ((s[1].toNat : Int) != 35) = false := by rw [h35]; rfl
        rw [if_pos (by rw [h35])] at hE
        clear h38 h35
        by_cases h3 : 2 < s.size
        · have g2 : s.data.toList[2]? = some s[2] := get_byte s 2 (by omega)
          rw [g2] at hE
          have hd : decide (2 < (s.size : Int)) = true := by simp; omega
          by_cases hx : s[2] = 120
          · have q1 : ((s[2].toNat : Int) == 120) = true := by rw [hx]; rfl
            rw [if_pos (by rw [hx]; exact .inl rfl)] at hE
            have hc := number_16 s hs v z hE
            clear HE hE hx g2
            go_enter Tryz.func36, Tryz.ntmps36
            go_wp2_with (go_at_call 56; refine (hc _ (by omega)).mono ?_; rintro e w' ⟨rfl, rfl⟩)
            go_ret2
            exact ⟨rfl, rfl⟩
          · have q1 : ((s[2].toNat : Int) == 120) = false := by rw [beq_eq_false_iff_ne]; intro h; exact hx (u8_eq (n := 120) (by omega))
            by_cases hx2 : s[2] = 88
            · have q2 : ((s[2].toNat : Int) == 88) = true := by rw [hx2]; rfl
              rw [if_pos (by rw [hx2]; exact .inr rfl)] at hE
              have hc := number_16 s hs v z hE
              clear HE hE hx hx2 g2
              go_enter Tryz.func36, Tryz.ntmps36
              go_wp2_with (go_at_call 56; refine (hc _ (by omega)).mono ?_; rintro e w' ⟨rfl, rfl⟩)
              go_ret2
              exact ⟨rfl, rfl⟩
            · have q2 : ((s[2].toNat : Int) == 88) = false := by rw [beq_eq_false_iff_ne]; intro h; exact hx2 (u8_eq (n := 88) (by omega))
              rw [if_neg (by simp [hx, hx2])] at hE
              have hc := number_10 s hs v z hE
              clear HE hE hx hx2 g2
              go_enter Tryz.func36, Tryz.ntmps36
              go_wp2_with (go_at_call 56; refine (hc _ (by omega)).mono ?_; rintro e w' ⟨rfl, rfl⟩)
              go_ret2
              exact ⟨rfl, rfl⟩
        · have hd : decide (2 < (s.size : Int)) = false := by simp; omega
          rw [get_past s 2 (by omega), if_neg (by simp)] at hE
          have hc := number_10 s hs v z hE
          clear HE hE
          go_enter Tryz.func36, Tryz.ntmps36
          go_wp2_with (go_at_call 56; refine (hc _ (by omega)).mono ?_; rintro e w' ⟨rfl, rfl⟩)
          go_ret2
          exact ⟨rfl, rfl⟩
      · have q35 : ((s[1].toNat : Int) != 35) = true := by rw [bne_iff_ne]; intro h; exact h35 (u8_eq (n := 35) (by omega))
        rw [if_neg (by simp [h35])] at hE
        have hc := namedEntity_any s hs (by omega) v z hE
        clear HE hE h38 h35
        go_enter Tryz.func36, Tryz.ntmps36
        go_wp2_with (go_at_call 55; refine (hc _).mono ?_; rintro e w' ⟨rfl, rfl⟩)
        go_ret2
        exact ⟨rfl, rfl⟩
    · have q38 : ((s[0].toNat : Int) != 38) = true := by rw [bne_iff_ne]; intro h; exact h38 (u8_eq (n := 38) (by omega))
      rw [if_neg (by simp [h38])] at hE
      have HV : Hid ((v, z) = (([] : List UInt8), 0)) := hE.symm
      clear HE hE h38
      go_enter Tryz.func36, Tryz.ntmps36
      go_wp2
      go_ret2
      exact ⟨pair_none HV, rfl⟩

theorem entity_any (s : ByteArray) (hs : s.size ≤ 140737488355328) (w : World) :
    Calls Tryz.prog 36 #[.string s] w fun e w' => e = .returned (.tuple #[.string ⟨(entity s.data.toList).1.toArray⟩, .int .i64 ((entity s.data.toList).2 : Nat)]) ∧ w = w' :=
  entity_call s hs _ _ rfl w

end Go.Proofs.YtjdijlaoeoikhaaGreatDoor.esc
