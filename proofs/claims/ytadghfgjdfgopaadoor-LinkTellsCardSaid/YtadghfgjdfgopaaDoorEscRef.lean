/- Several texts in one. -/
import Derived.Test.YtadghfgjdfgopaaDoorEscAll
set_option linter.unusedVariables false
/- The document's bytes and characters in layer 2: Plain, digit, Mark, Put. -/
namespace Go.Proofs.YtadghfgjdfgopaaDoor.esc
open Go.RowKit

set_option maxHeartbeats 2000000 in
theorem refmark_any (c : Nat) (w : World) :
    Calls Tryd.prog 44 #[.int .i64 (c : Int)] w fun e w' => e = .returned (.bool (markN c)) ∧ w' = w := by
  have hc : c < 33 ∨ (33 ≤ c ∧ c ≤ 47) ∨ (47 < c ∧ c < 58) ∨ (58 ≤ c ∧ c ≤ 64) ∨ (64 < c ∧ c < 91) ∨ (91 ≤ c ∧ c ≤ 96) ∨ (96 < c ∧ c < 123) ∨ (123 ≤ c ∧ c ≤ 126) ∨ 126 < c := by omega
  rcases hc with h | ⟨h, h'⟩ | ⟨h, h'⟩ | ⟨h, h'⟩ | ⟨h, h'⟩ | ⟨h, h'⟩ | ⟨h, h'⟩ | ⟨h, h'⟩ | h
  all_goals
    go_enter Tryd.func44, Tryd.ntmps44
    go_wp2
    go_ret
    exact ⟨ret_bool (by unfold markN; rw [Bool.eq_iff_iff]; simp; omega), rfl⟩

set_option maxHeartbeats 1000000 in
theorem refdigit_any (c : Nat) (hc : c ≤ 255) (w : World) :
    Calls Tryd.prog 74 #[.int .u8 (c : Int)] w fun e w' => e = .returned (.int .i64 (digVN c)) ∧ w' = w := by
  have hcc : c < 48 ∨ (48 ≤ c ∧ c ≤ 57) ∨ (57 < c ∧ c < 65) ∨ (65 ≤ c ∧ c ≤ 70) ∨ (70 < c ∧ c < 97) ∨ (97 ≤ c ∧ c ≤ 102) ∨ 102 < c := by omega
  rcases hcc with h | ⟨h, h'⟩ | ⟨h, h'⟩ | ⟨h, h'⟩ | ⟨h, h'⟩ | ⟨h, h'⟩ | h
  all_goals
    go_enter Tryd.func74, Tryd.ntmps74
    go_wp2
    go_ret
    exact ⟨ret_int (by unfold digVN; split; · omega
                       split; · omega
                       split <;> omega), rfl⟩

/-- Is this byte among the marks from place k on? -/
def marksFrom (k : Nat) (c : UInt8) : Bool := (plainMarks.drop k).contains c

theorem mark_byte (k : Nat) (h : k < 20) (h' : k < (ByteArray.mk #[45, 95, 46, 33, 126, 42, 39, 40, 41, 59, 47, 63, 58, 64, 61, 43, 36, 44, 35, 37]).size) (c : UInt8) :
    marksFrom k c = (c == (ByteArray.mk #[45, 95, 46, 33, 126, 42, 39, 40, 41, 59, 47, 63, 58, 64, 61, 43, 36, 44, 35, 37])[k] || marksFrom (k + 1) c) := by
  unfold marksFrom
  have e := drop_byte (ByteArray.mk #[45, 95, 46, 33, 126, 42, 39, 40, 41, 59, 47, 63, 58, 64, 61, 43, 36, 44, 35, 37]) k h'
  have e2 : (ByteArray.mk #[45, 95, 46, 33, 126, 42, 39, 40, 41, 59, 47, 63, 58, 64, 61, 43, 36, 44, 35, 37]).data.toList = plainMarks := rfl
  rw [e2] at e
  rw [e, List.contains_cons]

end Go.Proofs.YtadghfgjdfgopaaDoor.esc

/- The document's Put: a character's bytes; what its names stand for. -/
namespace Go.Proofs.YtadghfgjdfgopaaDoor.esc
open Go.RowKit

set_option maxHeartbeats 1000000 in
set_option maxRecDepth 100000 in
theorem put_one (r : Int) (h0 : 0 ≤ r) (h1 : r ≤ 127) (l : List UInt8) (hl : l.length = 1) (hC : #[.int .u8 (r)] = (Lib.byteCells l).toArray) (w : World) :
    Calls Tryd.prog 54 #[.int .i64 r] w fun e w' => e = .returned (.string ⟨l.toArray⟩) ∧ Below w.heap.size w w' := by
  have hc := conv_lit w l #[.int .u8 (r)] 1 hl hC
  clear hC hl
  go_enter Tryd.func54, Tryd.ntmps54
  go_wp2
  go_ret
  exact ⟨rfl, (Below.refl _ _).alloc (Nat.le_refl _) _⟩

set_option maxHeartbeats 1000000 in
set_option maxRecDepth 100000 in
theorem put_two (r : Int) (h0 : 128 ≤ r) (h1 : r ≤ 2047) (l : List UInt8) (hl : l.length = 2) (hC : #[.int .u8 (192 + r / 64), .int .u8 (128 + r % 64)] = (Lib.byteCells l).toArray) (w : World) :
    Calls Tryd.prog 54 #[.int .i64 r] w fun e w' => e = .returned (.string ⟨l.toArray⟩) ∧ Below w.heap.size w w' := by
  have hc := conv_lit w l #[.int .u8 (192 + r / 64), .int .u8 (128 + r % 64)] 2 hl hC
  clear hC hl
  go_enter Tryd.func54, Tryd.ntmps54
  go_wp2
  go_ret
  exact ⟨rfl, (Below.refl _ _).alloc (Nat.le_refl _) _⟩

set_option maxHeartbeats 1000000 in
set_option maxRecDepth 100000 in
theorem put_three (r : Int) (h0 : 2048 ≤ r) (h1 : r ≤ 65535) (l : List UInt8) (hl : l.length = 3) (hC : #[.int .u8 (224 + r / 4096), .int .u8 (128 + r / 64 % 64), .int .u8 (128 + r % 64)] = (Lib.byteCells l).toArray) (w : World) :
    Calls Tryd.prog 54 #[.int .i64 r] w fun e w' => e = .returned (.string ⟨l.toArray⟩) ∧ Below w.heap.size w w' := by
  have hc := conv_lit w l #[.int .u8 (224 + r / 4096), .int .u8 (128 + r / 64 % 64), .int .u8 (128 + r % 64)] 3 hl hC
  clear hC hl
  go_enter Tryd.func54, Tryd.ntmps54
  go_wp2
  go_ret
  exact ⟨rfl, (Below.refl _ _).alloc (Nat.le_refl _) _⟩

set_option maxHeartbeats 1000000 in
set_option maxRecDepth 100000 in
theorem put_four (r : Int) (h0 : 65536 ≤ r) (h1 : r ≤ 1114111) (l : List UInt8) (hl : l.length = 4) (hC : #[.int .u8 (240 + r / 262144), .int .u8 (128 + r / 4096 % 64), .int .u8 (128 + r / 64 % 64), .int .u8 (128 + r % 64)] = (Lib.byteCells l).toArray) (w : World) :
    Calls Tryd.prog 54 #[.int .i64 r] w fun e w' => e = .returned (.string ⟨l.toArray⟩) ∧ Below w.heap.size w w' := by
  have hc := conv_lit w l #[.int .u8 (240 + r / 262144), .int .u8 (128 + r / 4096 % 64), .int .u8 (128 + r / 64 % 64), .int .u8 (128 + r % 64)] 4 hl hC
  clear hC hl
  go_enter Tryd.func54, Tryd.ntmps54
  go_wp2
  go_ret
  exact ⟨rfl, (Below.refl _ _).alloc (Nat.le_refl _) _⟩

theorem put_any (r : Nat) (hr : Ok r) (w : World) :
    Calls Tryd.prog 54 #[.int .i64 (r : Int)] w fun e w' => e = .returned (.string ⟨(enc r).toArray⟩) ∧ Below w.heap.size w w' := by
  have ec := enc_cells r
  have el : (enc r).length = (Lib.runeCells (r : Int)).length := by rw [ec, Lib.byteCells_length]
  by_cases c1 : r ≤ 127
  · have e : Lib.runeCells (r : Int) = [.int .u8 (r : Int)] := by simp [Lib.runeCells, Lib.encodeRuneZ_one (r := (r : Int)) (by omega) (by omega)]
    exact put_one r (by omega) (by omega) (enc r) (by rw [el, e]; rfl) (by rw [← ec, e]) w
  by_cases c2 : r ≤ 2047
  · have e : Lib.runeCells (r : Int) = [.int .u8 (192 + (r : Int) / 64), .int .u8 (128 + (r : Int) % 64)] := by simp [Lib.runeCells, Lib.encodeRuneZ_two (r := (r : Int)) (by omega) (by omega)]
    exact put_two r (by omega) (by omega) (enc r) (by rw [el, e]; rfl) (by rw [← ec, e]) w
  by_cases c3 : r ≤ 65535
  · have e : Lib.runeCells (r : Int) = [.int .u8 (224 + (r : Int) / 4096), .int .u8 (128 + (r : Int) / 64 % 64), .int .u8 (128 + (r : Int) % 64)] := by simp [Lib.runeCells, Lib.encodeRuneZ_three (r := (r : Int)) (by omega)]
    exact put_three r (by omega) (by omega) (enc r) (by rw [el, e]; rfl) (by rw [← ec, e]) w
  · have e : Lib.runeCells (r : Int) = [.int .u8 (240 + (r : Int) / 262144), .int .u8 (128 + (r : Int) / 4096 % 64), .int .u8 (128 + (r : Int) / 64 % 64), .int .u8 (128 + (r : Int) % 64)] := by simp [Lib.runeCells, Lib.encodeRuneZ_four (r := (r : Int)) (by omega) (by omega)]
    exact put_four r (by omega) (by omega) (enc r) (by rw [el, e]; rfl) (by rw [← ec, e]) w

theorem put_int (x : Int) (h0 : 0 ≤ x) (hr : x < 55296 ∨ (57343 < x ∧ x ≤ 1114111)) (w : World) :
    Calls Tryd.prog 54 #[.int .i64 x] w fun e w' => e = .returned (.string ⟨(enc x.toNat).toArray⟩) ∧ Below w.heap.size w w' := by
  have h := put_any x.toNat (by omega) w
  rwa [Int.toNat_of_nonneg h0] at h

set_option maxHeartbeats 1000000 in
set_option maxRecDepth 100000 in
theorem refnamed_ngE (w : World) :
    Calls Tryd.prog 61 #[.string ⟨#[110, 103, 69]⟩] w fun e w' => e = .returned (.string ⟨(nameT [110, 103, 69]).toArray⟩) ∧ Below w.heap.size w w' := by
  have p1 : ∀ w, Calls Tryd.prog 54 #[.int .i64 8807] w fun e w' => e = .returned (.string ⟨#[226, 137, 167]⟩) ∧ Below w.heap.size w w' := fun w => put_int 8807 (by decide) (by decide) w
  have p2 : ∀ w, Calls Tryd.prog 54 #[.int .i64 824] w fun e w' => e = .returned (.string ⟨#[204, 184]⟩) ∧ Below w.heap.size w w' := fun w => put_int 824 (by decide) (by decide) w
  go_enter Tryd.func61, Tryd.ntmps61
  go_wp2_with (go_at_call 54; refine (p1 _).mono ?_)
  rintro e w1 ⟨rfl, hb1⟩
  go_wp2_with (go_at_call 54; refine (p2 _).mono ?_)
  rintro e w2 ⟨rfl, hb2⟩
  go_wp2
  go_ret
  exact ⟨by kernel_rfl, hb1.trans (hb2.mono hb1.size)⟩

set_option maxHeartbeats 1000000 in
set_option maxRecDepth 100000 in
theorem refnamed_nvlt (w : World) :
    Calls Tryd.prog 61 #[.string ⟨#[110, 118, 108, 116]⟩] w fun e w' => e = .returned (.string ⟨(nameT [110, 118, 108, 116]).toArray⟩) ∧ Below w.heap.size w w' := by
  have p1 : ∀ w, Calls Tryd.prog 54 #[.int .i64 60] w fun e w' => e = .returned (.string ⟨#[60]⟩) ∧ Below w.heap.size w w' := fun w => put_int 60 (by decide) (by decide) w
  have p2 : ∀ w, Calls Tryd.prog 54 #[.int .i64 8402] w fun e w' => e = .returned (.string ⟨#[226, 131, 146]⟩) ∧ Below w.heap.size w w' := fun w => put_int 8402 (by decide) (by decide) w
  go_enter Tryd.func61, Tryd.ntmps61
  go_wp2_with (go_at_call 54; refine (p1 _).mono ?_)
  rintro e w1 ⟨rfl, hb1⟩
  go_wp2_with (go_at_call 54; refine (p2 _).mono ?_)
  rintro e w2 ⟨rfl, hb2⟩
  go_wp2
  go_ret
  exact ⟨by kernel_rfl, hb1.trans (hb2.mono hb1.size)⟩

theorem ret_name {x : List UInt8} {y : List UInt8} {b : List UInt8} (h : (x == y) = true) (hb : nameT y = b) : Ending.returned (.string ⟨b.toArray⟩) = .returned (.string ⟨(nameT x).toArray⟩) := by
  rw [eq_of_beq h, hb]

set_option maxHeartbeats 8000000 in
set_option maxRecDepth 100000 in
theorem refnamed_rest (s : ByteArray) (n1 : (s.toList == [110, 103, 69]) = false) (n2 : (s.toList == [110, 118, 108, 116]) = false) (w : World) :
    Calls Tryd.prog 61 #[.string s] w fun e w' => e = .returned (.string ⟨(nameT s.toList).toArray⟩) ∧ Below w.heap.size w w' := by
  go_enter Tryd.func61, Tryd.ntmps61
  go_wp2_with (go_at_call 54; refine (put_int _ (by decide) (by decide) _).mono ?_; rintro e w' ⟨rfl, hb⟩)
  all_goals
    go_ret
    first
      | exact ⟨ret_name (by assumption) (by kernel_rfl), by assumption⟩
      | (refine ⟨ret_str ?_, Below.refl _ _⟩
         simp only [nameT, table, tSign, tLetter, tFar, tPair, List.cons_append, List.nil_append, List.lookup_cons, List.lookup_nil, Option.getD, *])

theorem refnamed_any (s : ByteArray) (w : World) :
    Calls Tryd.prog 61 #[.string s] w fun e w' => e = .returned (.string ⟨(nameT s.toList).toArray⟩) ∧ Below w.heap.size w w' := by
  by_cases h1 : s.toList = [110, 103, 69]
  · have hs : s = ⟨#[110, 103, 69]⟩ := by rw [← mk_data s, ← ByteArray.toList_eq, h1]
    rw [h1, hs]
    exact refnamed_ngE w
  by_cases h2 : s.toList = [110, 118, 108, 116]
  · have hs : s = ⟨#[110, 118, 108, 116]⟩ := by rw [← mk_data s, ← ByteArray.toList_eq, h2]
    rw [h2, hs]
    exact refnamed_nvlt w
  exact refnamed_rest s (by simpa using h1) (by simpa using h2) w

end Go.Proofs.YtadghfgjdfgopaaDoor.esc

/- The document's number. -/
namespace Go.Proofs.YtadghfgjdfgopaaDoor.esc
open Go.RowKit

set_option maxHeartbeats 4000000 in
set_option maxRecDepth 100000 in
theorem refnumber_10 (s : ByteArray) (hs : s.size ≤ 140737488355328) (v : List UInt8) (z : Nat) (HE : Hid (numE s.data.toList 2 10 7 = (v, z))) (w : World) (hst : 2 ≤ s.size) :
    Calls Tryd.prog 60 #[.string s, .int .i64 2, .int .i64 10, .int .i64 7] w fun e w' => e = .returned (.tuple #[.string ⟨v.toArray⟩, .int .i64 (z : Int)]) ∧ Below w.heap.size w w' := by
  obtain ⟨R, hR⟩ : ∃ R, Hid (readN 10 7 (s.data.toList.drop 2) 0 = R) := ⟨_, rfl⟩
  go_enter Tryd.func60, Tryd.ntmps60
  go_wp2
  go_loopw [10, 11] (fun x t wr => Hid (w = wr) ∧ ∃ (p n : Nat), 2 ≤ p ∧ p ≤ 2 + 7 ∧ p ≤ s.size ∧ t = .int .i64 (p : Int) ∧ x = .int .i64 (n : Int) ∧ Hid (n < 10 ^ (p - 2)) ∧ Hid (R = ((readN 10 (7 - (p - 2)) (s.data.toList.drop p) n).1 + (p - 2), (readN 10 (7 - (p - 2)) (s.data.toList.drop p) n).2))) (fun _ t _ => s.size - (intOf t).toNat)
  case atStart => exact ⟨rfl, 2, 0, by omega, by omega, by omega, rfl, rfl, (by show 0 < 1; omega), (by show _ = _; rw [← hR.out]; rfl)⟩
  case round =>
    obtain ⟨HW, p, n, hp0, hpm, hps, rfl, rfl, HN, HR⟩ := hrel
    have hnI : (n : Int) ≤ 16777215 := by
      have := HN.out
      have h2 : 10 ^ (p - 2) ≤ 10 ^ 7 := Nat.pow_le_pow_right (by omega) (by omega)
      have h3 : 10 ^ 7 ≤ 16777216 := by decide
      omega
    have hout : ∀ (hz : readN 10 (7 - (p - 2)) (s.data.toList.drop p) n = (0, n)), Hid ((v, z) = if p - 2 ≠ 0 ∧ s.data.toList[p]? = some 59 then (enc (charN n), p + 1) else ([], 0)) := by
      intro hz
      have h1 := HR.out
      rw [hz] at h1
      have h2 := numE_of (l := s.data.toList) (start := 2) (base := 10) (most := 7) (k := p - 2) (n := n) (by rw [hR.out, h1]; simp)
      rw [show 2 + (p - 2) = p by omega] at h2
      show _ = _
      rw [← HE.out]
      exact h2
    have hW := HW.out
    by_cases hlt : p < s.size
    · have hget : s.data.toList[p]? = some s[p] := get_byte s p hlt
      have hdrop : s.data.toList.drop p = s[p] :: s.data.toList.drop (p + 1) := drop_byte s p hlt
      have hd1 : decide ((p : Int) < (s.size : Int)) = true := by simp; omega
      have hnl : ((p : Int) == (s.size : Int)) = false := by simp; omega
      by_cases hm : p < 2 + 7
      · have hdv := refdigit_any s[p].toNat (by have := s[p].toNat_lt; omega)
        have hdv' : digVN s[p].toNat = digV s[p] := rfl
        rw [hdv'] at hdv
        obtain ⟨m, hm'⟩ : ∃ m, 7 - (p - 2) = m + 1 := ⟨7 - (p - 2) - 1, by omega⟩
        have hd2 : decide ((p : Int) - 2 < 7) = true := by simp; omega
        by_cases hdg : digV s[p] < 10
        · have hstep : readN 10 (7 - (p - 2)) (s.data.toList.drop p) n = ((readN 10 (7 - (p + 1 - 2)) (s.data.toList.drop (p + 1)) (n * 10 + digV s[p])).1 + 1, (readN 10 (7 - (p + 1 - 2)) (s.data.toList.drop (p + 1)) (n * 10 + digV s[p])).2) := by
            rw [hdrop, hm', show 7 - (p + 1 - 2) = m by omega]
            exact if_pos hdg
          have HR' : Hid (R = ((readN 10 (7 - (p + 1 - 2)) (s.data.toList.drop (p + 1)) (n * 10 + digV s[p])).1 + (p + 1 - 2), (readN 10 (7 - (p + 1 - 2)) (s.data.toList.drop (p + 1)) (n * 10 + digV s[p])).2)) := by
            show _ = _
            rw [HR.out, hstep]
            congr 1
            omega
          have HN' : Hid (n * 10 + digV s[p] < 10 ^ (p + 1 - 2)) := by
            show _ < _
            rw [show p + 1 - 2 = (p - 2) + 1 by omega, Nat.pow_succ]
            have := HN.out
            omega
          have hnk : (10 : Int) * (n : Int) + 10 ≤ 16777216 := by
            have h1 := HN.out
            have h2 : 10 ^ (p - 2 + 1) ≤ 10 ^ 7 := Nat.pow_le_pow_right (by omega) (by omega)
            have h3 : 10 ^ 7 ≤ 16777216 := by decide
            rw [Nat.pow_succ] at h2
            omega
          generalize digV s[p] = d at *
          have hge : decide ((10 : Int) ≤ (d : Int)) = false := by simp; omega
          clear hout hstep hdrop hget hdv' HR HN hR HE hm' hnI
          go_wp2_with (go_at_call 74; refine (hdv _).mono ?_; rintro e w' ⟨rfl, rfl⟩)
          go_roundw
          case rel => exact ⟨HW, p + 1, n * 10 + d, by omega, by omega, by omega, by go_num, by rw [Nat.mul_comm]; go_num, HN', HR'⟩
          case measure => simp [intOf]; omega
        · have hz : readN 10 (7 - (p - 2)) (s.data.toList.drop p) n = (0, n) := by
            rw [hdrop, hm']
            exact if_neg hdg
          have HO := hout hz
          rw [hget] at HO
          have hge : decide ((10 : Int) ≤ (digV s[p] : Int)) = true := by simp; omega
          generalize digV s[p] = d at *
          subst hW
          clear hout hz hdrop hget hdv' HR HN hR hm' HE HW hnI
          by_cases hk0 : p - 2 = 0
          · have hk1 : ((p : Int) == 2) = true := by simp; omega
            have HV : Hid ((v, z) = (([] : List UInt8), 0)) := by show _ = _; rw [HO.out, if_neg (by simp [hk0])]
            clear HO
            go_wp2_with (go_at_call 74; refine (hdv _).mono ?_; rintro e w' ⟨rfl, rfl⟩)
            go_ret2
            exact ⟨pair_none HV, Below.refl _ _⟩
          · have hk1 : ((p : Int) == 2) = false := by simp; omega
            by_cases h59 : s[p] = 59
            · have q59 : ((s[p].toNat : Int) != 59) = false := by rw [h59]; rfl
              have HV : Hid ((v, z) = (enc (charN n), p + 1)) := by show _ = _; rw [HO.out, h59, if_pos ⟨hk0, rfl⟩]
              clear HO h59
              have hcs : n = 0 ∨ (n ≠ 0 ∧ 55296 ≤ n ∧ n ≤ 57343) ∨ 1114111 < n ∨ (n ≠ 0 ∧ n < 55296) ∨ (57343 < n ∧ n ≤ 1114111) := by omega
              rcases hcs with hn0 | ⟨hn0, hn1, hn2⟩ | hn3 | ⟨hn0, hn1⟩ | ⟨hn2, hn3⟩
              · have hch : charN n = 65533 := by unfold charN; rw [if_pos (by omega)]
                rw [hch] at HV
                have e0 : ((n : Int) == 0) = true := by simp; omega
                have hput := put_int 65533 (by decide) (by decide)
                clear hch hn0
                go_wp2_with (first | (go_at_call 74; refine (hdv _).mono ?_; rintro e w' ⟨rfl, rfl⟩) | (go_at_call 54; refine (hput _).mono ?_))
                first | rintro e w3 rfl hb3 | rintro e w3 ⟨rfl, hb3⟩
                go_wp2
                go_ret2
                exact ⟨pair_some HV (by go_num), hb3⟩
              · have hch : charN n = 65533 := by unfold charN; rw [if_pos (by omega)]
                rw [hch] at HV
                have e0 : ((n : Int) == 0) = false := by simp; omega
                have e1 : decide ((55296 : Int) ≤ (n : Int)) = true := by simp; omega
                have e2 : decide ((n : Int) ≤ 57343) = true := by simp; omega
                have hput := put_int 65533 (by decide) (by decide)
                clear hch hn0 hn1 hn2
                go_wp2_with (first | (go_at_call 74; refine (hdv _).mono ?_; rintro e w' ⟨rfl, rfl⟩) | (go_at_call 54; refine (hput _).mono ?_))
                first | rintro e w3 rfl hb3 | rintro e w3 ⟨rfl, hb3⟩
                go_wp2
                go_ret2
                exact ⟨pair_some HV (by go_num), hb3⟩
              · have hch : charN n = 65533 := by unfold charN; rw [if_pos (by omega)]
                rw [hch] at HV
                have e0 : ((n : Int) == 0) = false := by simp; omega
                have e1 : decide ((55296 : Int) ≤ (n : Int)) = true := by simp; omega
                have e2 : decide ((n : Int) ≤ 57343) = false := by simp; omega
                have e3 : decide ((1114111 : Int) < (n : Int)) = true := by simp; omega
                have hput := put_int 65533 (by decide) (by decide)
                clear hch hn3
                go_wp2_with (first | (go_at_call 74; refine (hdv _).mono ?_; rintro e w' ⟨rfl, rfl⟩) | (go_at_call 54; refine (hput _).mono ?_))
                first | rintro e w3 rfl hb3 | rintro e w3 ⟨rfl, hb3⟩
                go_wp2
                go_ret2
                exact ⟨pair_some HV (by go_num), hb3⟩
              · have hch : charN n = n := by unfold charN; rw [if_neg (by omega)]
                rw [hch] at HV
                have e0 : ((n : Int) == 0) = false := by simp; omega
                have e1 : decide ((55296 : Int) ≤ (n : Int)) = false := by simp; omega
                have e3 : decide ((1114111 : Int) < (n : Int)) = false := by simp; omega
                have hput := put_any n (by omega)
                clear hch hn0 hn1
                go_wp2_with (first | (go_at_call 74; refine (hdv _).mono ?_; rintro e w' ⟨rfl, rfl⟩) | (go_at_call 54; refine (hput _).mono ?_))
                first | rintro e w3 rfl hb3 | rintro e w3 ⟨rfl, hb3⟩
                go_wp2
                go_ret2
                exact ⟨pair_some HV (by go_num), hb3⟩
              · have hch : charN n = n := by unfold charN; rw [if_neg (by omega)]
                rw [hch] at HV
                have e0 : ((n : Int) == 0) = false := by simp; omega
                have e1 : decide ((55296 : Int) ≤ (n : Int)) = true := by simp; omega
                have e2 : decide ((n : Int) ≤ 57343) = false := by simp; omega
                have e3 : decide ((1114111 : Int) < (n : Int)) = false := by simp; omega
                have hput := put_any n (by omega)
                clear hch hn2 hn3
                go_wp2_with (first | (go_at_call 74; refine (hdv _).mono ?_; rintro e w' ⟨rfl, rfl⟩) | (go_at_call 54; refine (hput _).mono ?_))
                first | rintro e w3 rfl hb3 | rintro e w3 ⟨rfl, hb3⟩
                go_wp2
                go_ret2
                exact ⟨pair_some HV (by go_num), hb3⟩
            · have HV : Hid ((v, z) = (([] : List UInt8), 0)) := by show _ = _; rw [HO.out, if_neg (by simp [h59])]
              have q59 : ((s[p].toNat : Int) != 59) = true := by rw [bne_iff_ne]; intro h; exact h59 (u8_eq (n := 59) (by omega))
              clear HO h59
              go_wp2_with (first | (go_at_call 74; refine (hdv _).mono ?_; rintro e w' ⟨rfl, rfl⟩))
              go_ret2
              exact ⟨pair_none HV, Below.refl _ _⟩
      · have hkm : p = 2 + 7 := by omega
        have HO := hout (by rw [show 7 - (p - 2) = 0 by omega]; rfl)
        rw [hget] at HO
        have hd2 : decide ((p : Int) - 2 < 7) = false := by simp; omega
        have hk0 : p - 2 ≠ 0 := by omega
        have hk1 : ((p : Int) == 2) = false := by simp; omega
        subst hW
        clear hout hdrop hget HR HN hR HE HW hnI hkm
        by_cases h59 : s[p] = 59
        · have q59 : ((s[p].toNat : Int) != 59) = false := by rw [h59]; rfl
          have HV : Hid ((v, z) = (enc (charN n), p + 1)) := by show _ = _; rw [HO.out, h59, if_pos ⟨hk0, rfl⟩]
          clear HO h59
          have hcs : n = 0 ∨ (n ≠ 0 ∧ 55296 ≤ n ∧ n ≤ 57343) ∨ 1114111 < n ∨ (n ≠ 0 ∧ n < 55296) ∨ (57343 < n ∧ n ≤ 1114111) := by omega
          rcases hcs with hn0 | ⟨hn0, hn1, hn2⟩ | hn3 | ⟨hn0, hn1⟩ | ⟨hn2, hn3⟩
          · have hch : charN n = 65533 := by unfold charN; rw [if_pos (by omega)]
            rw [hch] at HV
            have e0 : ((n : Int) == 0) = true := by simp; omega
            have hput := put_int 65533 (by decide) (by decide)
            clear hch hn0
            go_wp2_with (go_at_call 54; refine (hput _).mono ?_)
            first | rintro e w3 rfl hb3 | rintro e w3 ⟨rfl, hb3⟩
            go_wp2
            go_ret2
            exact ⟨pair_some HV (by go_num), hb3⟩
          · have hch : charN n = 65533 := by unfold charN; rw [if_pos (by omega)]
            rw [hch] at HV
            have e0 : ((n : Int) == 0) = false := by simp; omega
            have e1 : decide ((55296 : Int) ≤ (n : Int)) = true := by simp; omega
            have e2 : decide ((n : Int) ≤ 57343) = true := by simp; omega
            have hput := put_int 65533 (by decide) (by decide)
            clear hch hn0 hn1 hn2
            go_wp2_with (go_at_call 54; refine (hput _).mono ?_)
            first | rintro e w3 rfl hb3 | rintro e w3 ⟨rfl, hb3⟩
            go_wp2
            go_ret2
            exact ⟨pair_some HV (by go_num), hb3⟩
          · have hch : charN n = 65533 := by unfold charN; rw [if_pos (by omega)]
            rw [hch] at HV
            have e0 : ((n : Int) == 0) = false := by simp; omega
            have e1 : decide ((55296 : Int) ≤ (n : Int)) = true := by simp; omega
            have e2 : decide ((n : Int) ≤ 57343) = false := by simp; omega
            have e3 : decide ((1114111 : Int) < (n : Int)) = true := by simp; omega
            have hput := put_int 65533 (by decide) (by decide)
            clear hch hn3
            go_wp2_with (go_at_call 54; refine (hput _).mono ?_)
            first | rintro e w3 rfl hb3 | rintro e w3 ⟨rfl, hb3⟩
            go_wp2
            go_ret2
            exact ⟨pair_some HV (by go_num), hb3⟩
          · have hch : charN n = n := by unfold charN; rw [if_neg (by omega)]
            rw [hch] at HV
            have e0 : ((n : Int) == 0) = false := by simp; omega
            have e1 : decide ((55296 : Int) ≤ (n : Int)) = false := by simp; omega
            have e3 : decide ((1114111 : Int) < (n : Int)) = false := by simp; omega
            have hput := put_any n (by omega)
            clear hch hn0 hn1
            go_wp2_with (go_at_call 54; refine (hput _).mono ?_)
            first | rintro e w3 rfl hb3 | rintro e w3 ⟨rfl, hb3⟩
            go_wp2
            go_ret2
            exact ⟨pair_some HV (by go_num), hb3⟩
          · have hch : charN n = n := by unfold charN; rw [if_neg (by omega)]
            rw [hch] at HV
            have e0 : ((n : Int) == 0) = false := by simp; omega
            have e1 : decide ((55296 : Int) ≤ (n : Int)) = true := by simp; omega
            have e2 : decide ((n : Int) ≤ 57343) = false := by simp; omega
            have e3 : decide ((1114111 : Int) < (n : Int)) = false := by simp; omega
            have hput := put_any n (by omega)
            clear hch hn2 hn3
            go_wp2_with (go_at_call 54; refine (hput _).mono ?_)
            first | rintro e w3 rfl hb3 | rintro e w3 ⟨rfl, hb3⟩
            go_wp2
            go_ret2
            exact ⟨pair_some HV (by go_num), hb3⟩
        · have HV : Hid ((v, z) = (([] : List UInt8), 0)) := by show _ = _; rw [HO.out, if_neg (by simp [h59])]
          have q59 : ((s[p].toNat : Int) != 59) = true := by rw [bne_iff_ne]; intro h; exact h59 (u8_eq (n := 59) (by omega))
          clear HO h59
          go_wp2
          go_ret2
          exact ⟨pair_none HV, Below.refl _ _⟩
    · have hd1 : decide ((p : Int) < (s.size : Int)) = false := by simp; omega
      have hnl : ((p : Int) == (s.size : Int)) = true := by simp; omega
      have HO := hout (by rw [drop_past s _ (by omega), readN_nil])
      have HV : Hid ((v, z) = (([] : List UInt8), 0)) := by show _ = _; rw [HO.out, get_past s _ (by omega), if_neg (by simp)]
      subst hW
      clear hout HO HR HN hR HE HW
      by_cases hk0 : p = 2
      · have hk1 : ((p : Int) == 2) = true := by simp; omega
        go_wp2
        go_ret2
        exact ⟨pair_none HV, Below.refl _ _⟩
      · have hk1 : ((p : Int) == 2) = false := by simp; omega
        go_wp2
        go_ret2
        exact ⟨pair_none HV, Below.refl _ _⟩

set_option maxHeartbeats 4000000 in
set_option maxRecDepth 100000 in
theorem refnumber_16 (s : ByteArray) (hs : s.size ≤ 140737488355328) (v : List UInt8) (z : Nat) (HE : Hid (numE s.data.toList 3 16 6 = (v, z))) (w : World) (hst : 3 ≤ s.size) :
    Calls Tryd.prog 60 #[.string s, .int .i64 3, .int .i64 16, .int .i64 6] w fun e w' => e = .returned (.tuple #[.string ⟨v.toArray⟩, .int .i64 (z : Int)]) ∧ Below w.heap.size w w' := by
  obtain ⟨R, hR⟩ : ∃ R, Hid (readN 16 6 (s.data.toList.drop 3) 0 = R) := ⟨_, rfl⟩
  go_enter Tryd.func60, Tryd.ntmps60
  go_wp2
  go_loopw [10, 11] (fun x t wr => Hid (w = wr) ∧ ∃ (p n : Nat), 3 ≤ p ∧ p ≤ 3 + 6 ∧ p ≤ s.size ∧ t = .int .i64 (p : Int) ∧ x = .int .i64 (n : Int) ∧ Hid (n < 16 ^ (p - 3)) ∧ Hid (R = ((readN 16 (6 - (p - 3)) (s.data.toList.drop p) n).1 + (p - 3), (readN 16 (6 - (p - 3)) (s.data.toList.drop p) n).2))) (fun _ t _ => s.size - (intOf t).toNat)
  case atStart => exact ⟨rfl, 3, 0, by omega, by omega, by omega, rfl, rfl, (by show 0 < 1; omega), (by show _ = _; rw [← hR.out]; rfl)⟩
  case round =>
    obtain ⟨HW, p, n, hp0, hpm, hps, rfl, rfl, HN, HR⟩ := hrel
    have hnI : (n : Int) ≤ 16777215 := by
      have := HN.out
      have h2 : 16 ^ (p - 3) ≤ 16 ^ 6 := Nat.pow_le_pow_right (by omega) (by omega)
      have h3 : 16 ^ 6 ≤ 16777216 := by decide
      omega
    have hout : ∀ (hz : readN 16 (6 - (p - 3)) (s.data.toList.drop p) n = (0, n)), Hid ((v, z) = if p - 3 ≠ 0 ∧ s.data.toList[p]? = some 59 then (enc (charN n), p + 1) else ([], 0)) := by
      intro hz
      have h1 := HR.out
      rw [hz] at h1
      have h2 := numE_of (l := s.data.toList) (start := 3) (base := 16) (most := 6) (k := p - 3) (n := n) (by rw [hR.out, h1]; simp)
      rw [show 3 + (p - 3) = p by omega] at h2
      show _ = _
      rw [← HE.out]
      exact h2
    have hW := HW.out
    by_cases hlt : p < s.size
    · have hget : s.data.toList[p]? = some s[p] := get_byte s p hlt
      have hdrop : s.data.toList.drop p = s[p] :: s.data.toList.drop (p + 1) := drop_byte s p hlt
      have hd1 : decide ((p : Int) < (s.size : Int)) = true := by simp; omega
      have hnl : ((p : Int) == (s.size : Int)) = false := by simp; omega
      by_cases hm : p < 3 + 6
      · have hdv := refdigit_any s[p].toNat (by have := s[p].toNat_lt; omega)
        have hdv' : digVN s[p].toNat = digV s[p] := rfl
        rw [hdv'] at hdv
        obtain ⟨m, hm'⟩ : ∃ m, 6 - (p - 3) = m + 1 := ⟨6 - (p - 3) - 1, by omega⟩
        have hd2 : decide ((p : Int) - 3 < 6) = true := by simp; omega
        by_cases hdg : digV s[p] < 16
        · have hstep : readN 16 (6 - (p - 3)) (s.data.toList.drop p) n = ((readN 16 (6 - (p + 1 - 3)) (s.data.toList.drop (p + 1)) (n * 16 + digV s[p])).1 + 1, (readN 16 (6 - (p + 1 - 3)) (s.data.toList.drop (p + 1)) (n * 16 + digV s[p])).2) := by
            rw [hdrop, hm', show 6 - (p + 1 - 3) = m by omega]
            exact if_pos hdg
          have HR' : Hid (R = ((readN 16 (6 - (p + 1 - 3)) (s.data.toList.drop (p + 1)) (n * 16 + digV s[p])).1 + (p + 1 - 3), (readN 16 (6 - (p + 1 - 3)) (s.data.toList.drop (p + 1)) (n * 16 + digV s[p])).2)) := by
            show _ = _
            rw [HR.out, hstep]
            congr 1
            omega
          have HN' : Hid (n * 16 + digV s[p] < 16 ^ (p + 1 - 3)) := by
            show _ < _
            rw [show p + 1 - 3 = (p - 3) + 1 by omega, Nat.pow_succ]
            have := HN.out
            omega
          have hnk : (16 : Int) * (n : Int) + 16 ≤ 16777216 := by
            have h1 := HN.out
            have h2 : 16 ^ (p - 3 + 1) ≤ 16 ^ 6 := Nat.pow_le_pow_right (by omega) (by omega)
            have h3 : 16 ^ 6 ≤ 16777216 := by decide
            rw [Nat.pow_succ] at h2
            omega
          generalize digV s[p] = d at *
          have hge : decide ((16 : Int) ≤ (d : Int)) = false := by simp; omega
          clear hout hstep hdrop hget hdv' HR HN hR HE hm' hnI
          go_wp2_with (go_at_call 74; refine (hdv _).mono ?_; rintro e w' ⟨rfl, rfl⟩)
          go_roundw
          case rel => exact ⟨HW, p + 1, n * 16 + d, by omega, by omega, by omega, by go_num, by rw [Nat.mul_comm]; go_num, HN', HR'⟩
          case measure => simp [intOf]; omega
        · have hz : readN 16 (6 - (p - 3)) (s.data.toList.drop p) n = (0, n) := by
            rw [hdrop, hm']
            exact if_neg hdg
          have HO := hout hz
          rw [hget] at HO
          have hge : decide ((16 : Int) ≤ (digV s[p] : Int)) = true := by simp; omega
          generalize digV s[p] = d at *
          subst hW
          clear hout hz hdrop hget hdv' HR HN hR hm' HE HW hnI
          by_cases hk0 : p - 3 = 0
          · have hk1 : ((p : Int) == 3) = true := by simp; omega
            have HV : Hid ((v, z) = (([] : List UInt8), 0)) := by show _ = _; rw [HO.out, if_neg (by simp [hk0])]
            clear HO
            go_wp2_with (go_at_call 74; refine (hdv _).mono ?_; rintro e w' ⟨rfl, rfl⟩)
            go_ret2
            exact ⟨pair_none HV, Below.refl _ _⟩
          · have hk1 : ((p : Int) == 3) = false := by simp; omega
            by_cases h59 : s[p] = 59
            · have q59 : ((s[p].toNat : Int) != 59) = false := by rw [h59]; rfl
              have HV : Hid ((v, z) = (enc (charN n), p + 1)) := by show _ = _; rw [HO.out, h59, if_pos ⟨hk0, rfl⟩]
              clear HO h59
              have hcs : n = 0 ∨ (n ≠ 0 ∧ 55296 ≤ n ∧ n ≤ 57343) ∨ 1114111 < n ∨ (n ≠ 0 ∧ n < 55296) ∨ (57343 < n ∧ n ≤ 1114111) := by omega
              rcases hcs with hn0 | ⟨hn0, hn1, hn2⟩ | hn3 | ⟨hn0, hn1⟩ | ⟨hn2, hn3⟩
              · have hch : charN n = 65533 := by unfold charN; rw [if_pos (by omega)]
                rw [hch] at HV
                have e0 : ((n : Int) == 0) = true := by simp; omega
                have hput := put_int 65533 (by decide) (by decide)
                clear hch hn0
                go_wp2_with (first | (go_at_call 74; refine (hdv _).mono ?_; rintro e w' ⟨rfl, rfl⟩) | (go_at_call 54; refine (hput _).mono ?_))
                first | rintro e w3 rfl hb3 | rintro e w3 ⟨rfl, hb3⟩
                go_wp2
                go_ret2
                exact ⟨pair_some HV (by go_num), hb3⟩
              · have hch : charN n = 65533 := by unfold charN; rw [if_pos (by omega)]
                rw [hch] at HV
                have e0 : ((n : Int) == 0) = false := by simp; omega
                have e1 : decide ((55296 : Int) ≤ (n : Int)) = true := by simp; omega
                have e2 : decide ((n : Int) ≤ 57343) = true := by simp; omega
                have hput := put_int 65533 (by decide) (by decide)
                clear hch hn0 hn1 hn2
                go_wp2_with (first | (go_at_call 74; refine (hdv _).mono ?_; rintro e w' ⟨rfl, rfl⟩) | (go_at_call 54; refine (hput _).mono ?_))
                first | rintro e w3 rfl hb3 | rintro e w3 ⟨rfl, hb3⟩
                go_wp2
                go_ret2
                exact ⟨pair_some HV (by go_num), hb3⟩
              · have hch : charN n = 65533 := by unfold charN; rw [if_pos (by omega)]
                rw [hch] at HV
                have e0 : ((n : Int) == 0) = false := by simp; omega
                have e1 : decide ((55296 : Int) ≤ (n : Int)) = true := by simp; omega
                have e2 : decide ((n : Int) ≤ 57343) = false := by simp; omega
                have e3 : decide ((1114111 : Int) < (n : Int)) = true := by simp; omega
                have hput := put_int 65533 (by decide) (by decide)
                clear hch hn3
                go_wp2_with (first | (go_at_call 74; refine (hdv _).mono ?_; rintro e w' ⟨rfl, rfl⟩) | (go_at_call 54; refine (hput _).mono ?_))
                first | rintro e w3 rfl hb3 | rintro e w3 ⟨rfl, hb3⟩
                go_wp2
                go_ret2
                exact ⟨pair_some HV (by go_num), hb3⟩
              · have hch : charN n = n := by unfold charN; rw [if_neg (by omega)]
                rw [hch] at HV
                have e0 : ((n : Int) == 0) = false := by simp; omega
                have e1 : decide ((55296 : Int) ≤ (n : Int)) = false := by simp; omega
                have e3 : decide ((1114111 : Int) < (n : Int)) = false := by simp; omega
                have hput := put_any n (by omega)
                clear hch hn0 hn1
                go_wp2_with (first | (go_at_call 74; refine (hdv _).mono ?_; rintro e w' ⟨rfl, rfl⟩) | (go_at_call 54; refine (hput _).mono ?_))
                first | rintro e w3 rfl hb3 | rintro e w3 ⟨rfl, hb3⟩
                go_wp2
                go_ret2
                exact ⟨pair_some HV (by go_num), hb3⟩
              · have hch : charN n = n := by unfold charN; rw [if_neg (by omega)]
                rw [hch] at HV
                have e0 : ((n : Int) == 0) = false := by simp; omega
                have e1 : decide ((55296 : Int) ≤ (n : Int)) = true := by simp; omega
                have e2 : decide ((n : Int) ≤ 57343) = false := by simp; omega
                have e3 : decide ((1114111 : Int) < (n : Int)) = false := by simp; omega
                have hput := put_any n (by omega)
                clear hch hn2 hn3
                go_wp2_with (first | (go_at_call 74; refine (hdv _).mono ?_; rintro e w' ⟨rfl, rfl⟩) | (go_at_call 54; refine (hput _).mono ?_))
                first | rintro e w3 rfl hb3 | rintro e w3 ⟨rfl, hb3⟩
                go_wp2
                go_ret2
                exact ⟨pair_some HV (by go_num), hb3⟩
            · have HV : Hid ((v, z) = (([] : List UInt8), 0)) := by show _ = _; rw [HO.out, if_neg (by simp [h59])]
              have q59 : ((s[p].toNat : Int) != 59) = true := by rw [bne_iff_ne]; intro h; exact h59 (u8_eq (n := 59) (by omega))
              clear HO h59
              go_wp2_with (first | (go_at_call 74; refine (hdv _).mono ?_; rintro e w' ⟨rfl, rfl⟩))
              go_ret2
              exact ⟨pair_none HV, Below.refl _ _⟩
      · have hkm : p = 3 + 6 := by omega
        have HO := hout (by rw [show 6 - (p - 3) = 0 by omega]; rfl)
        rw [hget] at HO
        have hd2 : decide ((p : Int) - 3 < 6) = false := by simp; omega
        have hk0 : p - 3 ≠ 0 := by omega
        have hk1 : ((p : Int) == 3) = false := by simp; omega
        subst hW
        clear hout hdrop hget HR HN hR HE HW hnI hkm
        by_cases h59 : s[p] = 59
        · have q59 : ((s[p].toNat : Int) != 59) = false := by rw [h59]; rfl
          have HV : Hid ((v, z) = (enc (charN n), p + 1)) := by show _ = _; rw [HO.out, h59, if_pos ⟨hk0, rfl⟩]
          clear HO h59
          have hcs : n = 0 ∨ (n ≠ 0 ∧ 55296 ≤ n ∧ n ≤ 57343) ∨ 1114111 < n ∨ (n ≠ 0 ∧ n < 55296) ∨ (57343 < n ∧ n ≤ 1114111) := by omega
          rcases hcs with hn0 | ⟨hn0, hn1, hn2⟩ | hn3 | ⟨hn0, hn1⟩ | ⟨hn2, hn3⟩
          · have hch : charN n = 65533 := by unfold charN; rw [if_pos (by omega)]
            rw [hch] at HV
            have e0 : ((n : Int) == 0) = true := by simp; omega
            have hput := put_int 65533 (by decide) (by decide)
            clear hch hn0
            go_wp2_with (go_at_call 54; refine (hput _).mono ?_)
            first | rintro e w3 rfl hb3 | rintro e w3 ⟨rfl, hb3⟩
            go_wp2
            go_ret2
            exact ⟨pair_some HV (by go_num), hb3⟩
          · have hch : charN n = 65533 := by unfold charN; rw [if_pos (by omega)]
            rw [hch] at HV
            have e0 : ((n : Int) == 0) = false := by simp; omega
            have e1 : decide ((55296 : Int) ≤ (n : Int)) = true := by simp; omega
            have e2 : decide ((n : Int) ≤ 57343) = true := by simp; omega
            have hput := put_int 65533 (by decide) (by decide)
            clear hch hn0 hn1 hn2
            go_wp2_with (go_at_call 54; refine (hput _).mono ?_)
            first | rintro e w3 rfl hb3 | rintro e w3 ⟨rfl, hb3⟩
            go_wp2
            go_ret2
            exact ⟨pair_some HV (by go_num), hb3⟩
          · have hch : charN n = 65533 := by unfold charN; rw [if_pos (by omega)]
            rw [hch] at HV
            have e0 : ((n : Int) == 0) = false := by simp; omega
            have e1 : decide ((55296 : Int) ≤ (n : Int)) = true := by simp; omega
            have e2 : decide ((n : Int) ≤ 57343) = false := by simp; omega
            have e3 : decide ((1114111 : Int) < (n : Int)) = true := by simp; omega
            have hput := put_int 65533 (by decide) (by decide)
            clear hch hn3
            go_wp2_with (go_at_call 54; refine (hput _).mono ?_)
            first | rintro e w3 rfl hb3 | rintro e w3 ⟨rfl, hb3⟩
            go_wp2
            go_ret2
            exact ⟨pair_some HV (by go_num), hb3⟩
          · have hch : charN n = n := by unfold charN; rw [if_neg (by omega)]
            rw [hch] at HV
            have e0 : ((n : Int) == 0) = false := by simp; omega
            have e1 : decide ((55296 : Int) ≤ (n : Int)) = false := by simp; omega
            have e3 : decide ((1114111 : Int) < (n : Int)) = false := by simp; omega
            have hput := put_any n (by omega)
            clear hch hn0 hn1
            go_wp2_with (go_at_call 54; refine (hput _).mono ?_)
            first | rintro e w3 rfl hb3 | rintro e w3 ⟨rfl, hb3⟩
            go_wp2
            go_ret2
            exact ⟨pair_some HV (by go_num), hb3⟩
          · have hch : charN n = n := by unfold charN; rw [if_neg (by omega)]
            rw [hch] at HV
            have e0 : ((n : Int) == 0) = false := by simp; omega
            have e1 : decide ((55296 : Int) ≤ (n : Int)) = true := by simp; omega
            have e2 : decide ((n : Int) ≤ 57343) = false := by simp; omega
            have e3 : decide ((1114111 : Int) < (n : Int)) = false := by simp; omega
            have hput := put_any n (by omega)
            clear hch hn2 hn3
            go_wp2_with (go_at_call 54; refine (hput _).mono ?_)
            first | rintro e w3 rfl hb3 | rintro e w3 ⟨rfl, hb3⟩
            go_wp2
            go_ret2
            exact ⟨pair_some HV (by go_num), hb3⟩
        · have HV : Hid ((v, z) = (([] : List UInt8), 0)) := by show _ = _; rw [HO.out, if_neg (by simp [h59])]
          have q59 : ((s[p].toNat : Int) != 59) = true := by rw [bne_iff_ne]; intro h; exact h59 (u8_eq (n := 59) (by omega))
          clear HO h59
          go_wp2
          go_ret2
          exact ⟨pair_none HV, Below.refl _ _⟩
    · have hd1 : decide ((p : Int) < (s.size : Int)) = false := by simp; omega
      have hnl : ((p : Int) == (s.size : Int)) = true := by simp; omega
      have HO := hout (by rw [drop_past s _ (by omega), readN_nil])
      have HV : Hid ((v, z) = (([] : List UInt8), 0)) := by show _ = _; rw [HO.out, get_past s _ (by omega), if_neg (by simp)]
      subst hW
      clear hout HO HR HN hR HE HW
      by_cases hk0 : p = 3
      · have hk1 : ((p : Int) == 3) = true := by simp; omega
        go_wp2
        go_ret2
        exact ⟨pair_none HV, Below.refl _ _⟩
      · have hk1 : ((p : Int) == 3) = false := by simp; omega
        go_wp2
        go_ret2
        exact ⟨pair_none HV, Below.refl _ _⟩

end Go.Proofs.YtadghfgjdfgopaaDoor.esc

/- Plain mathematics: a name read up to its semicolon is the name read by its letters and digits. -/
namespace Go.Proofs.YtadghfgjdfgopaaDoor.esc

def noSemi (c : UInt8) : Bool := !(c == 59)
/-- As the document reads a name: up to a semicolon, at most nineteen bytes. -/
def nameR (l : List UInt8) : List UInt8 × Nat :=
  if l[1 + (((l.drop 1).take 19).takeWhile noSemi).length]? = some 59 ∧ nameT (((l.drop 1).take 19).takeWhile noSemi) ≠ [] then (nameT (((l.drop 1).take 19).takeWhile noSemi), 1 + (((l.drop 1).take 19).takeWhile noSemi).length + 1) else ([], 0)

theorem table_names : ∀ q ∈ table, q.1.all alnum = true ∧ q.1.length ≤ 13 := by decide

theorem nameT_name (x : List UInt8) (h : nameT x ≠ []) : (∀ c ∈ x, alnum c = true) ∧ x.length ≤ 13 := by
  unfold nameT at h
  cases hl : table.lookup x with
  | none => rw [hl] at h; exact absurd rfl h
  | some v =>
    have := table_names (x, v) (lookup_mem table x v hl)
    exact ⟨List.all_eq_true.1 this.1, this.2⟩

theorem tw_of {m x r : List UInt8} {p : UInt8 → Bool} (h : m = x ++ 59 :: r) (hx : ∀ c ∈ x, p c = true) (h59 : p 59 = false) : m.takeWhile p = x := by
  subst h
  rw [List.takeWhile_append_of_pos hx, List.takeWhile_cons, h59]
  simp

theorem split_of {m : List UInt8} {k : Nat} (h : m[k]? = some 59) : m = m.take k ++ 59 :: m.drop (k + 1) := by
  obtain ⟨hk, he⟩ := List.getElem?_eq_some_iff.1 h
  have : m.drop k = 59 :: m.drop (k + 1) := by rw [List.drop_eq_getElem_cons hk, he]
  rw [← this, List.take_append_drop]

theorem get_drop1 (l : List UInt8) (k : Nat) : l[1 + k]? = (l.drop 1)[k]? := by rw [List.getElem?_drop]

theorem nameR_eq (l : List UInt8) : nameR l = nameE l := by
  unfold nameR nameE
  generalize hm : l.drop 1 = m
  have hg : ∀ k, l[1 + k]? = m[k]? := fun k => by rw [get_drop1, hm]
  simp only [hg]
  by_cases c1 : m[((m.take 19).takeWhile noSemi).length]? = some 59 ∧ nameT ((m.take 19).takeWhile noSemi) ≠ []
  · have hx : (m.take 19).takeWhile noSemi = m.take ((m.take 19).takeWhile noSemi).length := by
      have h1 := take_take noSemi (m.take 19)
      rw [List.take_take] at h1
      have h2 : ((m.take 19).takeWhile noSemi).length ≤ 19 := by
        have := (List.takeWhile_prefix (l := m.take 19) noSemi).length_le
        rw [List.length_take] at this
        omega
      rw [Nat.min_eq_left h2] at h1
      exact h1.symm
    have hs := split_of c1.1
    rw [← hx] at hs
    have hy : m.takeWhile alnum = (m.take 19).takeWhile noSemi := by
      have := tw_of (p := alnum) hs (nameT_name _ c1.2).1 (by decide)
      exact this
    rw [if_pos c1, if_pos (by rw [hy]; exact c1), hy]
  · rw [if_neg c1, if_neg]
    intro c2
    apply c1
    have hs := split_of c2.1
    have hy : m.take (m.takeWhile alnum).length = m.takeWhile alnum := take_take alnum m
    rw [hy] at hs
    have hn := nameT_name _ c2.2
    generalize hyy : m.takeWhile alnum = y at *
    have hns : ∀ c ∈ y, noSemi c = true := by
      intro c hc
      have := hn.1 c hc
      unfold noSemi
      by_cases e : c = 59
      · subst e; exact absurd this (by decide)
      · simp [e]
    have hx : (m.take 19).takeWhile noSemi = y := by
      refine tw_of (r := (m.drop (y.length + 1)).take (18 - y.length)) ?_ hns (by decide)
      rw [hs, List.take_append, List.take_of_length_le (by omega)]
      rw [show 19 - y.length = (18 - y.length) + 1 by omega, List.take_succ_cons]
      congr 3
      rw [← hs]
    rw [hx]
    exact c2

/-- Where the document stops to read a name. -/
theorem twR_of {m : List UInt8} {k : Nat} (h : ∀ c ∈ m.take k, noSemi c = true) (hk : k ≤ 19) (he : m.length ≤ k ∨ k = 19 ∨ m[k]? = some 59) : (m.take 19).takeWhile noSemi = m.take k := by
  have h1 : m.take 19 = m.take k ++ (m.drop k).take (19 - k) := by
    rw [← List.take_append_drop k m, List.take_append, List.take_take]
    rw [List.take_append_drop]
    by_cases hl : m.length ≤ k
    · simp [List.drop_eq_nil_of_le hl, List.take_of_length_le hl, Nat.min_eq_right hk]
    · rw [Nat.min_eq_right hk, List.length_take, Nat.min_eq_left (by omega)]
  rw [h1, List.takeWhile_append_of_pos h]
  have : ((m.drop k).take (19 - k)).takeWhile noSemi = [] := by
    rcases he with he | he | he
    · rw [List.drop_eq_nil_of_le he]; simp
    · subst he; simp
    · obtain ⟨hk2, he2⟩ := List.getElem?_eq_some_iff.1 he
      rw [List.drop_eq_getElem_cons hk2, he2]
      cases 19 - k with
      | zero => simp
      | succ j => rw [List.take_succ_cons, List.takeWhile_cons]; simp [noSemi]
  rw [this, List.append_nil]

theorem nameR_of {l : List UInt8} {p : Nat} (h1 : 1 ≤ p) (hx : ((l.drop 1).take 19).takeWhile noSemi = (l.drop 1).take (p - 1)) (hp : p ≤ l.length) :
    nameE l = if l[p]? = some 59 ∧ nameT ((l.drop 1).take (p - 1)) ≠ [] then (nameT ((l.drop 1).take (p - 1)), p + 1) else ([], 0) := by
  have hl : ((l.drop 1).take (p - 1)).length = p - 1 := by rw [List.length_take, List.length_drop]; omega
  rw [← nameR_eq, nameR, hx, hl, show 1 + (p - 1) = p by omega]

end Go.Proofs.YtadghfgjdfgopaaDoor.esc

/- The document's Entity. -/
namespace Go.Proofs.YtadghfgjdfgopaaDoor.esc
open Go.RowKit

theorem pair_w {v : List UInt8} {z : Nat} {w w1 : World} {e : Ending} (h : e = .returned (.tuple #[.string ⟨v.toArray⟩, .int .i64 (z : Int)]) ∧ Below w.heap.size w w1) : e = .returned (.tuple #[.string ⟨v.toArray⟩, .int .i64 (z : Int)]) ∧ Below w.heap.size w w1 := h

theorem name_take (s : ByteArray) (p : Nat) : (s.extract 1 p).toList = (s.data.toList.drop 1).take (p - 1) := by
  rw [extract_eq, ByteArray.toList_eq]

theorem take_more {s : ByteArray} {p : Nat} (h1 : 1 ≤ p) (hp : p < s.size) (h : ∀ c ∈ (s.data.toList.drop 1).take (p - 1), noSemi c = true) (hc : s[p] ≠ 59) : ∀ c ∈ (s.data.toList.drop 1).take (p + 1 - 1), noSemi c = true := by
  intro c hcm
  rw [show p + 1 - 1 = (p - 1) + 1 by omega, List.take_add_one, ← get_drop1, show 1 + (p - 1) = p by omega, get_byte s p hp] at hcm
  simp only [Option.toList_some, List.mem_append, List.mem_singleton] at hcm
  rcases hcm with hcm | rfl
  · exact h c hcm
  · simp [noSemi, hc]

set_option maxHeartbeats 4000000 in
set_option maxRecDepth 100000 in
theorem refentity_call (s : ByteArray) (hs : s.size ≤ 140737488355328) (v : List UInt8) (z : Nat) (HE : Hid (entity s.data.toList = (v, z))) (w : World) :
    Calls Tryd.prog 46 #[.string s] w fun e w' => e = .returned (.tuple #[.string ⟨v.toArray⟩, .int .i64 (z : Int)]) ∧ Below w.heap.size w w' := by
  by_cases h3 : s.size < 3
  · have HV : Hid ((v, z) = (([] : List UInt8), 0)) := by
      show _ = _
      rw [← HE.out]
      have hl := entity_len s.data.toList
      have hg2 : s.data.toList[2]? = none := get_past s 2 (by omega)
      unfold entity
      split
      · split
        · rw [hg2, if_neg (by simp)]
          rw [numE_of (k := 0) (n := 0) (by rw [drop_past s 2 (by omega), readN_nil]), if_neg (by simp)]
        · by_cases h1 : s.size < 2
          · rw [nameE_of (p := 1) (by unfold stopN; rw [drop_past s 1 (by omega)]; rfl), get_past s 1 (by omega), if_neg (by simp)]
          · have g1 : s.data.toList[1]? = some s[1] := get_byte s 1 (by omega)
            have hd := drop_byte s 1 (by omega)
            rw [drop_past s (1 + 1) (by omega)] at hd
            cases ha : alnum s[1] with
            | true =>
              rw [nameE_of (p := 2) (by unfold stopN; rw [hd, List.takeWhile_cons, if_pos ha]; rfl), hg2, if_neg (by simp)]
            | false =>
              rw [nameE_of (p := 1) (by unfold stopN; rw [hd, List.takeWhile_cons, if_neg (by simp [ha])]; rfl), hd, List.takeWhile_cons, if_neg (show ¬ alnum s[1] = true by simp [ha])]
              rw [if_neg (by intro h; exact h.2 (by decide))]
      · rfl
    clear HE
    go_enter Tryd.func46, Tryd.ntmps46
    go_wp2
    go_ret2
    exact ⟨pair_none HV, Below.refl _ _⟩
  · have g0 : s.data.toList[0]? = some s[0] := get_byte s 0 (by omega)
    have g1 : s.data.toList[1]? = some s[1] := get_byte s 1 (by omega)
    have g2 : s.data.toList[2]? = some s[2] := get_byte s 2 (by omega)
    have hE := HE.out
    unfold entity at hE
    rw [g0, g1, g2] at hE
    clear g0 g1 g2
    by_cases h38 : s[0] = 38
    · have q38 : ((s[0].toNat : Int) != 38) = false := by rw [h38]; rfl
      rw [if_pos (by rw [h38])] at hE
      by_cases h35 : s[1] = 35
      · have q35 : ((s[1].toNat : Int) == 35) = true := by rw [h35]; rfl
        rw [if_pos (by rw [h35])] at hE
        clear h38 h35
        by_cases hx : s[2] = 120
        · have q1 : ((s[2].toNat : Int) == 120) = true := by rw [hx]; rfl
          rw [if_pos (by rw [hx]; exact .inl rfl)] at hE
          have hc := refnumber_16 s hs v z hE
          clear HE hE hx
          go_enter Tryd.func46, Tryd.ntmps46
          go_wp2_with (go_at_call 60; refine (hc _ (by omega)).mono ?_)
          first | rintro e w1 rfl hb1 | rintro e w1 ⟨rfl, hb1⟩
          go_wp2
          go_ret2
          exact ⟨rfl, hb1⟩
        · have q1 : ((s[2].toNat : Int) == 120) = false := by rw [beq_eq_false_iff_ne]; intro h; exact hx (u8_eq (n := 120) (by omega))
          by_cases hx2 : s[2] = 88
          · have q2 : ((s[2].toNat : Int) == 88) = true := by rw [hx2]; rfl
            rw [if_pos (by rw [hx2]; exact .inr rfl)] at hE
            have hc := refnumber_16 s hs v z hE
            clear HE hE hx hx2
            go_enter Tryd.func46, Tryd.ntmps46
            go_wp2_with (go_at_call 60; refine (hc _ (by omega)).mono ?_)
            first | rintro e w1 rfl hb1 | rintro e w1 ⟨rfl, hb1⟩
            go_wp2
            go_ret2
            exact ⟨rfl, hb1⟩
          · have q2 : ((s[2].toNat : Int) == 88) = false := by rw [beq_eq_false_iff_ne]; intro h; exact hx2 (u8_eq (n := 88) (by omega))
            rw [if_neg (by simp [hx, hx2])] at hE
            have hc := refnumber_10 s hs v z hE
            clear HE hE hx hx2
            go_enter Tryd.func46, Tryd.ntmps46
            go_wp2_with (go_at_call 60; refine (hc _ (by omega)).mono ?_)
            first | rintro e w1 rfl hb1 | rintro e w1 ⟨rfl, hb1⟩
            go_wp2
            go_ret2
            exact ⟨rfl, hb1⟩
      · have q35 : ((s[1].toNat : Int) == 35) = false := by rw [beq_eq_false_iff_ne]; intro h; exact h35 (u8_eq (n := 35) (by omega))
        rw [if_neg (by simp [h35])] at hE
        have HN : Hid (nameE s.data.toList = (v, z)) := hE
        clear HE hE h38 h35
        go_enter Tryd.func46, Tryd.ntmps46
        go_wp2
        go_loopw [4] (fun t wr => Hid (w = wr) ∧ ∃ (p : Nat), 1 ≤ p ∧ p ≤ 20 ∧ p ≤ s.size ∧ t = .int .i64 (p : Int) ∧ Hid (∀ c ∈ (s.data.toList.drop 1).take (p - 1), noSemi c = true)) (fun t _ => s.size - (intOf t).toNat)
        case atStart => exact ⟨rfl, 1, by omega, by omega, by omega, rfl, by intro c hc; simp at hc⟩
        case round =>
          obtain ⟨HW, p, hp1, hp20, hps, rfl, HS⟩ := hrel
          have hW := HW.out
          have hend : ((s.data.toList.drop 1).length ≤ p - 1 ∨ p - 1 = 19 ∨ (s.data.toList.drop 1)[p - 1]? = some 59) → Hid ((v, z) = if s.data.toList[p]? = some 59 ∧ nameT ((s.data.toList.drop 1).take (p - 1)) ≠ [] then (nameT ((s.data.toList.drop 1).take (p - 1)), p + 1) else ([], 0)) := by
            intro h
            show _ = _
            rw [← HN.out]
            exact nameR_of hp1 (twR_of HS.out (by omega) h) (by rw [len_data]; omega)
          by_cases hlt : p < s.size
          · have hd1 : decide ((p : Int) < (s.size : Int)) = true := by simp; omega
            have hnl : ((p : Int) == (s.size : Int)) = false := by simp; omega
            have hg := get_byte s p hlt
            by_cases h59 : s[p] = 59
            · have q59 : ((s[p].toNat : Int) != 59) = false := by rw [h59]; rfl
              have HV := hend (.inr (.inr (by rw [← get_drop1, show 1 + (p - 1) = p by omega, hg, h59])))
              rw [hg, h59] at HV
              have hcn := refnamed_any (s.extract 1 p)
              rw [name_take] at hcn
              have hemp := empty_mk (nameT ((s.data.toList.drop 1).take (p - 1)))
              generalize nameT ((s.data.toList.drop 1).take (p - 1)) = t at *
              subst hW
              clear HS HN hend hg h59 HW
              have hpc : p < 20 ∨ p = 20 := by omega
              by_cases ht : t = []
              · have HV' : Hid ((v, z) = (([] : List UInt8), 0)) := by show _ = _; rw [HV.out, if_neg (by simp [ht])]
                subst ht
                clear HV hemp
                rcases hpc with hpc | hpc
                all_goals
                  first | (have hd2 : decide ((p : Int) < 20) = true := by (simp; omega)) | (have hd2 : decide ((p : Int) < 20) = false := by (simp; omega))
                  clear hpc
                  go_wp2_with (go_at_call 61; refine (hcn _).mono ?_)
                  first | rintro e w1 rfl hb1 | rintro e w1 ⟨rfl, hb1⟩
                  go_wp2
                  go_ret2
                  exact ⟨pair_none HV', hb1⟩
              · have HV' : Hid ((v, z) = (t, p + 1)) := by show _ = _; rw [HV.out, if_pos ⟨rfl, ht⟩]
                have f1 : t.isEmpty = false := by simpa using ht
                rw [f1] at hemp
                clear HV ht
                rcases hpc with hpc | hpc
                all_goals
                  first | (have hd2 : decide ((p : Int) < 20) = true := by (simp; omega)) | (have hd2 : decide ((p : Int) < 20) = false := by (simp; omega))
                  clear hpc
                  go_wp2_with (go_at_call 61; refine (hcn _).mono ?_)
                  first | rintro e w1 rfl hb1 | rintro e w1 ⟨rfl, hb1⟩
                  go_wp2
                  go_ret2
                  exact ⟨pair_some HV' (by go_num), hb1⟩
            · have q59 : ((s[p].toNat : Int) != 59) = true := by rw [bne_iff_ne]; intro h; exact h59 (u8_eq (n := 59) (by omega))
              by_cases hp2 : p < 20
              · have hd2 : decide ((p : Int) < 20) = true := by simp; omega
                have HS' : Hid (∀ c ∈ (s.data.toList.drop 1).take (p + 1 - 1), noSemi c = true) := take_more hp1 hlt HS.out h59
                clear HS hend hg h59
                go_wp2
                go_roundw
                case rel => exact ⟨HW, p + 1, by omega, by omega, by omega, by go_num, HS'⟩
                case measure => simp [intOf]; omega
              · have hd2 : decide ((p : Int) < 20) = false := by simp; omega
                have HV := hend (.inr (.inl (by omega)))
                have HV' : Hid ((v, z) = (([] : List UInt8), 0)) := by show _ = _; rw [HV.out, hg, if_neg (by simp [h59])]
                subst hW
                clear HS hend hg h59 HV HW HN
                go_wp2
                go_ret2
                exact ⟨pair_none HV', Below.refl _ _⟩
          · have hd1 : decide ((p : Int) < (s.size : Int)) = false := by simp; omega
            have hnl : ((p : Int) == (s.size : Int)) = true := by simp; omega
            have HV := hend (.inl (by rw [List.length_drop, len_data]; omega))
            have HV' : Hid ((v, z) = (([] : List UInt8), 0)) := by show _ = _; rw [HV.out, get_past s p (by omega), if_neg (by simp)]
            subst hW
            clear HS hend HV HW HN
            go_wp2
            go_ret2
            exact ⟨pair_none HV', Below.refl _ _⟩
    · have q38 : ((s[0].toNat : Int) != 38) = true := by rw [bne_iff_ne]; intro h; exact h38 (u8_eq (n := 38) (by omega))
      rw [if_neg (by simp [h38])] at hE
      have HV : Hid ((v, z) = (([] : List UInt8), 0)) := hE.symm
      clear HE hE h38
      go_enter Tryd.func46, Tryd.ntmps46
      go_wp2
      go_ret2
      exact ⟨pair_none HV, Below.refl _ _⟩

end Go.Proofs.YtadghfgjdfgopaaDoor.esc

/- The document's Unescape, of any text. -/
namespace Go.Proofs.YtadghfgjdfgopaaDoor.esc
open Go.RowKit

set_option maxHeartbeats 4000000 in
set_option maxRecDepth 100000 in
theorem refunesc_any (s : ByteArray) (w : World) (hs : s.size ≤ 140737488351232) :
    Calls Tryd.prog 28 #[.string s] w fun e w' => e = .returned (.string ⟨(unesc s.data.toList).toArray⟩) ∧ Below w.heap.size w w' := by
  obtain ⟨i0, hi, hz0, hz1, hz2⟩ := info_parts info5
  go_enter Tryd.func28, Tryd.ntmps28
  go_wp2
  go_loopw [3, 4] (fun v t wr => ∃ (p : Nat) (acc : List UInt8), OwnB wr w.heap.size v acc ∧ t = .int .i64 (p : Int) ∧ p ≤ s.size ∧ Below w.heap.size w wr ∧ Hid (acc ++ unesc (s.data.toList.drop p) = unesc s.data.toList) ∧ acc.length ≤ p) (fun _ t _ => s.size - (intOf t).toNat)
  case atStart => exact ⟨0, [], World.ownsRow_nil _ _ _ _, rfl, by omega, Below.refl _ _, rfl, by simp⟩
  case round =>
    obtain ⟨p, acc, hown, rfl, hp, hbw, HA, hal⟩ := hrel
    have hsz := hbw.size
    by_cases hlt : p < s.size
    · by_cases hmk : s[p] = 92 ∧ ∃ h1 : p + 1 < s.size, markN s[p + 1].toNat = true
      · obtain ⟨h92, h1, hmk⟩ := hmk
        have HA' : Hid ((acc ++ [s[p + 1]]) ++ unesc (s.data.toList.drop (p + 2)) = unesc s.data.toList) := by
          show _ = _
          rw [List.append_assoc, ← HA.out, unesc_two s p h1 h92 hmk]
          rfl
        have q92 : ((s[p].toNat : Int) == 92) = true := by rw [h92]; rfl
        have cm := refmark_any s[p + 1].toNat
        have hc0 : 0 ≤ (s[p + 1].toNat : Int) := by omega
        have hc1 : (s[p + 1].toNat : Int) ≤ 255 := by have := s[p + 1].toNat_lt; omega
        rw [hmk] at cm
        clear HA h92 hmk
        go_wp2_with (first | (go_at_call 44; refine (cm _).mono ?_; rintro e w' ⟨rfl, rfl⟩) | (at_builtin; refine wpList_append_own _ rfl _ _ 46 rfl w.heap.size 5 i0 (.int .u8 0) 1 1 Tryd.underlying46 hi hz0 hz1 hz2 rfl (by decide) _ _ _ rfl (hown.alloc _) ⟨_, 0, none⟩ 1 1 [.int .u8 (s[p + 1].toNat : Int)] rfl rfl (lit_cells _ _ _) ?c2 ?c3 ?c4 ?c5 ?_))
        case c2 => intro u hu; simp at hu; subst hu; rfl
        case c3 => unfold maxLen; omega
        case c4 => omega
        case c5 => simp; omega
        intro v2 w2 hown2 hgrow _
        have hown2' := own_push (l := [s[p + 1]]) hown2 rfl (byteCells_one _)
        have hb2 := below_grown hbw hsz hown hgrow
        clear hown2 hgrow
        go_wp2
        go_roundw
        case rel => exact ⟨p + 2, acc ++ [s[p + 1]], hown2', by go_num, by omega, hb2, HA', by rw [List.length_append]; simp; omega⟩
        case measure => simp [intOf]; omega
      · have hub := unesc_byte s p hlt (fun h => hmk ⟨u8_eq (n := 92) h.1, h.2⟩)
        have hel := entity_len (s.data.toList.drop p)
        rw [List.length_drop, len_data] at hel
        have hext := extract_end s p
        have hed : (s.extract p s.size).data.toList = s.data.toList.drop p := by rw [hext]
        have hen : ∀ w', Calls Tryd.prog 46 #[.string (s.extract p s.size)] w' fun e w'' => e = .returned (.tuple #[.string ⟨(entity (s.data.toList.drop p)).1.toArray⟩, .int .i64 ((entity (s.data.toList.drop p)).2 : Nat)]) ∧ Below w'.heap.size w' w'' := by
          intro w'
          exact refentity_call (s.extract p s.size) (by rw [hext, size_list, List.length_drop, len_data]; omega) _ _ (by show _ = _; rw [hed]) w'
        have h92n : ¬ s[p] = 92 ∨ (s[p] = 92 ∧ s.size ≤ p + 1) ∨ (s[p] = 92 ∧ ∃ h1 : p + 1 < s.size, markN s[p + 1].toNat = false) := by
          by_cases h92 : s[p] = 92
          · right
            by_cases h1 : p + 1 < s.size
            · right
              refine ⟨h92, h1, ?_⟩
              cases hm2 : markN s[p + 1].toNat with
              | true => exact absurd ⟨h92, h1, hm2⟩ hmk
              | false => rfl
            · left; exact ⟨h92, by omega⟩
          · left; exact h92
        have hca := HA.out
        rw [hub] at hca
        have hnone : s[p] = 92 → (entity (s.data.toList.drop p)).2 = 0 := by
          intro h92
          rw [drop_byte s p hlt, entity_other _ _ (by rw [h92]; decide)]
        generalize entity (s.data.toList.drop p) = E at *
        obtain ⟨t, n⟩ := E
        simp only at hca hel hen hnone
        clear hub hmk hext hed HA
        obtain ⟨ht, hn⟩ := hel
        by_cases hn0 : n = 0
        · subst hn0
          have HA' : Hid ((acc ++ [s[p]]) ++ unesc (s.data.toList.drop (p + 1)) = unesc s.data.toList) := by
            show _ = _
            rw [if_neg (by omega)] at hca
            rw [List.append_assoc]
            exact hca
          clear hca hnone
          rcases h92n with h92 | ⟨h92, hle⟩ | ⟨h92, h1, hmf⟩
          · have q92 : ((s[p].toNat : Int) == 92) = false := by rw [beq_eq_false_iff_ne]; intro h; exact h92 (u8_eq (n := 92) (by omega))
            clear h92
            go_wp2_with (go_at_call 46; refine (hen _).mono ?_)
            first | rintro e wE rfl hE | rintro e wE ⟨rfl, hE⟩
            have hownE := own_below hown hE
            have hbE := hbw.trans (hE.mono hsz)
            have hszE := hbE.size
            clear hE hown hbw
            go_wp2_with (at_builtin; refine wpList_append_own _ rfl _ _ 46 rfl w.heap.size 5 i0 (.int .u8 0) 1 1 Tryd.underlying46 hi hz0 hz1 hz2 rfl (by decide) _ _ _ rfl (hownE.alloc _) ⟨_, 0, none⟩ 1 1 [.int .u8 (s[p].toNat : Int)] rfl rfl (lit_cells _ _ _) ?c2 ?c3 ?c4 ?c5 ?_)
            case c2 => intro u hu; simp at hu; subst hu; rfl
            case c3 => unfold maxLen; omega
            case c4 => omega
            case c5 => simp; omega
            intro v2 w2 hown2 hgrow _
            have hown2' := own_push (l := [s[p]]) hown2 rfl (byteCells_one _)
            have hb2 := below_grown hbE hszE hownE hgrow
            clear hown2 hgrow
            go_wp2
            go_roundw
            case rel => exact ⟨p + 1, acc ++ [s[p]], hown2', by go_num, by omega, hb2, HA', by rw [List.length_append]; simp; omega⟩
            case measure => simp [intOf]; omega
          · have q92 : ((s[p].toNat : Int) == 92) = true := by rw [h92]; rfl
            have hd : decide ((p : Int) + 1 < (s.size : Int)) = false := by simp; omega
            clear h92
            go_wp2_with (go_at_call 46; refine (hen _).mono ?_)
            first | rintro e wE rfl hE | rintro e wE ⟨rfl, hE⟩
            have hownE := own_below hown hE
            have hbE := hbw.trans (hE.mono hsz)
            have hszE := hbE.size
            clear hE hown hbw
            go_wp2_with (at_builtin; refine wpList_append_own _ rfl _ _ 46 rfl w.heap.size 5 i0 (.int .u8 0) 1 1 Tryd.underlying46 hi hz0 hz1 hz2 rfl (by decide) _ _ _ rfl (hownE.alloc _) ⟨_, 0, none⟩ 1 1 [.int .u8 (s[p].toNat : Int)] rfl rfl (lit_cells _ _ _) ?c2 ?c3 ?c4 ?c5 ?_)
            case c2 => intro u hu; simp at hu; subst hu; rfl
            case c3 => unfold maxLen; omega
            case c4 => omega
            case c5 => simp; omega
            intro v2 w2 hown2 hgrow _
            have hown2' := own_push (l := [s[p]]) hown2 rfl (byteCells_one _)
            have hb2 := below_grown hbE hszE hownE hgrow
            clear hown2 hgrow
            go_wp2
            go_roundw
            case rel => exact ⟨p + 1, acc ++ [s[p]], hown2', by go_num, by omega, hb2, HA', by rw [List.length_append]; simp; omega⟩
            case measure => simp [intOf]; omega
          · have q92 : ((s[p].toNat : Int) == 92) = true := by rw [h92]; rfl
            have cm := refmark_any s[p + 1].toNat
            have hc0 : 0 ≤ (s[p + 1].toNat : Int) := by omega
            have hc1 : (s[p + 1].toNat : Int) ≤ 255 := by have := s[p + 1].toNat_lt; omega
            rw [hmf] at cm
            clear h92 hmf
            go_wp2_with (first | (go_at_call 44; refine (cm _).mono ?_; rintro e w' ⟨rfl, rfl⟩) | (go_at_call 46; refine (hen _).mono ?_))
            first | rintro e wE rfl hE | rintro e wE ⟨rfl, hE⟩
            have hownE := own_below hown hE
            have hbE := hbw.trans (hE.mono hsz)
            have hszE := hbE.size
            clear hE hown hbw
            go_wp2_with (at_builtin; refine wpList_append_own _ rfl _ _ 46 rfl w.heap.size 5 i0 (.int .u8 0) 1 1 Tryd.underlying46 hi hz0 hz1 hz2 rfl (by decide) _ _ _ rfl (hownE.alloc _) ⟨_, 0, none⟩ 1 1 [.int .u8 (s[p].toNat : Int)] rfl rfl (lit_cells _ _ _) ?c2 ?c3 ?c4 ?c5 ?_)
            case c2 => intro u hu; simp at hu; subst hu; rfl
            case c3 => unfold maxLen; omega
            case c4 => omega
            case c5 => simp; omega
            intro v2 w2 hown2 hgrow _
            have hown2' := own_push (l := [s[p]]) hown2 rfl (byteCells_one _)
            have hb2 := below_grown hbE hszE hownE hgrow
            clear hown2 hgrow
            go_wp2
            go_roundw
            case rel => exact ⟨p + 1, acc ++ [s[p]], hown2', by go_num, by omega, hb2, HA', by rw [List.length_append]; simp; omega⟩
            case measure => simp [intOf]; omega
        · have HA' : Hid ((acc ++ t) ++ unesc (s.data.toList.drop (p + n)) = unesc s.data.toList) := by
            show _ = _
            rw [if_pos (by omega)] at hca
            rw [List.append_assoc]
            exact hca
          have hn1 : 0 < n := by omega
          have hts := size_list t
          clear hca
          rcases h92n with h92 | ⟨h92, hle⟩ | ⟨h92, h1, hmf⟩
          · have q92 : ((s[p].toNat : Int) == 92) = false := by rw [beq_eq_false_iff_ne]; intro h; exact h92 (u8_eq (n := 92) (by omega))
            clear h92 hnone
            go_wp2_with (go_at_call 46; refine (hen _).mono ?_)
            first | rintro e wE rfl hE | rintro e wE ⟨rfl, hE⟩
            have hownE := own_below hown hE
            have hbE := hbw.trans (hE.mono hsz)
            have hszE := hbE.size
            clear hE hown hbw
            go_wp2_with (at_builtin; refine Lib.wpList_append_own_string _ rfl _ _ 46 9 rfl w.heap.size 5 i0 Tryd.underlying46 Tryd.underlying9 hi hz0 hz1 hz2 _ _ _ rfl hownE ⟨t.toArray⟩ rfl ?c1 ?c2 hszE ?_)
            case c1 => unfold maxLen; rw [hts]; omega
            case c2 => rw [hts]; omega
            intro v2 w2 hown2 hgrow _
            have hown2' := own_push (l := t) hown2 hts.symm (strCells_list t).symm
            have hb2 := below_grown0 hbE hszE hownE hgrow
            clear hown2 hgrow
            go_wp2
            go_roundw
            case rel => exact ⟨p + n, acc ++ t, hown2', by go_num, by omega, hb2, HA', by rw [List.length_append]; omega⟩
            case measure => simp [intOf]; omega
          · exact absurd (hnone h92) hn0
          · exact absurd (hnone h92) hn0
    · have hcv := own_string hown
      have hfin := HA.out
      rw [drop_past s p (by omega), unesc_nil, List.append_nil] at hfin
      have HF : Hid (Ending.returned (.string ⟨acc.toArray⟩) = .returned (.string ⟨(unesc s.data.toList).toArray⟩)) := by show _ = _; rw [hfin]
      clear hfin HA hown
      go_wp2
      go_ret
      exact ⟨HF.out, hbw⟩

end Go.Proofs.YtadghfgjdfgopaaDoor.esc
