/- The document's answer for span: Tag of any text, Raw; walked. -/
import Derived.Test.YtegjpfhpkkffiaaDoorRTagO
set_option linter.unusedVariables false
namespace Go.Proofs.YtegjpfhpkkffiaaDoor
open Go.RowKit

theorem tagN_end (s : ByteArray) {o : Option (List UInt8)} (h : tagL s.data.toList = o) : tagN s.data.toList = endN s o := by
  unfold tagN
  rw [h]
  cases o with
  | none => rfl
  | some r => show s.data.toList.length - r.length = s.size - r.length; rw [len_data]

theorem tag_short (l : List UInt8) (h : l.length < 3) : tagN l = 0 := by
  match l, h with
  | [], _ => rfl
  | [a], _ => rfl
  | [a, b], _ =>
    unfold tagN
    have : tagL [a, b] = none := by
      simp only [tagL]
      split
      · split
        · rfl
        · simp only [nameL]
          split
          · rename_i h
            split at h
            · cases h
            · rfl
          · rename_i r h
            split at h
            · cases h; rfl
            · cases h
      · rfl
    rw [this]

set_option maxHeartbeats 2000000 in
/-- Tag, of any text. -/
theorem rtag_any (s : ByteArray) (hs : s.size ≤ 9223372036854775000) (w : World) :
    Calls Tryd.prog 15 #[.string s] w fun e w' => e = .returned (.int .i64 (tagN s.data.toList : Int)) ∧ w' = w := by
  have hln := len_data s
  match hl : s.data.toList with
  | [] =>
    have h3 : (s.size : Int) < 3 := by rw [hl] at hln; simp at hln; omega
    go_enter Tryd.func15, Tryd.ntmps15
    go_wp2
    go_ret
    exact ⟨rfl, rfl⟩
  | [a] =>
    have h3 : (s.size : Int) < 3 := by rw [hl] at hln; simp at hln; omega
    go_enter Tryd.func15, Tryd.ntmps15
    go_wp2
    go_ret
    exact ⟨rfl, rfl⟩
  | [a, b] =>
    have h3 : (s.size : Int) < 3 := by rw [hl] at hln; simp at hln; omega
    have HE : Hid (tagN [a, b] = 0) := tag_short _ (by simp)
    go_enter Tryd.func15, Tryd.ntmps15
    go_wp2
    go_ret
    exact ⟨ret_int (by rw [HE.out]; rfl), rfl⟩
  | a :: b :: c :: l =>
    by_cases ha : a = 60
    · subst ha
      have hT := fun o => @tagN_end s o
      rw [hl] at hT
      by_cases hb : b = 47
      · subst hb
        have h1 := rtag_close s hs c l hl w
        rw [hT _ rfl, show tagL (60 :: 47 :: c :: l) = (nameL (c :: l)).bind fun r => closeL (gapL 0 r) by
          simp only [tagL, if_true]
          cases nameL (c :: l) <;> rfl]
        exact h1
      · have h1 := rtag_open s hs b c l hl hb w
        rw [hT _ rfl, show tagL (60 :: b :: c :: l) = (nameL (b :: c :: l)).bind finL by
          simp only [tagL, if_true, if_neg hb]
          cases nameL (b :: c :: l) <;> rfl]
        exact h1
    · have h3 : ¬ (s.size : Int) < 3 := by rw [hl] at hln; simp at hln; omega
      have hz : 0 < s.size := by rw [hl] at hln; simp at hln; omega
      have hb0 : s[0] = a := by have := (Suf.head hl).byte (by rw [pos_of (p := []) hl]; exact hz); simpa [pos_of (p := []) hl] using this
      have q : ¬ (a.toNat : Int) = 60 := fun e => ha (UInt8.toNat_inj.1 (by show a.toNat = 60; omega))
      have HE : Hid (tagN (a :: b :: c :: l) = 0) := by
        show _ = _
        unfold tagN
        simp only [tagL, if_neg ha]
      clear hl ha hln
      go_enter Tryd.func15, Tryd.ntmps15
      go_wp2
      go_ret
      exact ⟨ret_int (by rw [HE.out]; rfl), rfl⟩

set_option maxHeartbeats 4000000 in
/-- Raw, of any text. -/
theorem rraw_any (s : ByteArray) (hs : s.size ≤ 9223372036854775000) (w : World) :
    Calls Tryd.prog 17 #[.string s] w fun e w' => e = .returned (.int .i64 (rawN s.data.toList : Int)) ∧ w' = w := by
  have HT := (show Hid _ from fun w => rtag_any s hs w)
  have HR : Hid (rawN s.data.toList = if 0 < tagN s.data.toList then tagN s.data.toList else (raw2 s.data.toList).getD 0) := rfl
  generalize tagN s.data.toList = k at *
  by_cases hk : 0 < k
  · have q : (0 : Int) < (k : Int) := by omega
    rw [if_pos hk] at HR
    go_enter Tryd.func17, Tryd.ntmps17
    go_wp2_with (go_at_call 15; refine (HT.out _).mono ?_; rintro e w1 ⟨rfl, hw⟩; subst w1)
    go_ret
    exact ⟨ret_int (by rw [HR.out]), rfl⟩
  · obtain rfl : k = 0 := by omega
    rw [if_neg hk] at HR
    clear hk
    obtain ⟨p1, hp1⟩ : ∃ b, [60, 33, 45, 45, 62].isPrefixOf s.data.toList = b := ⟨_, rfl⟩
    have P1 := (show Hid _ from fun w => rbegins_any s ⟨#[60, 33, 45, 45, 62]⟩ hs (by decide) p1 hp1 w)
    obtain ⟨p2, hp2⟩ : ∃ b, [60, 33, 45, 45, 45, 62].isPrefixOf s.data.toList = b := ⟨_, rfl⟩
    have P2 := (show Hid _ from fun w => rbegins_any s ⟨#[60, 33, 45, 45, 45, 62]⟩ hs (by decide) p2 hp2 w)
    obtain ⟨p3, hp3⟩ : ∃ b, [60, 33, 45, 45].isPrefixOf s.data.toList = b := ⟨_, rfl⟩
    have P3 := (show Hid _ from fun w => rbegins_any s ⟨#[60, 33, 45, 45]⟩ hs (by decide) p3 hp3 w)
    obtain ⟨p4, hp4⟩ : ∃ b, [60, 63].isPrefixOf s.data.toList = b := ⟨_, rfl⟩
    have P4 := (show Hid _ from fun w => rbegins_any s ⟨#[60, 63]⟩ hs (by decide) p4 hp4 w)
    obtain ⟨p5, hp5⟩ : ∃ b, [60, 33, 91, 67, 68, 65, 84, 65, 91].isPrefixOf s.data.toList = b := ⟨_, rfl⟩
    have P5 := (show Hid _ from fun w => rbegins_any s ⟨#[60, 33, 91, 67, 68, 65, 84, 65, 91]⟩ hs (by decide) p5 hp5 w)
    cases p1
    case true =>
      have HE : Hid (rawN s.data.toList = 5) := by show _ = _; rw [HR.out]; simp [raw2, hp1]
      clear HR hp1 hp2 hp3 hp4 hp5
      go_enter Tryd.func17, Tryd.ntmps17
      go_wp2_with (first
          | (go_at_call 15; refine (HT.out _).mono ?_; rintro e w1 ⟨rfl, hw⟩; subst w1)
          | (go_at_call_of 40 (Value.string ⟨#[60, 33, 45, 45, 62]⟩); refine (P1.out _).mono ?_; rintro e w1 ⟨rfl, hw⟩; subst w1)
          | (go_at_call_of 40 (Value.string ⟨#[60, 33, 45, 45, 45, 62]⟩); refine (P2.out _).mono ?_; rintro e w1 ⟨rfl, hw⟩; subst w1)
          | (go_at_call_of 40 (Value.string ⟨#[60, 33, 45, 45]⟩); refine (P3.out _).mono ?_; rintro e w1 ⟨rfl, hw⟩; subst w1)
          | (go_at_call_of 40 (Value.string ⟨#[60, 63]⟩); refine (P4.out _).mono ?_; rintro e w1 ⟨rfl, hw⟩; subst w1)
          | (go_at_call_of 40 (Value.string ⟨#[60, 33, 91, 67, 68, 65, 84, 65, 91]⟩); refine (P5.out _).mono ?_; rintro e w1 ⟨rfl, hw⟩; subst w1))
      go_ret
      exact ⟨ret_int (by rw [HE.out]; rfl), rfl⟩
    cases p2
    case true =>
      have HE : Hid (rawN s.data.toList = 6) := by show _ = _; rw [HR.out]; simp [raw2, hp1, hp2]
      clear HR hp1 hp2 hp3 hp4 hp5
      go_enter Tryd.func17, Tryd.ntmps17
      go_wp2_with (first
          | (go_at_call 15; refine (HT.out _).mono ?_; rintro e w1 ⟨rfl, hw⟩; subst w1)
          | (go_at_call_of 40 (Value.string ⟨#[60, 33, 45, 45, 62]⟩); refine (P1.out _).mono ?_; rintro e w1 ⟨rfl, hw⟩; subst w1)
          | (go_at_call_of 40 (Value.string ⟨#[60, 33, 45, 45, 45, 62]⟩); refine (P2.out _).mono ?_; rintro e w1 ⟨rfl, hw⟩; subst w1)
          | (go_at_call_of 40 (Value.string ⟨#[60, 33, 45, 45]⟩); refine (P3.out _).mono ?_; rintro e w1 ⟨rfl, hw⟩; subst w1)
          | (go_at_call_of 40 (Value.string ⟨#[60, 63]⟩); refine (P4.out _).mono ?_; rintro e w1 ⟨rfl, hw⟩; subst w1)
          | (go_at_call_of 40 (Value.string ⟨#[60, 33, 91, 67, 68, 65, 84, 65, 91]⟩); refine (P5.out _).mono ?_; rintro e w1 ⟨rfl, hw⟩; subst w1))
      go_ret
      exact ⟨ret_int (by rw [HE.out]; rfl), rfl⟩
    cases p3
    case true =>
      have hge : 4 ≤ s.size := by have := pre_len hp3; rw [len_data] at this; exact this
      have hpos : pos s (s.data.toList.drop 4) = 4 := by unfold pos; rw [List.length_drop, len_data]; omega
      have HU : Hid (∀ w, Calls Tryd.prog 41 #[.string s, .int .i64 4, .string ⟨#[45, 45, 62]⟩] w fun e w' => e = .returned (.int .i64 (upZ s [45, 45, 62] (s.data.toList.drop 4) : Nat)) ∧ w' = w) := fun w => rupto_any s ⟨#[45, 45, 62]⟩ hs (by decide) (by decide) (s.data.toList.drop 4) ((Suf.whole s).drop 4) 4 (by rw [hpos]; rfl) w
      have HE : Hid (rawN s.data.toList = upZ s [45, 45, 62] (s.data.toList.drop 4)) := by
        show _ = _
        rw [HR.out]
        unfold upZ
        rw [hpos]
        simp only [raw2, hp1, hp2, hp3, Bool.false_eq_true, if_true]
        cases upL [45, 45, 62] (s.data.toList.drop 4) with
        | none => rfl
        | some m => show m + 4 = 4 + m; omega
      clear HR hp1 hp2 hp3 hp4 hp5 hge hpos
      generalize upZ s [45, 45, 62] (s.data.toList.drop 4) = U at *
      go_enter Tryd.func17, Tryd.ntmps17
      go_wp2_with (first
          | (go_at_call 15; refine (HT.out _).mono ?_; rintro e w1 ⟨rfl, hw⟩; subst w1)
          | (go_at_call_of 40 (Value.string ⟨#[60, 33, 45, 45, 62]⟩); refine (P1.out _).mono ?_; rintro e w1 ⟨rfl, hw⟩; subst w1)
          | (go_at_call_of 40 (Value.string ⟨#[60, 33, 45, 45, 45, 62]⟩); refine (P2.out _).mono ?_; rintro e w1 ⟨rfl, hw⟩; subst w1)
          | (go_at_call_of 40 (Value.string ⟨#[60, 33, 45, 45]⟩); refine (P3.out _).mono ?_; rintro e w1 ⟨rfl, hw⟩; subst w1)
          | (go_at_call_of 40 (Value.string ⟨#[60, 63]⟩); refine (P4.out _).mono ?_; rintro e w1 ⟨rfl, hw⟩; subst w1)
          | (go_at_call_of 40 (Value.string ⟨#[60, 33, 91, 67, 68, 65, 84, 65, 91]⟩); refine (P5.out _).mono ?_; rintro e w1 ⟨rfl, hw⟩; subst w1)
          | (go_at_call 41; refine (HU.out _).mono ?_; rintro e w1 ⟨rfl, hw⟩; subst w1))
      go_ret
      exact ⟨ret_int (by rw [HE.out]), rfl⟩
    cases p4
    case true =>
      have hge : 2 ≤ s.size := by have := pre_len hp4; rw [len_data] at this; exact this
      have hpos : pos s (s.data.toList.drop 2) = 2 := by unfold pos; rw [List.length_drop, len_data]; omega
      have HU : Hid (∀ w, Calls Tryd.prog 41 #[.string s, .int .i64 2, .string ⟨#[63, 62]⟩] w fun e w' => e = .returned (.int .i64 (upZ s [63, 62] (s.data.toList.drop 2) : Nat)) ∧ w' = w) := fun w => rupto_any s ⟨#[63, 62]⟩ hs (by decide) (by decide) (s.data.toList.drop 2) ((Suf.whole s).drop 2) 2 (by rw [hpos]; rfl) w
      have HE : Hid (rawN s.data.toList = upZ s [63, 62] (s.data.toList.drop 2)) := by
        show _ = _
        rw [HR.out]
        unfold upZ
        rw [hpos]
        simp only [raw2, hp1, hp2, hp3, hp4, Bool.false_eq_true, if_true]
        cases upL [63, 62] (s.data.toList.drop 2) with
        | none => rfl
        | some m => show m + 2 = 2 + m; omega
      clear HR hp1 hp2 hp3 hp4 hp5 hge hpos
      generalize upZ s [63, 62] (s.data.toList.drop 2) = U at *
      go_enter Tryd.func17, Tryd.ntmps17
      go_wp2_with (first
          | (go_at_call 15; refine (HT.out _).mono ?_; rintro e w1 ⟨rfl, hw⟩; subst w1)
          | (go_at_call_of 40 (Value.string ⟨#[60, 33, 45, 45, 62]⟩); refine (P1.out _).mono ?_; rintro e w1 ⟨rfl, hw⟩; subst w1)
          | (go_at_call_of 40 (Value.string ⟨#[60, 33, 45, 45, 45, 62]⟩); refine (P2.out _).mono ?_; rintro e w1 ⟨rfl, hw⟩; subst w1)
          | (go_at_call_of 40 (Value.string ⟨#[60, 33, 45, 45]⟩); refine (P3.out _).mono ?_; rintro e w1 ⟨rfl, hw⟩; subst w1)
          | (go_at_call_of 40 (Value.string ⟨#[60, 63]⟩); refine (P4.out _).mono ?_; rintro e w1 ⟨rfl, hw⟩; subst w1)
          | (go_at_call_of 40 (Value.string ⟨#[60, 33, 91, 67, 68, 65, 84, 65, 91]⟩); refine (P5.out _).mono ?_; rintro e w1 ⟨rfl, hw⟩; subst w1)
          | (go_at_call 41; refine (HU.out _).mono ?_; rintro e w1 ⟨rfl, hw⟩; subst w1))
      go_ret
      exact ⟨ret_int (by rw [HE.out]), rfl⟩
    cases p5
    case true =>
      have hge : 9 ≤ s.size := by have := pre_len hp5; rw [len_data] at this; exact this
      have hpos : pos s (s.data.toList.drop 9) = 9 := by unfold pos; rw [List.length_drop, len_data]; omega
      have HU : Hid (∀ w, Calls Tryd.prog 41 #[.string s, .int .i64 9, .string ⟨#[93, 93, 62]⟩] w fun e w' => e = .returned (.int .i64 (upZ s [93, 93, 62] (s.data.toList.drop 9) : Nat)) ∧ w' = w) := fun w => rupto_any s ⟨#[93, 93, 62]⟩ hs (by decide) (by decide) (s.data.toList.drop 9) ((Suf.whole s).drop 9) 9 (by rw [hpos]; rfl) w
      have HE : Hid (rawN s.data.toList = upZ s [93, 93, 62] (s.data.toList.drop 9)) := by
        show _ = _
        rw [HR.out]
        unfold upZ
        rw [hpos]
        simp only [raw2, hp1, hp2, hp3, hp4, hp5, Bool.false_eq_true, if_true]
        cases upL [93, 93, 62] (s.data.toList.drop 9) with
        | none => rfl
        | some m => show m + 9 = 9 + m; omega
      clear HR hp1 hp2 hp3 hp4 hp5 hge hpos
      generalize upZ s [93, 93, 62] (s.data.toList.drop 9) = U at *
      go_enter Tryd.func17, Tryd.ntmps17
      go_wp2_with (first
          | (go_at_call 15; refine (HT.out _).mono ?_; rintro e w1 ⟨rfl, hw⟩; subst w1)
          | (go_at_call_of 40 (Value.string ⟨#[60, 33, 45, 45, 62]⟩); refine (P1.out _).mono ?_; rintro e w1 ⟨rfl, hw⟩; subst w1)
          | (go_at_call_of 40 (Value.string ⟨#[60, 33, 45, 45, 45, 62]⟩); refine (P2.out _).mono ?_; rintro e w1 ⟨rfl, hw⟩; subst w1)
          | (go_at_call_of 40 (Value.string ⟨#[60, 33, 45, 45]⟩); refine (P3.out _).mono ?_; rintro e w1 ⟨rfl, hw⟩; subst w1)
          | (go_at_call_of 40 (Value.string ⟨#[60, 63]⟩); refine (P4.out _).mono ?_; rintro e w1 ⟨rfl, hw⟩; subst w1)
          | (go_at_call_of 40 (Value.string ⟨#[60, 33, 91, 67, 68, 65, 84, 65, 91]⟩); refine (P5.out _).mono ?_; rintro e w1 ⟨rfl, hw⟩; subst w1)
          | (go_at_call 41; refine (HU.out _).mono ?_; rintro e w1 ⟨rfl, hw⟩; subst w1))
      go_ret
      exact ⟨ret_int (by rw [HE.out]), rfl⟩
    have HR2 : Hid (rawN s.data.toList = (declL s.data.toList).getD 0) := by show _ = _; rw [HR.out]; simp [raw2, hp1, hp2, hp3, hp4, hp5]
    clear HR hp1 hp2 hp3 hp4 hp5
    have hln := len_data s
    match hl : s.data.toList with
    | [] =>
      have h3 : ¬ (2 : Int) < (s.size : Int) := by rw [hl] at hln; simp at hln; omega
      have HE : Hid (rawN [] = 0) := by rw [hl] at HR2; exact HR2
      clear HR2 hl
      go_enter Tryd.func17, Tryd.ntmps17
      go_wp2_with (first
          | (go_at_call 15; refine (HT.out _).mono ?_; rintro e w1 ⟨rfl, hw⟩; subst w1)
          | (go_at_call_of 40 (Value.string ⟨#[60, 33, 45, 45, 62]⟩); refine (P1.out _).mono ?_; rintro e w1 ⟨rfl, hw⟩; subst w1)
          | (go_at_call_of 40 (Value.string ⟨#[60, 33, 45, 45, 45, 62]⟩); refine (P2.out _).mono ?_; rintro e w1 ⟨rfl, hw⟩; subst w1)
          | (go_at_call_of 40 (Value.string ⟨#[60, 33, 45, 45]⟩); refine (P3.out _).mono ?_; rintro e w1 ⟨rfl, hw⟩; subst w1)
          | (go_at_call_of 40 (Value.string ⟨#[60, 63]⟩); refine (P4.out _).mono ?_; rintro e w1 ⟨rfl, hw⟩; subst w1)
          | (go_at_call_of 40 (Value.string ⟨#[60, 33, 91, 67, 68, 65, 84, 65, 91]⟩); refine (P5.out _).mono ?_; rintro e w1 ⟨rfl, hw⟩; subst w1))
      go_ret
      exact ⟨ret_int (by rw [HE.out]; rfl), rfl⟩
    | [a] =>
      have h3 : ¬ (2 : Int) < (s.size : Int) := by rw [hl] at hln; simp at hln; omega
      have HE : Hid (rawN [a] = 0) := by rw [hl] at HR2; exact HR2
      clear HR2 hl
      go_enter Tryd.func17, Tryd.ntmps17
      go_wp2_with (first
          | (go_at_call 15; refine (HT.out _).mono ?_; rintro e w1 ⟨rfl, hw⟩; subst w1)
          | (go_at_call_of 40 (Value.string ⟨#[60, 33, 45, 45, 62]⟩); refine (P1.out _).mono ?_; rintro e w1 ⟨rfl, hw⟩; subst w1)
          | (go_at_call_of 40 (Value.string ⟨#[60, 33, 45, 45, 45, 62]⟩); refine (P2.out _).mono ?_; rintro e w1 ⟨rfl, hw⟩; subst w1)
          | (go_at_call_of 40 (Value.string ⟨#[60, 33, 45, 45]⟩); refine (P3.out _).mono ?_; rintro e w1 ⟨rfl, hw⟩; subst w1)
          | (go_at_call_of 40 (Value.string ⟨#[60, 63]⟩); refine (P4.out _).mono ?_; rintro e w1 ⟨rfl, hw⟩; subst w1)
          | (go_at_call_of 40 (Value.string ⟨#[60, 33, 91, 67, 68, 65, 84, 65, 91]⟩); refine (P5.out _).mono ?_; rintro e w1 ⟨rfl, hw⟩; subst w1))
      go_ret
      exact ⟨ret_int (by rw [HE.out]; rfl), rfl⟩
    | [a, b] =>
      have h3 : ¬ (2 : Int) < (s.size : Int) := by rw [hl] at hln; simp at hln; omega
      have HE : Hid (rawN [a, b] = 0) := by rw [hl] at HR2; exact HR2
      clear HR2 hl
      go_enter Tryd.func17, Tryd.ntmps17
      go_wp2_with (first
          | (go_at_call 15; refine (HT.out _).mono ?_; rintro e w1 ⟨rfl, hw⟩; subst w1)
          | (go_at_call_of 40 (Value.string ⟨#[60, 33, 45, 45, 62]⟩); refine (P1.out _).mono ?_; rintro e w1 ⟨rfl, hw⟩; subst w1)
          | (go_at_call_of 40 (Value.string ⟨#[60, 33, 45, 45, 45, 62]⟩); refine (P2.out _).mono ?_; rintro e w1 ⟨rfl, hw⟩; subst w1)
          | (go_at_call_of 40 (Value.string ⟨#[60, 33, 45, 45]⟩); refine (P3.out _).mono ?_; rintro e w1 ⟨rfl, hw⟩; subst w1)
          | (go_at_call_of 40 (Value.string ⟨#[60, 63]⟩); refine (P4.out _).mono ?_; rintro e w1 ⟨rfl, hw⟩; subst w1)
          | (go_at_call_of 40 (Value.string ⟨#[60, 33, 91, 67, 68, 65, 84, 65, 91]⟩); refine (P5.out _).mono ?_; rintro e w1 ⟨rfl, hw⟩; subst w1))
      go_ret
      exact ⟨ret_int (by rw [HE.out]; rfl), rfl⟩
    | a :: b :: c :: t =>
      have h3n : 2 < s.size := by rw [hl] at hln; simp at hln; omega
      have h3 : (2 : Int) < (s.size : Int) := by omega
      clear hln
      have hb0 : s[0]'(Nat.lt_trans (by decide) h3n) = a := by have := (Suf.head hl).byte (by rw [pos_of (p := []) hl]; show 0 < s.size; omega); simpa [pos_of (p := []) hl] using this
      have hb1 : s[1]'(Nat.lt_trans (by decide) h3n) = b := by have := (Suf.head hl).tail.byte (by rw [pos_of (p := [a]) hl]; show 1 < s.size; omega); simpa [pos_of (p := [a]) hl] using this
      have hb2 : s[2]'h3n = c := by have := (Suf.head hl).tail.tail.byte (by rw [pos_of (p := [a, b]) hl]; show 2 < s.size; omega); simpa [pos_of (p := [a, b]) hl] using this
      have HRD : Hid (rawN (a :: b :: c :: t) = (if a = 60 ∧ b = 33 ∧ letN c.toNat = true then (upL [62] t).map (· + 3) else none).getD 0) := by rw [hl] at HR2; exact HR2
      have hpos : pos s t = 3 := pos_of (p := [a, b, c]) hl
      have HU : Hid (∀ w, Calls Tryd.prog 41 #[.string s, .int .i64 3, .string ⟨#[62]⟩] w fun e w' => e = .returned (.int .i64 (upZ s [62] t : Nat)) ∧ w' = w) := fun w => rupto_any s ⟨#[62]⟩ hs (by decide) (by decide) t ⟨[a, b, c], hl⟩ 3 (by rw [hpos]; rfl) w
      have HUZ : Hid (upZ s [62] t = ((upL [62] t).map (· + 3)).getD 0) := by
        show _ = _
        unfold upZ
        rw [hpos]
        cases upL [62] t with
        | none => rfl
        | some m => show 3 + m = m + 3; omega
      clear HR2 hl hpos
      by_cases ha : a = 60
      · by_cases hb : b = 33
        · cases hc : letN c.toNat
          · have HE : Hid (rawN (a :: b :: c :: t) = 0) := by show _ = _; rw [HRD.out, if_neg (by rintro ⟨_, _, h⟩; rw [hc] at h; cases h)]; rfl
            have q1 : (a.toNat : Int) = 60 := by rw [ha]; rfl
            have q2 : (b.toNat : Int) = 33 := by rw [hb]; rfl
            clear ha hb HRD HUZ
            go_enter Tryd.func17, Tryd.ntmps17
            go_wp2_with (first
          | (go_at_call 15; refine (HT.out _).mono ?_; rintro e w1 ⟨rfl, hw⟩; subst w1)
          | (go_at_call_of 40 (Value.string ⟨#[60, 33, 45, 45, 62]⟩); refine (P1.out _).mono ?_; rintro e w1 ⟨rfl, hw⟩; subst w1)
          | (go_at_call_of 40 (Value.string ⟨#[60, 33, 45, 45, 45, 62]⟩); refine (P2.out _).mono ?_; rintro e w1 ⟨rfl, hw⟩; subst w1)
          | (go_at_call_of 40 (Value.string ⟨#[60, 33, 45, 45]⟩); refine (P3.out _).mono ?_; rintro e w1 ⟨rfl, hw⟩; subst w1)
          | (go_at_call_of 40 (Value.string ⟨#[60, 63]⟩); refine (P4.out _).mono ?_; rintro e w1 ⟨rfl, hw⟩; subst w1)
          | (go_at_call_of 40 (Value.string ⟨#[60, 33, 91, 67, 68, 65, 84, 65, 91]⟩); refine (P5.out _).mono ?_; rintro e w1 ⟨rfl, hw⟩; subst w1)
          | (go_at_call 28; refine (rletter_any _ _).mono ?_; rintro e w1 ⟨rfl, hw⟩; subst w1))
            go_ret
            exact ⟨ret_int (by rw [HE.out]; rfl), rfl⟩
          · have HE : Hid (rawN (a :: b :: c :: t) = upZ s [62] t) := by show _ = _; rw [HRD.out, if_pos ⟨ha, hb, hc⟩, HUZ.out]
            have q1 : (a.toNat : Int) = 60 := by rw [ha]; rfl
            have q2 : (b.toNat : Int) = 33 := by rw [hb]; rfl
            clear ha hb HRD HUZ
            generalize upZ s [62] t = U at *
            go_enter Tryd.func17, Tryd.ntmps17
            go_wp2_with (first
          | (go_at_call 15; refine (HT.out _).mono ?_; rintro e w1 ⟨rfl, hw⟩; subst w1)
          | (go_at_call_of 40 (Value.string ⟨#[60, 33, 45, 45, 62]⟩); refine (P1.out _).mono ?_; rintro e w1 ⟨rfl, hw⟩; subst w1)
          | (go_at_call_of 40 (Value.string ⟨#[60, 33, 45, 45, 45, 62]⟩); refine (P2.out _).mono ?_; rintro e w1 ⟨rfl, hw⟩; subst w1)
          | (go_at_call_of 40 (Value.string ⟨#[60, 33, 45, 45]⟩); refine (P3.out _).mono ?_; rintro e w1 ⟨rfl, hw⟩; subst w1)
          | (go_at_call_of 40 (Value.string ⟨#[60, 63]⟩); refine (P4.out _).mono ?_; rintro e w1 ⟨rfl, hw⟩; subst w1)
          | (go_at_call_of 40 (Value.string ⟨#[60, 33, 91, 67, 68, 65, 84, 65, 91]⟩); refine (P5.out _).mono ?_; rintro e w1 ⟨rfl, hw⟩; subst w1)
          | (go_at_call 28; refine (rletter_any _ _).mono ?_; rintro e w1 ⟨rfl, hw⟩; subst w1)
          | (go_at_call 41; refine (HU.out _).mono ?_; rintro e w1 ⟨rfl, hw⟩; subst w1))
            go_ret
            exact ⟨ret_int (by rw [HE.out]), rfl⟩
        · have HE : Hid (rawN (a :: b :: c :: t) = 0) := by show _ = _; rw [HRD.out, if_neg (by rintro ⟨_, h, _⟩; exact hb h)]; rfl
          have q1 : (a.toNat : Int) = 60 := by rw [ha]; rfl
          have q2 : ¬ (b.toNat : Int) = 33 := fun e => hb (UInt8.toNat_inj.1 (by show b.toNat = 33; omega))
          clear ha hb HRD HUZ
          go_enter Tryd.func17, Tryd.ntmps17
          go_wp2_with (first
          | (go_at_call 15; refine (HT.out _).mono ?_; rintro e w1 ⟨rfl, hw⟩; subst w1)
          | (go_at_call_of 40 (Value.string ⟨#[60, 33, 45, 45, 62]⟩); refine (P1.out _).mono ?_; rintro e w1 ⟨rfl, hw⟩; subst w1)
          | (go_at_call_of 40 (Value.string ⟨#[60, 33, 45, 45, 45, 62]⟩); refine (P2.out _).mono ?_; rintro e w1 ⟨rfl, hw⟩; subst w1)
          | (go_at_call_of 40 (Value.string ⟨#[60, 33, 45, 45]⟩); refine (P3.out _).mono ?_; rintro e w1 ⟨rfl, hw⟩; subst w1)
          | (go_at_call_of 40 (Value.string ⟨#[60, 63]⟩); refine (P4.out _).mono ?_; rintro e w1 ⟨rfl, hw⟩; subst w1)
          | (go_at_call_of 40 (Value.string ⟨#[60, 33, 91, 67, 68, 65, 84, 65, 91]⟩); refine (P5.out _).mono ?_; rintro e w1 ⟨rfl, hw⟩; subst w1))
          go_ret
          exact ⟨ret_int (by rw [HE.out]; rfl), rfl⟩
      · have HE : Hid (rawN (a :: b :: c :: t) = 0) := by show _ = _; rw [HRD.out, if_neg (by rintro ⟨h, _⟩; exact ha h)]; rfl
        have q1 : ¬ (a.toNat : Int) = 60 := fun e => ha (UInt8.toNat_inj.1 (by show a.toNat = 60; omega))
        clear ha HRD HUZ
        go_enter Tryd.func17, Tryd.ntmps17
        go_wp2_with (first
          | (go_at_call 15; refine (HT.out _).mono ?_; rintro e w1 ⟨rfl, hw⟩; subst w1)
          | (go_at_call_of 40 (Value.string ⟨#[60, 33, 45, 45, 62]⟩); refine (P1.out _).mono ?_; rintro e w1 ⟨rfl, hw⟩; subst w1)
          | (go_at_call_of 40 (Value.string ⟨#[60, 33, 45, 45, 45, 62]⟩); refine (P2.out _).mono ?_; rintro e w1 ⟨rfl, hw⟩; subst w1)
          | (go_at_call_of 40 (Value.string ⟨#[60, 33, 45, 45]⟩); refine (P3.out _).mono ?_; rintro e w1 ⟨rfl, hw⟩; subst w1)
          | (go_at_call_of 40 (Value.string ⟨#[60, 63]⟩); refine (P4.out _).mono ?_; rintro e w1 ⟨rfl, hw⟩; subst w1)
          | (go_at_call_of 40 (Value.string ⟨#[60, 33, 91, 67, 68, 65, 84, 65, 91]⟩); refine (P5.out _).mono ?_; rintro e w1 ⟨rfl, hw⟩; subst w1))
        go_ret
        exact ⟨ret_int (by rw [HE.out]; rfl), rfl⟩

end Go.Proofs.YtegjpfhpkkffiaaDoor
