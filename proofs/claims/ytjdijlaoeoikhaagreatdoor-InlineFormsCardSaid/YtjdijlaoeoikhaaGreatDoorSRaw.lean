/- HTML in package span: through, Raw. -/
import Derived.Test.YtjdijlaoeoikhaaGreatDoorG15
import Derived.Test.YtjdijlaoeoikhaaGreatDoorShelf
import Derived.Lib.Index
set_option linter.unusedVariables false
namespace Go.Proofs.YtjdijlaoeoikhaaGreatDoor
open Go.RowKit

/-- The library's variable that says how long a text its search takes holds some number. -/
def ML (w : World) : Prop := ∃ m : Int, w.cell? ⟨0, 0, none⟩ = some (.int .i64 m)
theorem ML.drewN {w : World} (h : ML w) (n : Nat) : ML (w.drewN n) := h

theorem pre_any (s p : ByteArray) (b : Bool) (h : p.data.toList.isPrefixOf s.data.toList = b) (w : World) :
    Calls Tryz.prog 28 #[.string s, .string p] w fun e w' => e = .returned (.bool b) ∧ w' = w := by
  refine (Tryz.strings_HasPrefix s p w).mono ?_
  rintro e w' ⟨rfl, rfl⟩
  exact ⟨ret_bool h, rfl⟩

/-- Where the first of some bytes ends, as Index tells. -/
theorem up_index (e : List UInt8) (he : e ≠ []) : ∀ l : List UInt8, (upL e l = none ∧ Lib.index l e = -1) ∨ (∃ k : Nat, upL e l = some (k + e.length) ∧ Lib.index l e = k ∧ k + e.length ≤ l.length)
  | [] => by
    left
    refine ⟨rfl, ?_⟩
    unfold Lib.index
    rw [if_neg (by simpa using he)]
  | b :: t => by
    simp only [upL]
    unfold Lib.index
    by_cases h : e.isPrefixOf (b :: t) = true
    · rw [if_pos h, if_pos h]
      refine .inr ⟨0, by simp, rfl, ?_⟩
      have := (List.isPrefixOf_iff_prefix.1 h).length_le
      omega
    · rw [if_neg h, if_neg h]
      rcases up_index e he t with ⟨h1, h2⟩ | ⟨k, h1, h2, h3⟩
      · left; rw [h1, h2]; exact ⟨rfl, rfl⟩
      · right
        refine ⟨k + 1, ?_, ?_, by simp; omega⟩
        · rw [h1]; simp; omega
        · rw [h2, if_neg (by simp)]; omega

/-- What Index owes at a place of a text. -/
def Finds (s : ByteArray) (k : Nat) (e : ByteArray) : Prop :=
  ∀ w, ML w → Calls Tryz.prog 85 #[.string (s.extract k s.size), .string e] w fun r w' => r = .returned (.int .i64 (Lib.index (s.data.toList.drop k) e.data.toList)) ∧ w' = w

theorem finds_small (s : ByteArray) (hs : s.size < 4294967281) (k : Nat) (e : ByteArray) : Finds s k e := fun w ⟨m, hm⟩ => by
  have := Tryz.strings_Index (s.extract k s.size) e m w (by rw [ByteArray.size_extract]; omega) hm
  rw [extract_end, list_data] at this
  rw [extract_end]
  exact this
theorem finds_one (s : ByteArray) (k : Nat) (c : UInt8) : Finds s k ⟨#[c]⟩ := fun w _ => by
  have h1 := Tryz.strings_Index_one (s.extract k s.size) c w
  rw [extract_end, list_data] at h1
  have : Lib.index (s.data.toList.drop k) (ByteArray.mk #[c]).data.toList = Lib.indexByte (s.data.toList.drop k) c := by
    show Lib.index _ [c] = _
    generalize s.data.toList.drop k = l
    induction l with
    | nil => rfl
    | cons b t ih =>
      unfold Lib.index Lib.indexByte
      rw [ih]
      have : List.isPrefixOf [c] (b :: t) = (b == c) := by
        rw [Bool.eq_iff_iff]; simp [List.isPrefixOf]; exact eq_comm
      rw [this]
  rw [this, extract_end]
  exact h1

theorem through_any (s : ByteArray) (hs : s.size ≤ 9223372036854775000) (k : Nat) (hk : k ≤ s.size) (e : ByteArray) (he : e.data.toList ≠ []) (hf : Finds s k e) (z : Int) (hz : z = (k : Int)) (w : World) (hm : ML w) :
    Calls Tryz.prog 52 #[.string s, .int .i64 z, .string e] w fun r w' => r = .returned (.int .i64 (((upL e.data.toList (s.data.toList.drop k)).map (· + k)).getD 0 : Nat)) ∧ w' = w := by
  subst hz
  have hix : Hid (Calls Tryz.prog 85 #[.string (s.extract k s.size), .string e] w fun r w' => r = .returned (.int .i64 (Lib.index (s.data.toList.drop k) e.data.toList)) ∧ w' = w) := hf w hm
  have hkk : (k : Int) ≤ (s.size : Int) := by omega
  rcases up_index e.data.toList he (s.data.toList.drop k) with ⟨h1, h2⟩ | ⟨j, h1, h2, h3⟩
  · rw [h2] at hix
    have HU := (show Hid _ from h1)
    clear h1 h2 hm hf
    go_enter Tryz.func52, Tryz.ntmps52
    go_wp2_with (go_at_call 85; refine hix.out.mono ?_; rintro r w1 ⟨rfl, hw⟩; subst w1)
    go_ret
    exact ⟨ret_int (by rw [HU.out]; rfl), rfl⟩
  · rw [h2] at hix
    simp only [List.length_drop, len_data] at h3
    have he2 : e.data.toList.length = e.size := len_data e
    have HU := (show Hid _ from h1)
    have hb : (k : Int) + (j : Int) + (e.size : Int) ≤ (s.size : Int) := by omega
    clear h1 h2 hm hf
    go_enter Tryz.func52, Tryz.ntmps52
    go_wp2_with (go_at_call 85; refine hix.out.mono ?_; rintro r w1 ⟨rfl, hw⟩; subst w1)
    go_ret
    refine ⟨ret_int ?_, rfl⟩
    rw [HU.out]
    simp
    omega

theorem pre_tag {c : UInt8} {s : List UInt8} (h : [60, c].isPrefixOf s = true) (h1 : c ≠ 47) (h2 : letterB c = false) : tagN s = 0 := by
  obtain ⟨t, rfl⟩ := pre_split h
  have := tag_no c t h1 h2
  show tagN (60 :: c :: t) = 0
  simp only [tagN, this]
theorem pre_mono {p q s : List UInt8} (h : (p ++ q).isPrefixOf s = true) : p.isPrefixOf s = true := by
  rw [List.isPrefixOf_iff_prefix] at h ⊢
  exact (List.prefix_append p q).trans h
theorem pre_len {p s : List UInt8} (h : p.isPrefixOf s = true) : p.length ≤ s.length := (List.isPrefixOf_iff_prefix.1 h).length_le

/-- A text that Raw's searches go over. -/
structure Search (s : ByteArray) : Prop where
  f3 : [60, 33, 45, 45].isPrefixOf s.data.toList = true → Finds s 4 ⟨#[45, 45, 62]⟩
  f4 : [60, 63].isPrefixOf s.data.toList = true → Finds s 2 ⟨#[63, 62]⟩
  f5 : [60, 33, 91, 67, 68, 65, 84, 65, 91].isPrefixOf s.data.toList = true → Finds s 9 ⟨#[93, 93, 62]⟩
theorem Search.small (s : ByteArray) (hs : s.size < 4294967281) : Search s := ⟨fun _ => finds_small s hs _ _, fun _ => finds_small s hs _ _, fun _ => finds_small s hs _ _⟩

set_option maxHeartbeats 4000000 in
/-- Raw, of any text over which its searches go. -/
theorem raw_of (s : ByteArray) (hs : s.size ≤ 9223372036854775000) (hS : Search s) (w : World) (hm : ML w) :
    Calls Tryz.prog 35 #[.string s] w fun e w' => e = .returned (.int .i64 (rawN s.data.toList : Int)) ∧ ∃ n, w' = w.drewN n := by
  have HM := (show Hid _ from hm)
  obtain ⟨p1, hp1⟩ : ∃ b, [60, 33, 45, 45, 62].isPrefixOf s.data.toList = b := ⟨_, rfl⟩
  have P1 := (show Hid _ from fun w => pre_any s ⟨#[60, 33, 45, 45, 62]⟩ p1 hp1 w)
  obtain ⟨p2, hp2⟩ : ∃ b, [60, 33, 45, 45, 45, 62].isPrefixOf s.data.toList = b := ⟨_, rfl⟩
  have P2 := (show Hid _ from fun w => pre_any s ⟨#[60, 33, 45, 45, 45, 62]⟩ p2 hp2 w)
  obtain ⟨p3, hp3⟩ : ∃ b, [60, 33, 45, 45].isPrefixOf s.data.toList = b := ⟨_, rfl⟩
  have P3 := (show Hid _ from fun w => pre_any s ⟨#[60, 33, 45, 45]⟩ p3 hp3 w)
  obtain ⟨p4, hp4⟩ : ∃ b, [60, 63].isPrefixOf s.data.toList = b := ⟨_, rfl⟩
  have P4 := (show Hid _ from fun w => pre_any s ⟨#[60, 63]⟩ p4 hp4 w)
  obtain ⟨p5, hp5⟩ : ∃ b, [60, 33, 91, 67, 68, 65, 84, 65, 91].isPrefixOf s.data.toList = b := ⟨_, rfl⟩
  have P5 := (show Hid _ from fun w => pre_any s ⟨#[60, 33, 91, 67, 68, 65, 84, 65, 91]⟩ p5 hp5 w)
  obtain ⟨p6, hp6⟩ : ∃ b, [60, 33].isPrefixOf s.data.toList = b := ⟨_, rfl⟩
  have P6 := (show Hid _ from fun w => pre_any s ⟨#[60, 33]⟩ p6 hp6 w)
  have HR : Hid (rawN s.data.toList = if 0 < tagN s.data.toList then tagN s.data.toList else (raw2 s.data.toList).getD 0) := rfl
  have hlen := len_data s
  cases p1
  case true =>
    have ht := pre_tag (c := 33) (pre_mono (p := [60, 33]) (q := [45, 45, 62]) hp1) (by decide) (by decide)
    have HE : Hid (rawN s.data.toList = 5) := by show _ = _; rw [HR.out, ht]; simp [raw2, hp1]
    clear hp1 hp2 hp3 hp4 hp5 hp6 ht hm
    go_enter Tryz.func35, Tryz.ntmps35
    go_wp2_with (first
            | (go_at_call_of 28 (Value.string ⟨#[60, 33, 45, 45, 62]⟩); refine (P1.out _).mono ?_; rintro e w1 ⟨rfl, hw⟩; subst w1)
            | (go_at_call_of 28 (Value.string ⟨#[60, 33, 45, 45, 45, 62]⟩); refine (P2.out _).mono ?_; rintro e w1 ⟨rfl, hw⟩; subst w1)
            | (go_at_call_of 28 (Value.string ⟨#[60, 33, 45, 45]⟩); refine (P3.out _).mono ?_; rintro e w1 ⟨rfl, hw⟩; subst w1)
            | (go_at_call_of 28 (Value.string ⟨#[60, 63]⟩); refine (P4.out _).mono ?_; rintro e w1 ⟨rfl, hw⟩; subst w1)
            | (go_at_call_of 28 (Value.string ⟨#[60, 33, 91, 67, 68, 65, 84, 65, 91]⟩); refine (P5.out _).mono ?_; rintro e w1 ⟨rfl, hw⟩; subst w1)
            | (go_at_call_of 28 (Value.string ⟨#[60, 33]⟩); refine (P6.out _).mono ?_; rintro e w1 ⟨rfl, hw⟩; subst w1))
    go_ret
    exact ⟨ret_int (by rw [HE.out]; rfl), 0, rfl⟩
  cases p2
  case true =>
    have ht := pre_tag (c := 33) (pre_mono (p := [60, 33]) (q := [45, 45, 45, 62]) hp2) (by decide) (by decide)
    have HE : Hid (rawN s.data.toList = 6) := by show _ = _; rw [HR.out, ht]; simp [raw2, hp1, hp2]
    clear hp1 hp2 hp3 hp4 hp5 hp6 ht hm
    go_enter Tryz.func35, Tryz.ntmps35
    go_wp2_with (first
            | (go_at_call_of 28 (Value.string ⟨#[60, 33, 45, 45, 62]⟩); refine (P1.out _).mono ?_; rintro e w1 ⟨rfl, hw⟩; subst w1)
            | (go_at_call_of 28 (Value.string ⟨#[60, 33, 45, 45, 45, 62]⟩); refine (P2.out _).mono ?_; rintro e w1 ⟨rfl, hw⟩; subst w1)
            | (go_at_call_of 28 (Value.string ⟨#[60, 33, 45, 45]⟩); refine (P3.out _).mono ?_; rintro e w1 ⟨rfl, hw⟩; subst w1)
            | (go_at_call_of 28 (Value.string ⟨#[60, 63]⟩); refine (P4.out _).mono ?_; rintro e w1 ⟨rfl, hw⟩; subst w1)
            | (go_at_call_of 28 (Value.string ⟨#[60, 33, 91, 67, 68, 65, 84, 65, 91]⟩); refine (P5.out _).mono ?_; rintro e w1 ⟨rfl, hw⟩; subst w1)
            | (go_at_call_of 28 (Value.string ⟨#[60, 33]⟩); refine (P6.out _).mono ?_; rintro e w1 ⟨rfl, hw⟩; subst w1))
    go_ret
    exact ⟨ret_int (by rw [HE.out]; rfl), 0, rfl⟩
  cases p3
  case true =>
    have ht := pre_tag (c := 33) (pre_mono (p := [60, 33]) (q := [45, 45]) hp3) (by decide) (by decide)
    have hl := pre_len hp3
    have HE : Hid (rawN s.data.toList = ((upL [45, 45, 62] (s.data.toList.drop 4)).map (· + 4)).getD 0) := by show _ = _; rw [HR.out, ht]; simp [raw2, hp1, hp2, hp3]
    have HT := (show Hid _ from fun w hm => through_any s hs 4 (by simp at hl; omega) ⟨#[45, 45, 62]⟩ (by simp) (hS.f3 hp3) 4 rfl w hm)
    clear hp1 hp2 hp3 hp4 hp5 hp6 ht
    go_enter Tryz.func35, Tryz.ntmps35
    go_wp2_with (first
            | (go_at_call_of 28 (Value.string ⟨#[60, 33, 45, 45, 62]⟩); refine (P1.out _).mono ?_; rintro e w1 ⟨rfl, hw⟩; subst w1)
            | (go_at_call_of 28 (Value.string ⟨#[60, 33, 45, 45, 45, 62]⟩); refine (P2.out _).mono ?_; rintro e w1 ⟨rfl, hw⟩; subst w1)
            | (go_at_call_of 28 (Value.string ⟨#[60, 33, 45, 45]⟩); refine (P3.out _).mono ?_; rintro e w1 ⟨rfl, hw⟩; subst w1)
            | (go_at_call_of 28 (Value.string ⟨#[60, 63]⟩); refine (P4.out _).mono ?_; rintro e w1 ⟨rfl, hw⟩; subst w1)
            | (go_at_call_of 28 (Value.string ⟨#[60, 33, 91, 67, 68, 65, 84, 65, 91]⟩); refine (P5.out _).mono ?_; rintro e w1 ⟨rfl, hw⟩; subst w1)
            | (go_at_call_of 28 (Value.string ⟨#[60, 33]⟩); refine (P6.out _).mono ?_; rintro e w1 ⟨rfl, hw⟩; subst w1)
            | (go_at_call 52; refine (HT.out _ hm).mono ?_; rintro e w1 ⟨rfl, hw⟩; subst w1))
    go_ret
    exact ⟨ret_int (by rw [HE.out]), 0, rfl⟩
  cases p4
  case true =>
    have ht := pre_tag (c := 63) hp4 (by decide) (by decide)
    have hl := pre_len hp4
    have HE : Hid (rawN s.data.toList = ((upL [63, 62] (s.data.toList.drop 2)).map (· + 2)).getD 0) := by show _ = _; rw [HR.out, ht]; simp [raw2, hp1, hp2, hp3, hp4]
    have HT := (show Hid _ from fun w hm => through_any s hs 2 (by simp at hl; omega) ⟨#[63, 62]⟩ (by simp) (hS.f4 hp4) 2 rfl w hm)
    clear hp1 hp2 hp3 hp4 hp5 hp6 ht
    go_enter Tryz.func35, Tryz.ntmps35
    go_wp2_with (first
            | (go_at_call_of 28 (Value.string ⟨#[60, 33, 45, 45, 62]⟩); refine (P1.out _).mono ?_; rintro e w1 ⟨rfl, hw⟩; subst w1)
            | (go_at_call_of 28 (Value.string ⟨#[60, 33, 45, 45, 45, 62]⟩); refine (P2.out _).mono ?_; rintro e w1 ⟨rfl, hw⟩; subst w1)
            | (go_at_call_of 28 (Value.string ⟨#[60, 33, 45, 45]⟩); refine (P3.out _).mono ?_; rintro e w1 ⟨rfl, hw⟩; subst w1)
            | (go_at_call_of 28 (Value.string ⟨#[60, 63]⟩); refine (P4.out _).mono ?_; rintro e w1 ⟨rfl, hw⟩; subst w1)
            | (go_at_call_of 28 (Value.string ⟨#[60, 33, 91, 67, 68, 65, 84, 65, 91]⟩); refine (P5.out _).mono ?_; rintro e w1 ⟨rfl, hw⟩; subst w1)
            | (go_at_call_of 28 (Value.string ⟨#[60, 33]⟩); refine (P6.out _).mono ?_; rintro e w1 ⟨rfl, hw⟩; subst w1)
            | (go_at_call 52; refine (HT.out _ hm).mono ?_; rintro e w1 ⟨rfl, hw⟩; subst w1))
    go_ret
    exact ⟨ret_int (by rw [HE.out]), 0, rfl⟩
  cases p5
  case true =>
    have ht := pre_tag (c := 33) (pre_mono (p := [60, 33]) (q := [91, 67, 68, 65, 84, 65, 91]) hp5) (by decide) (by decide)
    have hl := pre_len hp5
    have HE : Hid (rawN s.data.toList = ((upL [93, 93, 62] (s.data.toList.drop 9)).map (· + 9)).getD 0) := by show _ = _; rw [HR.out, ht]; simp [raw2, hp1, hp2, hp3, hp4, hp5]
    have HT := (show Hid _ from fun w hm => through_any s hs 9 (by simp at hl; omega) ⟨#[93, 93, 62]⟩ (by simp) (hS.f5 hp5) 9 rfl w hm)
    clear hp1 hp2 hp3 hp4 hp5 hp6 ht
    go_enter Tryz.func35, Tryz.ntmps35
    go_wp2_with (first
            | (go_at_call_of 28 (Value.string ⟨#[60, 33, 45, 45, 62]⟩); refine (P1.out _).mono ?_; rintro e w1 ⟨rfl, hw⟩; subst w1)
            | (go_at_call_of 28 (Value.string ⟨#[60, 33, 45, 45, 45, 62]⟩); refine (P2.out _).mono ?_; rintro e w1 ⟨rfl, hw⟩; subst w1)
            | (go_at_call_of 28 (Value.string ⟨#[60, 33, 45, 45]⟩); refine (P3.out _).mono ?_; rintro e w1 ⟨rfl, hw⟩; subst w1)
            | (go_at_call_of 28 (Value.string ⟨#[60, 63]⟩); refine (P4.out _).mono ?_; rintro e w1 ⟨rfl, hw⟩; subst w1)
            | (go_at_call_of 28 (Value.string ⟨#[60, 33, 91, 67, 68, 65, 84, 65, 91]⟩); refine (P5.out _).mono ?_; rintro e w1 ⟨rfl, hw⟩; subst w1)
            | (go_at_call_of 28 (Value.string ⟨#[60, 33]⟩); refine (P6.out _).mono ?_; rintro e w1 ⟨rfl, hw⟩; subst w1)
            | (go_at_call 52; refine (HT.out _ hm).mono ?_; rintro e w1 ⟨rfl, hw⟩; subst w1))
    go_ret
    exact ⟨ret_int (by rw [HE.out]), 0, rfl⟩
  have hr2 : raw2 s.data.toList = declL s.data.toList := by simp [raw2, hp1, hp2, hp3, hp4, hp5]
  have HG := (show Hid _ from fun w => tag_any s hs w)
  clear hp1 hp2 hp3 hp4 hp5
  cases p6
  case false =>
    have hd : declL s.data.toList = none := by
      match h : s.data.toList with
      | [] => rfl
      | [_] => rfl
      | [_, _] => rfl
      | a :: b :: c :: t =>
        simp only [declL]
        rw [if_neg]
        rintro ⟨h1, h2, _⟩
        rw [h, h1, h2] at hp6
        cases hp6
    have HE : Hid (rawN s.data.toList = tagN s.data.toList) := by
      show _ = _
      rw [HR.out, hr2, hd]
      split
      · rfl
      · simp; omega
    clear hr2 hd hp6
    go_enter Tryz.func35, Tryz.ntmps35
    go_wp2_with (first
            | (go_at_call_of 28 (Value.string ⟨#[60, 33, 45, 45, 62]⟩); refine (P1.out _).mono ?_; rintro e w1 ⟨rfl, hw⟩; subst w1)
            | (go_at_call_of 28 (Value.string ⟨#[60, 33, 45, 45, 45, 62]⟩); refine (P2.out _).mono ?_; rintro e w1 ⟨rfl, hw⟩; subst w1)
            | (go_at_call_of 28 (Value.string ⟨#[60, 33, 45, 45]⟩); refine (P3.out _).mono ?_; rintro e w1 ⟨rfl, hw⟩; subst w1)
            | (go_at_call_of 28 (Value.string ⟨#[60, 63]⟩); refine (P4.out _).mono ?_; rintro e w1 ⟨rfl, hw⟩; subst w1)
            | (go_at_call_of 28 (Value.string ⟨#[60, 33, 91, 67, 68, 65, 84, 65, 91]⟩); refine (P5.out _).mono ?_; rintro e w1 ⟨rfl, hw⟩; subst w1)
            | (go_at_call_of 28 (Value.string ⟨#[60, 33]⟩); refine (P6.out _).mono ?_; rintro e w1 ⟨rfl, hw⟩; subst w1)
            | (go_at_call 54; refine (HG.out _).mono ?_; rintro e w1 ⟨rfl, n, hw⟩; subst w1))
    go_ret
    exact ⟨ret_int (by rw [HE.out]), _, rfl⟩
  obtain ⟨u, hu⟩ := pre_split hp6
  have ht := pre_tag (c := 33) hp6 (by decide) (by decide)
  cases u with
  | nil =>
    have hsz : s.size = 2 := by rw [← hlen, hu]; rfl
    have hgt : ¬ (2 : Int) < (s.size : Int) := by omega
    have HE : Hid (rawN s.data.toList = tagN s.data.toList) := by
      show _ = _
      rw [HR.out, hr2, ht, hu]
      rfl
    clear hr2 hp6 hu ht
    go_enter Tryz.func35, Tryz.ntmps35
    go_wp2_with (first
            | (go_at_call_of 28 (Value.string ⟨#[60, 33, 45, 45, 62]⟩); refine (P1.out _).mono ?_; rintro e w1 ⟨rfl, hw⟩; subst w1)
            | (go_at_call_of 28 (Value.string ⟨#[60, 33, 45, 45, 45, 62]⟩); refine (P2.out _).mono ?_; rintro e w1 ⟨rfl, hw⟩; subst w1)
            | (go_at_call_of 28 (Value.string ⟨#[60, 33, 45, 45]⟩); refine (P3.out _).mono ?_; rintro e w1 ⟨rfl, hw⟩; subst w1)
            | (go_at_call_of 28 (Value.string ⟨#[60, 63]⟩); refine (P4.out _).mono ?_; rintro e w1 ⟨rfl, hw⟩; subst w1)
            | (go_at_call_of 28 (Value.string ⟨#[60, 33, 91, 67, 68, 65, 84, 65, 91]⟩); refine (P5.out _).mono ?_; rintro e w1 ⟨rfl, hw⟩; subst w1)
            | (go_at_call_of 28 (Value.string ⟨#[60, 33]⟩); refine (P6.out _).mono ?_; rintro e w1 ⟨rfl, hw⟩; subst w1)
            | (go_at_call 54; refine (HG.out _).mono ?_; rintro e w1 ⟨rfl, n, hw⟩; subst w1))
    go_ret
    exact ⟨ret_int (by rw [HE.out]), _, rfl⟩
  | cons c t =>
    have hsz : 2 < s.size := by rw [← hlen, hu]; simp
    have hgt : (2 : Int) < (s.size : Int) := by omega
    have hb : s[2] = c := by rw [byte_at s 2 hsz, hu]; rfl
    have hd : declL s.data.toList = if letN c.toNat = true then (upL [62] (s.data.toList.drop 3)).map (· + 3) else none := by
      rw [hu]
      show declL (60 :: 33 :: c :: t) = _
      simp only [declL, true_and]
      rfl
    cases hl : letN c.toNat
    · have HE : Hid (rawN s.data.toList = tagN s.data.toList) := by
        show _ = _
        rw [HR.out, hr2, ht, hd, hl]
        rfl
      clear hr2 hp6 hu ht hd
      go_enter Tryz.func35, Tryz.ntmps35
      go_wp2_with (first
              | (go_at_call_of 28 (Value.string ⟨#[60, 33, 45, 45, 62]⟩); refine (P1.out _).mono ?_; rintro e w1 ⟨rfl, hw⟩; subst w1)
              | (go_at_call_of 28 (Value.string ⟨#[60, 33, 45, 45, 45, 62]⟩); refine (P2.out _).mono ?_; rintro e w1 ⟨rfl, hw⟩; subst w1)
              | (go_at_call_of 28 (Value.string ⟨#[60, 33, 45, 45]⟩); refine (P3.out _).mono ?_; rintro e w1 ⟨rfl, hw⟩; subst w1)
              | (go_at_call_of 28 (Value.string ⟨#[60, 63]⟩); refine (P4.out _).mono ?_; rintro e w1 ⟨rfl, hw⟩; subst w1)
              | (go_at_call_of 28 (Value.string ⟨#[60, 33, 91, 67, 68, 65, 84, 65, 91]⟩); refine (P5.out _).mono ?_; rintro e w1 ⟨rfl, hw⟩; subst w1)
              | (go_at_call_of 28 (Value.string ⟨#[60, 33]⟩); refine (P6.out _).mono ?_; rintro e w1 ⟨rfl, hw⟩; subst w1)
              | (go_at_call 53; refine (letter_any _ _).mono ?_; rintro e w1 ⟨rfl, hw⟩; subst w1)
              | (go_at_call 54; refine (HG.out _).mono ?_; rintro e w1 ⟨rfl, n, hw⟩; subst w1))
      go_ret
      exact ⟨ret_int (by rw [HE.out]), _, rfl⟩
    · have HE : Hid (rawN s.data.toList = ((upL [62] (s.data.toList.drop 3)).map (· + 3)).getD 0) := by
        show _ = _
        rw [HR.out, hr2, ht, hd, hl]
        rfl
      have HT := (show Hid _ from fun w hm => through_any s hs 3 (by omega) ⟨#[62]⟩ (by simp) (finds_one s 3 62) 3 rfl w hm)
      clear hr2 hp6 hu ht hd
      go_enter Tryz.func35, Tryz.ntmps35
      go_wp2_with (first
              | (go_at_call_of 28 (Value.string ⟨#[60, 33, 45, 45, 62]⟩); refine (P1.out _).mono ?_; rintro e w1 ⟨rfl, hw⟩; subst w1)
              | (go_at_call_of 28 (Value.string ⟨#[60, 33, 45, 45, 45, 62]⟩); refine (P2.out _).mono ?_; rintro e w1 ⟨rfl, hw⟩; subst w1)
              | (go_at_call_of 28 (Value.string ⟨#[60, 33, 45, 45]⟩); refine (P3.out _).mono ?_; rintro e w1 ⟨rfl, hw⟩; subst w1)
              | (go_at_call_of 28 (Value.string ⟨#[60, 63]⟩); refine (P4.out _).mono ?_; rintro e w1 ⟨rfl, hw⟩; subst w1)
              | (go_at_call_of 28 (Value.string ⟨#[60, 33, 91, 67, 68, 65, 84, 65, 91]⟩); refine (P5.out _).mono ?_; rintro e w1 ⟨rfl, hw⟩; subst w1)
              | (go_at_call_of 28 (Value.string ⟨#[60, 33]⟩); refine (P6.out _).mono ?_; rintro e w1 ⟨rfl, hw⟩; subst w1)
              | (go_at_call 53; refine (letter_any _ _).mono ?_; rintro e w1 ⟨rfl, hw⟩; subst w1)
              | (go_at_call 52; refine (HT.out _ hm).mono ?_; rintro e w1 ⟨rfl, hw⟩; subst w1))
      go_ret
      exact ⟨ret_int (by rw [HE.out]), 0, rfl⟩

/-- Raw, of a text that is not too long for the library's search. -/
theorem raw_any (s : ByteArray) (hs : s.size < 4294967281) (w : World) (hm : ML w) :
    Calls Tryz.prog 35 #[.string s] w fun e w' => e = .returned (.int .i64 (rawN s.data.toList : Int)) ∧ ∃ n, w' = w.drewN n :=
  raw_of s (by omega) (Search.small s hs) w hm

end Go.Proofs.YtjdijlaoeoikhaaGreatDoor
