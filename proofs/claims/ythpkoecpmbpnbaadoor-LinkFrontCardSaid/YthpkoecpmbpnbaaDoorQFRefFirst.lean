/- The document's First: the character with which bytes begin, as the model decodes it. -/
import Derived.Test.YthpkoecpmbpnbaaDoorQFRefPut
set_option linter.unusedVariables false
namespace Go.Proofs.YthpkoecpmbpnbaaDoor.run
open Go.RowKit

def tailB (c : Int) : Bool := decide (128 ≤ c ∧ c < 192)

theorem tail_any (c : Int) (w : World) :
    Calls Tryd.prog 52 #[.int .u8 c] w fun e w' => e = .returned (.bool (tailB c)) ∧ w = w' := by
  by_cases h1 : 128 ≤ c
  all_goals
    go_enter Tryd.func52, Tryd.ntmps52
    go_wp2
    go_ret
    exact ⟨ret_bool (by rw [Bool.eq_iff_iff]; simp [tailB]; omega), rfl⟩

/-- The number that a character's bytes make, up to the byte m. -/
def rv (x : Int) (s : ByteArray) : Nat → Int
  | 0 => x
  | m + 1 => 64 * rv x s m + ((s.data.toList.getD (m + 1) 0).toNat : Int) - 128

def Tails (s : ByteArray) (m : Nat) : Prop := ∀ j, 1 ≤ j → j ≤ m → 128 ≤ (s.data.toList.getD j 0).toNat ∧ (s.data.toList.getD j 0).toNat < 192

theorem rv_bd (x : Int) (s : ByteArray) (h0 : 0 ≤ x) (h1 : x ≤ 31) (m : Nat) (hm : m ≤ 3) (ht : Tails s m) : 0 ≤ rv x s m ∧ rv x s m ≤ 8388607 := by
  have e1 : rv x s 1 = 64 * x + ((s.data.toList.getD 1 0).toNat : Int) - 128 := rfl
  have e2 : rv x s 2 = 64 * rv x s 1 + ((s.data.toList.getD 2 0).toNat : Int) - 128 := rfl
  have e3 : rv x s 3 = 64 * rv x s 2 + ((s.data.toList.getD 3 0).toNat : Int) - 128 := rfl
  have hc : m = 0 ∨ m = 1 ∨ m = 2 ∨ m = 3 := by omega
  rcases hc with rfl | rfl | rfl | rfl
  · show 0 ≤ x ∧ x ≤ 8388607; omega
  · have := ht 1 (by omega) (by omega); omega
  · have := ht 1 (by omega) (by omega); have := ht 2 (by omega) (by omega); omega
  · have := ht 1 (by omega) (by omega); have := ht 2 (by omega) (by omega); have := ht 3 (by omega) (by omega); omega

def Good (n : Nat) (least x : Int) (s : ByteArray) : Prop := n + 1 ≤ s.size ∧ Tails s n ∧ least ≤ rv x s n ∧ (rv x s n < 55296 ∨ (57343 < rv x s n ∧ rv x s n ≤ 1114111))
def FirstIs (n : Nat) (least x : Int) (s : ByteArray) (r k : Int) : Prop := (r = 65533 ∧ k = 1 ∧ ¬ Good n least x s) ∨ (r = rv x s n ∧ k = (n : Int) + 1 ∧ Good n least x s)

theorem first_no {n : Nat} {least x : Int} {s : ByteArray} (h : ¬ (n + 1 ≤ s.size ∧ Tails s n ∧ least ≤ rv x s n ∧ (rv x s n < 55296 ∨ (57343 < rv x s n ∧ rv x s n ≤ 1114111)))) : FirstIs n least x s 65533 1 := .inl ⟨rfl, rfl, h⟩
theorem first_yes {n : Nat} {least x k : Int} {s : ByteArray} (hk : k = (n : Int) + 1) (h1 : n + 1 ≤ s.size) (h2 : Tails s n) (h3 : least ≤ rv x s n) (h4 : rv x s n < 55296 ∨ (57343 < rv x s n ∧ rv x s n ≤ 1114111)) : FirstIs n least x s (rv x s n) k := .inr ⟨rfl, hk, h1, h2, h3, h4⟩

theorem ret_two {a b c d : Int} (h1 : a = c) (h2 : b = d) : Ending.returned (.tuple #[.int .i64 a, .int .i64 b]) = .returned (.tuple #[.int .i64 c, .int .i64 d]) := by rw [h1, h2]

theorem head_at (s : ByteArray) (h : 0 < s.size) : (s.data.toList.getD 0 0).toNat = s[0].toNat := by rw [byte_at s 0 h]

set_option maxHeartbeats 1000000 in
set_option maxRecDepth 100000 in
theorem first_one (s : ByteArray) (w : World) (h : 0 < s.size) (hb : s[0].toNat < 128) :
    Calls Tryd.prog 37 #[.string s] w fun e w' => e = .returned (.tuple #[.int .i64 (s[0].toNat : Int), .int .i64 1]) ∧ w = w' := by
  go_enter Tryd.func37, Tryd.ntmps37
  go_wp2
  go_ret2
  exact ⟨rfl, rfl⟩

set_option maxHeartbeats 1000000 in
set_option maxRecDepth 100000 in
theorem first_bad (s : ByteArray) (w : World) (h : 0 < s.size) (hb : (128 ≤ s[0].toNat ∧ s[0].toNat < 194) ∨ 245 ≤ s[0].toNat) :
    Calls Tryd.prog 37 #[.string s] w fun e w' => e = .returned (.tuple #[.int .i64 65533, .int .i64 1]) ∧ w = w' := by
  have hb8 : s[0].toNat < 256 := UInt8.toNat_lt _
  rcases hb with ⟨h1, h2⟩ | h1
  all_goals
    go_enter Tryd.func37, Tryd.ntmps37
    go_wp2
    go_ret2
    exact ⟨rfl, rfl⟩

set_option maxHeartbeats 4000000 in
set_option maxRecDepth 100000 in
theorem first_2 (s : ByteArray) (w : World) (x : Int) (h : 0 < s.size) (HX : Hid (x = (s[0].toNat : Int) - 192)) (hb : 194 ≤ s[0].toNat) (hb' : s[0].toNat < 224) (hs : s.size ≤ 1073741824) :
    Calls Tryd.prog 37 #[.string s] w fun e w' => (∃ r k : Int, e = .returned (.tuple #[.int .i64 r, .int .i64 k]) ∧ FirstIs 1 128 x s r k) ∧ w = w' := by
  have hx0 : 0 ≤ x := by have := HX.out; omega
  have hx1 : x ≤ 31 := by have := HX.out; omega
  have z128 : decide ((s[0].toNat : Int) < 128) = false := by simp; omega
  have zt : decide ((s[0].toNat : Int) < 224) = true := by simp; omega
  by_cases hl : s.size < 2
  · go_enter Tryd.func37, Tryd.ntmps37
    go_wp2
    go_ret2
    exact ⟨⟨65533, 1, rfl, first_no fun hh => by omega⟩, rfl⟩
  · have zs : decide ((s.size : Int) < 2) = false := by simp; omega
    go_enter Tryd.func37, Tryd.ntmps37
    go_wp2
    go_loopw [6, 8] (fun r i wr => Hid (w = wr) ∧ ∃ m : Nat, m + 1 ≤ 2 ∧ i = .int .i64 ((m : Int) + 1) ∧ r = .int .i64 (rv x s m) ∧ Tails s m) (fun _ i _ => 2 - (intOf i).toNat)
    case atStart => exact ⟨rfl, 0, by omega, rfl, by show _ = Value.int IntKind.i64 x; rw [HX.out], fun j h1 h2 => by omega⟩
    case round =>
      obtain ⟨HW, m, hm, rfl, rfl, ht⟩ := hrel
      have hbd := rv_bd x s hx0 hx1 m (by omega) ht
      obtain ⟨g0, g1⟩ := hbd
      by_cases hlt : m + 1 < 2
      · have hms : m + 1 < s.size := by omega
        have hbm := byte_at s (m + 1) hms
        have HR : Hid (rv x s (m + 1) = 64 * rv x s m + (s[m + 1].toNat : Int) - 128) := by rw [hbm]; rfl
        have hidx : ((m : Int) + 1) < (s.size : Int) := by omega
        cases htb : tailB (s[m + 1].toNat : Int) with
        | true =>
          have ht2 : Hid (Tails s (m + 1)) := by
            intro j h1 h2
            by_cases hj : j ≤ m
            · exact ht j h1 hj
            · have hj' : j = m + 1 := by omega
              subst hj'
              rw [← hbm]
              simp only [tailB, decide_eq_true_eq] at htb
              omega
          have hb8 : s[m + 1].toNat < 256 := UInt8.toNat_lt _
          clear hbm ht
          go_wp2_with (go_at_call 52; refine (tail_any _ _).mono ?_; rintro e w' ⟨rfl, rfl⟩)
          go_roundw
          case rel => exact ⟨HW, m + 1, by omega, by go_num, by rw [HR.out], ht2.out⟩
          case measure => simp [intOf]; omega
        | false =>
          have hno : Hid (¬ Tails s 1) := by
            intro hh
            have := hh (m + 1) (by omega) (by omega)
            rw [← hbm] at this
            simp only [tailB, decide_eq_false_iff_not] at htb
            omega
          clear hbm ht
          go_wp2_with (go_at_call 52; refine (tail_any _ _).mono ?_; rintro e w' ⟨rfl, rfl⟩)
          go_ret2
          exact ⟨⟨65533, 1, rfl, first_no fun hh => hno.out hh.2.1⟩, HW.out⟩
      · have hme : m = 1 := by omega
        subst hme
        have HT : Hid (Tails s 1) := ht
        clear ht
        have hc : rv x s 1 < 128 ∨ (128 ≤ rv x s 1 ∧ rv x s 1 < 55296) ∨ (128 ≤ rv x s 1 ∧ 55296 ≤ rv x s 1 ∧ rv x s 1 ≤ 57343) ∨ (128 ≤ rv x s 1 ∧ 57343 < rv x s 1 ∧ rv x s 1 ≤ 1114111) ∨ 1114111 < rv x s 1 := by omega
        rcases hc with hc | ⟨hc, hc1⟩ | ⟨hc, hc1, hc2⟩ | ⟨hc, hc1, hc2⟩ | hc
        case inl =>
          go_wp2
          go_ret2
          exact ⟨⟨65533, 1, rfl, first_no fun hh => by omega⟩, HW.out⟩
        case inr.inl =>
          have d0 : decide (rv x s 1 < 128) = false := by simp; omega
          have d1 : decide ((55296 : Int) ≤ rv x s 1) = false := by simp; omega
          have d3 : decide ((1114111 : Int) < rv x s 1) = false := by simp; omega
          go_wp2
          go_ret2
          exact ⟨⟨rv x s 1, 2, rfl, first_yes (by omega) (by omega) HT.out (by omega) (by omega)⟩, HW.out⟩
        case inr.inr.inl =>
          have d0 : decide (rv x s 1 < 128) = false := by simp; omega
          go_wp2
          go_ret2
          exact ⟨⟨65533, 1, rfl, first_no fun hh => by omega⟩, HW.out⟩
        case inr.inr.inr.inl =>
          have d0 : decide (rv x s 1 < 128) = false := by simp; omega
          have d2 : decide (rv x s 1 ≤ 57343) = false := by simp; omega
          have d3 : decide ((1114111 : Int) < rv x s 1) = false := by simp; omega
          go_wp2
          go_ret2
          exact ⟨⟨rv x s 1, 2, rfl, first_yes (by omega) (by omega) HT.out (by omega) (by omega)⟩, HW.out⟩
        case inr.inr.inr.inr =>
          have d0 : decide (rv x s 1 < 128) = false := by simp; omega
          have d2 : decide (rv x s 1 ≤ 57343) = false := by simp; omega
          go_wp2
          go_ret2
          exact ⟨⟨65533, 1, rfl, first_no fun hh => by omega⟩, HW.out⟩

set_option maxHeartbeats 4000000 in
set_option maxRecDepth 100000 in
theorem first_3 (s : ByteArray) (w : World) (x : Int) (h : 0 < s.size) (HX : Hid (x = (s[0].toNat : Int) - 224)) (hb : 224 ≤ s[0].toNat) (hb' : s[0].toNat < 240) (hs : s.size ≤ 1073741824) :
    Calls Tryd.prog 37 #[.string s] w fun e w' => (∃ r k : Int, e = .returned (.tuple #[.int .i64 r, .int .i64 k]) ∧ FirstIs 2 2048 x s r k) ∧ w = w' := by
  have hx0 : 0 ≤ x := by have := HX.out; omega
  have hx1 : x ≤ 31 := by have := HX.out; omega
  have z128 : decide ((s[0].toNat : Int) < 128) = false := by simp; omega
  have z224 : decide ((s[0].toNat : Int) < 224) = false := by simp; omega
  have zt : decide ((s[0].toNat : Int) < 240) = true := by simp; omega
  by_cases hl : s.size < 3
  · go_enter Tryd.func37, Tryd.ntmps37
    go_wp2
    go_ret2
    exact ⟨⟨65533, 1, rfl, first_no fun hh => by omega⟩, rfl⟩
  · have zs : decide ((s.size : Int) < 3) = false := by simp; omega
    go_enter Tryd.func37, Tryd.ntmps37
    go_wp2
    go_loopw [6, 8] (fun r i wr => Hid (w = wr) ∧ ∃ m : Nat, m + 1 ≤ 3 ∧ i = .int .i64 ((m : Int) + 1) ∧ r = .int .i64 (rv x s m) ∧ Tails s m) (fun _ i _ => 3 - (intOf i).toNat)
    case atStart => exact ⟨rfl, 0, by omega, rfl, by show _ = Value.int IntKind.i64 x; rw [HX.out], fun j h1 h2 => by omega⟩
    case round =>
      obtain ⟨HW, m, hm, rfl, rfl, ht⟩ := hrel
      have hbd := rv_bd x s hx0 hx1 m (by omega) ht
      obtain ⟨g0, g1⟩ := hbd
      by_cases hlt : m + 1 < 3
      · have hms : m + 1 < s.size := by omega
        have hbm := byte_at s (m + 1) hms
        have HR : Hid (rv x s (m + 1) = 64 * rv x s m + (s[m + 1].toNat : Int) - 128) := by rw [hbm]; rfl
        have hidx : ((m : Int) + 1) < (s.size : Int) := by omega
        cases htb : tailB (s[m + 1].toNat : Int) with
        | true =>
          have ht2 : Hid (Tails s (m + 1)) := by
            intro j h1 h2
            by_cases hj : j ≤ m
            · exact ht j h1 hj
            · have hj' : j = m + 1 := by omega
              subst hj'
              rw [← hbm]
              simp only [tailB, decide_eq_true_eq] at htb
              omega
          have hb8 : s[m + 1].toNat < 256 := UInt8.toNat_lt _
          clear hbm ht
          go_wp2_with (go_at_call 52; refine (tail_any _ _).mono ?_; rintro e w' ⟨rfl, rfl⟩)
          go_roundw
          case rel => exact ⟨HW, m + 1, by omega, by go_num, by rw [HR.out], ht2.out⟩
          case measure => simp [intOf]; omega
        | false =>
          have hno : Hid (¬ Tails s 2) := by
            intro hh
            have := hh (m + 1) (by omega) (by omega)
            rw [← hbm] at this
            simp only [tailB, decide_eq_false_iff_not] at htb
            omega
          clear hbm ht
          go_wp2_with (go_at_call 52; refine (tail_any _ _).mono ?_; rintro e w' ⟨rfl, rfl⟩)
          go_ret2
          exact ⟨⟨65533, 1, rfl, first_no fun hh => hno.out hh.2.1⟩, HW.out⟩
      · have hme : m = 2 := by omega
        subst hme
        have HT : Hid (Tails s 2) := ht
        clear ht
        have hc : rv x s 2 < 2048 ∨ (2048 ≤ rv x s 2 ∧ rv x s 2 < 55296) ∨ (2048 ≤ rv x s 2 ∧ 55296 ≤ rv x s 2 ∧ rv x s 2 ≤ 57343) ∨ (2048 ≤ rv x s 2 ∧ 57343 < rv x s 2 ∧ rv x s 2 ≤ 1114111) ∨ 1114111 < rv x s 2 := by omega
        rcases hc with hc | ⟨hc, hc1⟩ | ⟨hc, hc1, hc2⟩ | ⟨hc, hc1, hc2⟩ | hc
        case inl =>
          go_wp2
          go_ret2
          exact ⟨⟨65533, 1, rfl, first_no fun hh => by omega⟩, HW.out⟩
        case inr.inl =>
          have d0 : decide (rv x s 2 < 2048) = false := by simp; omega
          have d1 : decide ((55296 : Int) ≤ rv x s 2) = false := by simp; omega
          have d3 : decide ((1114111 : Int) < rv x s 2) = false := by simp; omega
          go_wp2
          go_ret2
          exact ⟨⟨rv x s 2, 3, rfl, first_yes (by omega) (by omega) HT.out (by omega) (by omega)⟩, HW.out⟩
        case inr.inr.inl =>
          have d0 : decide (rv x s 2 < 2048) = false := by simp; omega
          go_wp2
          go_ret2
          exact ⟨⟨65533, 1, rfl, first_no fun hh => by omega⟩, HW.out⟩
        case inr.inr.inr.inl =>
          have d0 : decide (rv x s 2 < 2048) = false := by simp; omega
          have d2 : decide (rv x s 2 ≤ 57343) = false := by simp; omega
          have d3 : decide ((1114111 : Int) < rv x s 2) = false := by simp; omega
          go_wp2
          go_ret2
          exact ⟨⟨rv x s 2, 3, rfl, first_yes (by omega) (by omega) HT.out (by omega) (by omega)⟩, HW.out⟩
        case inr.inr.inr.inr =>
          have d0 : decide (rv x s 2 < 2048) = false := by simp; omega
          have d2 : decide (rv x s 2 ≤ 57343) = false := by simp; omega
          go_wp2
          go_ret2
          exact ⟨⟨65533, 1, rfl, first_no fun hh => by omega⟩, HW.out⟩

set_option maxHeartbeats 4000000 in
set_option maxRecDepth 100000 in
theorem first_4 (s : ByteArray) (w : World) (x : Int) (h : 0 < s.size) (HX : Hid (x = (s[0].toNat : Int) - 240)) (hb : 240 ≤ s[0].toNat) (hb' : s[0].toNat < 245) (hs : s.size ≤ 1073741824) :
    Calls Tryd.prog 37 #[.string s] w fun e w' => (∃ r k : Int, e = .returned (.tuple #[.int .i64 r, .int .i64 k]) ∧ FirstIs 3 65536 x s r k) ∧ w = w' := by
  have hx0 : 0 ≤ x := by have := HX.out; omega
  have hx1 : x ≤ 31 := by have := HX.out; omega
  have z128 : decide ((s[0].toNat : Int) < 128) = false := by simp; omega
  have z224 : decide ((s[0].toNat : Int) < 224) = false := by simp; omega
  have z240 : decide ((s[0].toNat : Int) < 240) = false := by simp; omega
  have zt : decide ((s[0].toNat : Int) < 245) = true := by simp; omega
  by_cases hl : s.size < 4
  · go_enter Tryd.func37, Tryd.ntmps37
    go_wp2
    go_ret2
    exact ⟨⟨65533, 1, rfl, first_no fun hh => by omega⟩, rfl⟩
  · have zs : decide ((s.size : Int) < 4) = false := by simp; omega
    go_enter Tryd.func37, Tryd.ntmps37
    go_wp2
    go_loopw [6, 8] (fun r i wr => Hid (w = wr) ∧ ∃ m : Nat, m + 1 ≤ 4 ∧ i = .int .i64 ((m : Int) + 1) ∧ r = .int .i64 (rv x s m) ∧ Tails s m) (fun _ i _ => 4 - (intOf i).toNat)
    case atStart => exact ⟨rfl, 0, by omega, rfl, by show _ = Value.int IntKind.i64 x; rw [HX.out], fun j h1 h2 => by omega⟩
    case round =>
      obtain ⟨HW, m, hm, rfl, rfl, ht⟩ := hrel
      have hbd := rv_bd x s hx0 hx1 m (by omega) ht
      obtain ⟨g0, g1⟩ := hbd
      by_cases hlt : m + 1 < 4
      · have hms : m + 1 < s.size := by omega
        have hbm := byte_at s (m + 1) hms
        have HR : Hid (rv x s (m + 1) = 64 * rv x s m + (s[m + 1].toNat : Int) - 128) := by rw [hbm]; rfl
        have hidx : ((m : Int) + 1) < (s.size : Int) := by omega
        cases htb : tailB (s[m + 1].toNat : Int) with
        | true =>
          have ht2 : Hid (Tails s (m + 1)) := by
            intro j h1 h2
            by_cases hj : j ≤ m
            · exact ht j h1 hj
            · have hj' : j = m + 1 := by omega
              subst hj'
              rw [← hbm]
              simp only [tailB, decide_eq_true_eq] at htb
              omega
          have hb8 : s[m + 1].toNat < 256 := UInt8.toNat_lt _
          clear hbm ht
          go_wp2_with (go_at_call 52; refine (tail_any _ _).mono ?_; rintro e w' ⟨rfl, rfl⟩)
          go_roundw
          case rel => exact ⟨HW, m + 1, by omega, by go_num, by rw [HR.out], ht2.out⟩
          case measure => simp [intOf]; omega
        | false =>
          have hno : Hid (¬ Tails s 3) := by
            intro hh
            have := hh (m + 1) (by omega) (by omega)
            rw [← hbm] at this
            simp only [tailB, decide_eq_false_iff_not] at htb
            omega
          clear hbm ht
          go_wp2_with (go_at_call 52; refine (tail_any _ _).mono ?_; rintro e w' ⟨rfl, rfl⟩)
          go_ret2
          exact ⟨⟨65533, 1, rfl, first_no fun hh => hno.out hh.2.1⟩, HW.out⟩
      · have hme : m = 3 := by omega
        subst hme
        have HT : Hid (Tails s 3) := ht
        clear ht
        have hc : rv x s 3 < 65536 ∨ (65536 ≤ rv x s 3 ∧ rv x s 3 < 55296) ∨ (65536 ≤ rv x s 3 ∧ 55296 ≤ rv x s 3 ∧ rv x s 3 ≤ 57343) ∨ (65536 ≤ rv x s 3 ∧ 57343 < rv x s 3 ∧ rv x s 3 ≤ 1114111) ∨ 1114111 < rv x s 3 := by omega
        rcases hc with hc | ⟨hc, hc1⟩ | ⟨hc, hc1, hc2⟩ | ⟨hc, hc1, hc2⟩ | hc
        case inl =>
          go_wp2
          go_ret2
          exact ⟨⟨65533, 1, rfl, first_no fun hh => by omega⟩, HW.out⟩
        case inr.inl =>
          have d0 : decide (rv x s 3 < 65536) = false := by simp; omega
          have d1 : decide ((55296 : Int) ≤ rv x s 3) = false := by simp; omega
          have d3 : decide ((1114111 : Int) < rv x s 3) = false := by simp; omega
          go_wp2
          go_ret2
          exact ⟨⟨rv x s 3, 4, rfl, first_yes (by omega) (by omega) HT.out (by omega) (by omega)⟩, HW.out⟩
        case inr.inr.inl =>
          have d0 : decide (rv x s 3 < 65536) = false := by simp; omega
          go_wp2
          go_ret2
          exact ⟨⟨65533, 1, rfl, first_no fun hh => by omega⟩, HW.out⟩
        case inr.inr.inr.inl =>
          have d0 : decide (rv x s 3 < 65536) = false := by simp; omega
          have d2 : decide (rv x s 3 ≤ 57343) = false := by simp; omega
          have d3 : decide ((1114111 : Int) < rv x s 3) = false := by simp; omega
          go_wp2
          go_ret2
          exact ⟨⟨rv x s 3, 4, rfl, first_yes (by omega) (by omega) HT.out (by omega) (by omega)⟩, HW.out⟩
        case inr.inr.inr.inr =>
          have d0 : decide (rv x s 3 < 65536) = false := by simp; omega
          have d2 : decide (rv x s 3 ≤ 57343) = false := by simp; omega
          go_wp2
          go_ret2
          exact ⟨⟨65533, 1, rfl, first_no fun hh => by omega⟩, HW.out⟩

end Go.Proofs.YthpkoecpmbpnbaaDoor.run
