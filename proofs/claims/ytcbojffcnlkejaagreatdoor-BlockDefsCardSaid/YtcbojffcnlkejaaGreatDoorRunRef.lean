
/- Several texts in one. -/
import Derived.Test.YtcbojffcnlkejaaGreatDoorQFKinds
import Derived.Test.YtcbojffcnlkejaaGreatDoorG22
import Derived.Test.YtcbojffcnlkejaaGreatDoorG03
set_option linter.unusedVariables false
/- The document's answer for the kinds of characters: what the reference's Mark, Space, in and Punct answer, for every number. -/
namespace Go.Proofs.YtcbojffcnlkejaaGreatDoor.run
open Go.RowKit

theorem refin_any (r a b : Int) (w : World) :
    Calls Tryz.prog 32 #[.int .i64 r, .int .i64 a, .int .i64 b] w fun e w' => e = .returned (.bool (inB r a b)) ∧ w = w' := by
  by_cases h1 : a ≤ r
  all_goals
    go_enter Tryz.func32, Tryz.ntmps32
    go_wp2
    go_ret
    exact ⟨ret_bool (by rw [Bool.eq_iff_iff]; simp [inB]; omega), rfl⟩

theorem refspace_any (r : Int) (w : World) :
    Calls Tryz.prog 25 #[.int .i64 r] w fun e w' => e = .returned (.bool (spaceB r)) ∧ w = w' := by
  have hc : (8192 ≤ r ∧ r ≤ 8202) ∨ r < 8192 ∨ 8202 < r := by omega
  rcases hc with ⟨h, h'⟩ | h | h
  all_goals
    go_enter Tryz.func25, Tryz.ntmps25
    go_wp2
    all_goals
      go_ret
      exact ⟨ret_bool (by rw [Bool.eq_iff_iff]; simp only [spaceB, decide_eq_true_eq]; first | omega | (simp; omega) | (simp_all; done) | (simp_all; omega)), rfl⟩

end Go.Proofs.YtcbojffcnlkejaaGreatDoor.run

/- The document's Put: a character's bytes. -/
namespace Go.Proofs.YtcbojffcnlkejaaGreatDoor.run
open Go.RowKit

set_option maxHeartbeats 1000000 in
set_option maxRecDepth 100000 in
theorem put_one (r : Int) (h0 : 0 ≤ r) (h1 : r ≤ 127) (l : List UInt8) (hl : l.length = 1) (hC : #[.int .u8 (r)] = (Lib.byteCells l).toArray) (w : World) :
    Calls Tryz.prog 33 #[.int .i64 r] w fun e w' => e = .returned (.string ⟨l.toArray⟩) ∧ Below w.heap.size w w' := by
  have hc := conv_lit w l #[.int .u8 (r)] 1 hl hC
  clear hC hl
  go_enter Tryz.func33, Tryz.ntmps33
  go_wp2
  go_ret
  exact ⟨rfl, (Below.refl _ _).alloc (Nat.le_refl _) _⟩

set_option maxHeartbeats 1000000 in
set_option maxRecDepth 100000 in
theorem put_two (r : Int) (h0 : 128 ≤ r) (h1 : r ≤ 2047) (l : List UInt8) (hl : l.length = 2) (hC : #[.int .u8 (192 + r / 64), .int .u8 (128 + r % 64)] = (Lib.byteCells l).toArray) (w : World) :
    Calls Tryz.prog 33 #[.int .i64 r] w fun e w' => e = .returned (.string ⟨l.toArray⟩) ∧ Below w.heap.size w w' := by
  have hc := conv_lit w l #[.int .u8 (192 + r / 64), .int .u8 (128 + r % 64)] 2 hl hC
  clear hC hl
  go_enter Tryz.func33, Tryz.ntmps33
  go_wp2
  go_ret
  exact ⟨rfl, (Below.refl _ _).alloc (Nat.le_refl _) _⟩

set_option maxHeartbeats 1000000 in
set_option maxRecDepth 100000 in
theorem put_three (r : Int) (h0 : 2048 ≤ r) (h1 : r ≤ 65535) (l : List UInt8) (hl : l.length = 3) (hC : #[.int .u8 (224 + r / 4096), .int .u8 (128 + r / 64 % 64), .int .u8 (128 + r % 64)] = (Lib.byteCells l).toArray) (w : World) :
    Calls Tryz.prog 33 #[.int .i64 r] w fun e w' => e = .returned (.string ⟨l.toArray⟩) ∧ Below w.heap.size w w' := by
  have hc := conv_lit w l #[.int .u8 (224 + r / 4096), .int .u8 (128 + r / 64 % 64), .int .u8 (128 + r % 64)] 3 hl hC
  clear hC hl
  go_enter Tryz.func33, Tryz.ntmps33
  go_wp2
  go_ret
  exact ⟨rfl, (Below.refl _ _).alloc (Nat.le_refl _) _⟩

set_option maxHeartbeats 1000000 in
set_option maxRecDepth 100000 in
theorem put_four (r : Int) (h0 : 65536 ≤ r) (h1 : r ≤ 1114111) (l : List UInt8) (hl : l.length = 4) (hC : #[.int .u8 (240 + r / 262144), .int .u8 (128 + r / 4096 % 64), .int .u8 (128 + r / 64 % 64), .int .u8 (128 + r % 64)] = (Lib.byteCells l).toArray) (w : World) :
    Calls Tryz.prog 33 #[.int .i64 r] w fun e w' => e = .returned (.string ⟨l.toArray⟩) ∧ Below w.heap.size w w' := by
  have hc := conv_lit w l #[.int .u8 (240 + r / 262144), .int .u8 (128 + r / 4096 % 64), .int .u8 (128 + r / 64 % 64), .int .u8 (128 + r % 64)] 4 hl hC
  clear hC hl
  go_enter Tryz.func33, Tryz.ntmps33
  go_wp2
  go_ret
  exact ⟨rfl, (Below.refl _ _).alloc (Nat.le_refl _) _⟩

theorem put_any (r : Nat) (hr : Ok r) (w : World) :
    Calls Tryz.prog 33 #[.int .i64 (r : Int)] w fun e w' => e = .returned (.string ⟨(enc r).toArray⟩) ∧ Below w.heap.size w w' := by
  have ec := enc_cells r
  have el : (enc r).length = (Lib.runeCells (r : Int)).length := by rw [ec, Lib.byteCells_length]
  by_cases c1 : r ≤ 127
  · have e : Lib.runeCells (r : Int) = [.int .u8 (r : Int)] := by simp [Lib.runeCells, Lib.encodeRuneZ_one (r := (r : Int)) (by omega) (by omega)]
    exact put_one r (by omega) (by omega) (enc r) (by rw [el, e]; rfl) (by rw [← ec, e]) w
  by_cases c2 : r ≤ 2047
  · have e : Lib.runeCells (r : Int) = [.int .u8 (192 + (r : Int) / 64), .int .u8 (128 + (r : Int) % 64)] := by simp [Lib.runeCells, Lib.encodeRuneZ_two (r := (r : Int)) (by omega) (by omega)]
    exact put_two r (by omega) (by omega) (enc r) (by rw [el, e]; rfl) (by rw [← ec, e]) w
  by_cases c3 : r ≤ 65535
  · have e : Lib.runeCells (r : Int) = [.int .u8 (224 + (r : Int) / 4096), .int .u8 (128 + (r : Int) / 64 % 64), .int .u8 (128 + (r : Int) % 64)] := by simp [Lib.runeCells, Lib.encodeRuneZ_three (r := (r : Int)) (by omega)]
    exact put_three r (by omega) (by omega) (enc r) (by rw [el, e]; rfl) (by rw [← ec, e]) w
  · have e : Lib.runeCells (r : Int) = [.int .u8 (240 + (r : Int) / 262144), .int .u8 (128 + (r : Int) / 4096 % 64), .int .u8 (128 + (r : Int) / 64 % 64), .int .u8 (128 + (r : Int) % 64)] := by simp [Lib.runeCells, Lib.encodeRuneZ_four (r := (r : Int)) (by omega) (by omega)]
    exact put_four r (by omega) (by omega) (enc r) (by rw [el, e]; rfl) (by rw [← ec, e]) w

theorem put_int (x : Int) (h0 : 0 ≤ x) (hr : x < 55296 ∨ (57343 < x ∧ x ≤ 1114111)) (w : World) :
    Calls Tryz.prog 33 #[.int .i64 x] w fun e w' => e = .returned (.string ⟨(enc x.toNat).toArray⟩) ∧ Below w.heap.size w w' := by
  have h := put_any x.toNat (by omega) w
  rwa [Int.toNat_of_nonneg h0] at h

theorem cat_eq (a b : List UInt8) : ByteArray.mk a.toArray ++ ByteArray.mk b.toArray = ⟨(a ++ b).toArray⟩ := by
  apply ByteArray.ext
  simp

end Go.Proofs.YtcbojffcnlkejaaGreatDoor.run

/- The document's First: the character with which bytes begin, as the model decodes it. -/
namespace Go.Proofs.YtcbojffcnlkejaaGreatDoor.run
open Go.RowKit

def tailB (c : Int) : Bool := decide (128 ≤ c ∧ c < 192)

theorem tail_any (c : Int) (w : World) :
    Calls Tryz.prog 31 #[.int .u8 c] w fun e w' => e = .returned (.bool (tailB c)) ∧ w = w' := by
  by_cases h1 : 128 ≤ c
  all_goals
    go_enter Tryz.func31, Tryz.ntmps31
    go_wp2
    go_ret
    exact ⟨ret_bool (by rw [Bool.eq_iff_iff]; simp [tailB]; omega), rfl⟩

/-- The number that a character's bytes make, up to the byte m. -/
def rv (x : Int) (s : ByteArray) : Nat → Int
  | 0 => x
  | m + 1 => 64 * rv x s m + ((s.data.toList.getD (m + 1) 0).toNat : Int) - 128

def Tails (s : ByteArray) (m : Nat) : Prop := ∀ j, 1 ≤ j → j ≤ m → 128 ≤ (s.data.toList.getD j 0).toNat ∧ (s.data.toList.getD j 0).toNat < 192

theorem rv_bd (x : Int) (s : ByteArray) (h0 : 0 ≤ x) (h1 : x ≤ 31) (m : Nat) (hm : m ≤ 3) (ht : Tails s m) : 0 ≤ rv x s m ∧ rv x s m ≤ 8388607 := by
  have e1 : rv x s 1 = 64 * x + ((s.data.toList.getD 1 0).toNat : Int) - 128 := rfl
  have e2 : rv x s 2 = 64 * rv x s 1 + ((s.data.toList.getD 2 0).toNat : Int) - 128 := rfl
  have e3 : rv x s 3 = 64 * rv x s 2 + ((s.data.toList.getD 3 0).toNat : Int) - 128 := rfl
  have hc : m = 0 ∨ m = 1 ∨ m = 2 ∨ m = 3 := by omega
  rcases hc with rfl | rfl | rfl | rfl
  · show 0 ≤ x ∧ x ≤ 8388607; omega
  · have := ht 1 (by omega) (by omega); omega
  · have := ht 1 (by omega) (by omega); have := ht 2 (by omega) (by omega); omega
  · have := ht 1 (by omega) (by omega); have := ht 2 (by omega) (by omega); have := ht 3 (by omega) (by omega); omega

def Good (n : Nat) (least x : Int) (s : ByteArray) : Prop := n + 1 ≤ s.size ∧ Tails s n ∧ least ≤ rv x s n ∧ (rv x s n < 55296 ∨ (57343 < rv x s n ∧ rv x s n ≤ 1114111))
def FirstIs (n : Nat) (least x : Int) (s : ByteArray) (r k : Int) : Prop := (r = 65533 ∧ k = 1 ∧ ¬ Good n least x s) ∨ (r = rv x s n ∧ k = (n : Int) + 1 ∧ Good n least x s)

theorem first_no {n : Nat} {least x : Int} {s : ByteArray} (h : ¬ (n + 1 ≤ s.size ∧ Tails s n ∧ least ≤ rv x s n ∧ (rv x s n < 55296 ∨ (57343 < rv x s n ∧ rv x s n ≤ 1114111)))) : FirstIs n least x s 65533 1 := .inl ⟨rfl, rfl, h⟩
theorem first_yes {n : Nat} {least x k : Int} {s : ByteArray} (hk : k = (n : Int) + 1) (h1 : n + 1 ≤ s.size) (h2 : Tails s n) (h3 : least ≤ rv x s n) (h4 : rv x s n < 55296 ∨ (57343 < rv x s n ∧ rv x s n ≤ 1114111)) : FirstIs n least x s (rv x s n) k := .inr ⟨rfl, hk, h1, h2, h3, h4⟩

theorem ret_two {a b c d : Int} (h1 : a = c) (h2 : b = d) : Ending.returned (.tuple #[.int .i64 a, .int .i64 b]) = .returned (.tuple #[.int .i64 c, .int .i64 d]) := by rw [h1, h2]

theorem head_at (s : ByteArray) (h : 0 < s.size) : (s.data.toList.getD 0 0).toNat = s[0].toNat := by rw [byte_at s 0 h]

set_option maxHeartbeats 1000000 in
set_option maxRecDepth 100000 in
theorem first_one (s : ByteArray) (w : World) (h : 0 < s.size) (hb : s[0].toNat < 128) :
    Calls Tryz.prog 24 #[.string s] w fun e w' => e = .returned (.tuple #[.int .i64 (s[0].toNat : Int), .int .i64 1]) ∧ w = w' := by
  go_enter Tryz.func24, Tryz.ntmps24
  go_wp2
  go_ret2
  exact ⟨rfl, rfl⟩

set_option maxHeartbeats 1000000 in
set_option maxRecDepth 100000 in
theorem first_bad (s : ByteArray) (w : World) (h : 0 < s.size) (hb : (128 ≤ s[0].toNat ∧ s[0].toNat < 194) ∨ 245 ≤ s[0].toNat) :
    Calls Tryz.prog 24 #[.string s] w fun e w' => e = .returned (.tuple #[.int .i64 65533, .int .i64 1]) ∧ w = w' := by
  have hb8 : s[0].toNat < 256 := UInt8.toNat_lt _
  rcases hb with ⟨h1, h2⟩ | h1
  all_goals
    go_enter Tryz.func24, Tryz.ntmps24
    go_wp2
    go_ret2
    exact ⟨rfl, rfl⟩

set_option maxHeartbeats 4000000 in
set_option maxRecDepth 100000 in
theorem first_2 (s : ByteArray) (w : World) (x : Int) (h : 0 < s.size) (HX : Hid (x = (s[0].toNat : Int) - 192)) (hb : 194 ≤ s[0].toNat) (hb' : s[0].toNat < 224) (hs : s.size ≤ 1073741824) :
    Calls Tryz.prog 24 #[.string s] w fun e w' => (∃ r k : Int, e = .returned (.tuple #[.int .i64 r, .int .i64 k]) ∧ FirstIs 1 128 x s r k) ∧ w = w' := by
  have hx0 : 0 ≤ x := by have := HX.out; omega
  have hx1 : x ≤ 31 := by have := HX.out; omega
  have z128 : decide ((s[0].toNat : Int) < 128) = false := by simp; omega
  have zt : decide ((s[0].toNat : Int) < 224) = true := by simp; omega
  by_cases hl : s.size < 2
  · go_enter Tryz.func24, Tryz.ntmps24
    go_wp2
    go_ret2
    exact ⟨⟨65533, 1, rfl, first_no fun hh => by omega⟩, rfl⟩
  · have zs : decide ((s.size : Int) < 2) = false := by simp; omega
    go_enter Tryz.func24, Tryz.ntmps24
    go_wp2
    go_loopw [6, 8] (fun r i wr => Hid (w = wr) ∧ ∃ m : Nat, m + 1 ≤ 2 ∧ i = .int .i64 ((m : Int) + 1) ∧ r = .int .i64 (rv x s m) ∧ Tails s m) (fun _ i _ => 2 - (intOf i).toNat)
    case atStart => exact ⟨rfl, 0, by omega, rfl, by show _ = Value.int IntKind.i64 x; rw [HX.out], fun j h1 h2 => by omega⟩
    case round =>
      obtain ⟨HW, m, hm, rfl, rfl, ht⟩ := hrel
      have hbd := rv_bd x s hx0 hx1 m (by omega) ht
      obtain ⟨g0, g1⟩ := hbd
      by_cases hlt : m + 1 < 2
      · have hms : m + 1 < s.size := by omega
        have hbm := byte_at s (m + 1) hms
        have HR : Hid (rv x s (m + 1) = 64 * rv x s m + (s[m + 1].toNat : Int) - 128) := by rw [hbm]; rfl
        have hidx : ((m : Int) + 1) < (s.size : Int) := by omega
        cases htb : tailB (s[m + 1].toNat : Int) with
        | true =>
          have ht2 : Hid (Tails s (m + 1)) := by
            intro j h1 h2
            by_cases hj : j ≤ m
            · exact ht j h1 hj
            · have hj' : j = m + 1 := by omega
              subst hj'
              rw [← hbm]
              simp only [tailB, decide_eq_true_eq] at htb
              omega
          have hb8 : s[m + 1].toNat < 256 := UInt8.toNat_lt _
          clear hbm ht
          go_wp2_with (go_at_call 31; refine (tail_any _ _).mono ?_; rintro e w' ⟨rfl, rfl⟩)
          go_roundw
          case rel => exact ⟨HW, m + 1, by omega, by go_num, by rw [HR.out], ht2.out⟩
          case measure => simp [intOf]; omega
        | false =>
          have hno : Hid (¬ Tails s 1) := by
            intro hh
            have := hh (m + 1) (by omega) (by omega)
            rw [← hbm] at this
            simp only [tailB, decide_eq_false_iff_not] at htb
            omega
          clear hbm ht
          go_wp2_with (go_at_call 31; refine (tail_any _ _).mono ?_; rintro e w' ⟨rfl, rfl⟩)
          go_ret2
          exact ⟨⟨65533, 1, rfl, first_no fun hh => hno.out hh.2.1⟩, HW.out⟩
      · have hme : m = 1 := by omega
        subst hme
        have HT : Hid (Tails s 1) := ht
        clear ht
        have hc : rv x s 1 < 128 ∨ (128 ≤ rv x s 1 ∧ rv x s 1 < 55296) ∨ (128 ≤ rv x s 1 ∧ 55296 ≤ rv x s 1 ∧ rv x s 1 ≤ 57343) ∨ (128 ≤ rv x s 1 ∧ 57343 < rv x s 1 ∧ rv x s 1 ≤ 1114111) ∨ 1114111 < rv x s 1 := by omega
        rcases hc with hc | ⟨hc, hc1⟩ | ⟨hc, hc1, hc2⟩ | ⟨hc, hc1, hc2⟩ | hc
        case inl =>
          go_wp2
          go_ret2
          exact ⟨⟨65533, 1, rfl, first_no fun hh => by omega⟩, HW.out⟩
        case inr.inl =>
          have d0 : decide (rv x s 1 < 128) = false := by simp; omega
          have d1 : decide ((55296 : Int) ≤ rv x s 1) = false := by simp; omega
          have d3 : decide ((1114111 : Int) < rv x s 1) = false := by simp; omega
          go_wp2
          go_ret2
          exact ⟨⟨rv x s 1, 2, rfl, first_yes (by omega) (by omega) HT.out (by omega) (by omega)⟩, HW.out⟩
        case inr.inr.inl =>
          have d0 : decide (rv x s 1 < 128) = false := by simp; omega
          go_wp2
          go_ret2
          exact ⟨⟨65533, 1, rfl, first_no fun hh => by omega⟩, HW.out⟩
        case inr.inr.inr.inl =>
          have d0 : decide (rv x s 1 < 128) = false := by simp; omega
          have d2 : decide (rv x s 1 ≤ 57343) = false := by simp; omega
          have d3 : decide ((1114111 : Int) < rv x s 1) = false := by simp; omega
          go_wp2
          go_ret2
          exact ⟨⟨rv x s 1, 2, rfl, first_yes (by omega) (by omega) HT.out (by omega) (by omega)⟩, HW.out⟩
        case inr.inr.inr.inr =>
          have d0 : decide (rv x s 1 < 128) = false := by simp; omega
          have d2 : decide (rv x s 1 ≤ 57343) = false := by simp; omega
          go_wp2
          go_ret2
          exact ⟨⟨65533, 1, rfl, first_no fun hh => by omega⟩, HW.out⟩

set_option maxHeartbeats 4000000 in
set_option maxRecDepth 100000 in
theorem first_3 (s : ByteArray) (w : World) (x : Int) (h : 0 < s.size) (HX : Hid (x = (s[0].toNat : Int) - 224)) (hb : 224 ≤ s[0].toNat) (hb' : s[0].toNat < 240) (hs : s.size ≤ 1073741824) :
    Calls Tryz.prog 24 #[.string s] w fun e w' => (∃ r k : Int, e = .returned (.tuple #[.int .i64 r, .int .i64 k]) ∧ FirstIs 2 2048 x s r k) ∧ w = w' := by
  have hx0 : 0 ≤ x := by have := HX.out; omega
  have hx1 : x ≤ 31 := by have := HX.out; omega
  have z128 : decide ((s[0].toNat : Int) < 128) = false := by simp; omega
  have z224 : decide ((s[0].toNat : Int) < 224) = false := by simp; omega
  have zt : decide ((s[0].toNat : Int) < 240) = true := by simp; omega
  by_cases hl : s.size < 3
  · go_enter Tryz.func24, Tryz.ntmps24
    go_wp2
    go_ret2
    exact ⟨⟨65533, 1, rfl, first_no fun hh => by omega⟩, rfl⟩
  · have zs : decide ((s.size : Int) < 3) = false := by simp; omega
    go_enter Tryz.func24, Tryz.ntmps24
    go_wp2
    go_loopw [6, 8] (fun r i wr => Hid (w = wr) ∧ ∃ m : Nat, m + 1 ≤ 3 ∧ i = .int .i64 ((m : Int) + 1) ∧ r = .int .i64 (rv x s m) ∧ Tails s m) (fun _ i _ => 3 - (intOf i).toNat)
    case atStart => exact ⟨rfl, 0, by omega, rfl, by show _ = Value.int IntKind.i64 x; rw [HX.out], fun j h1 h2 => by omega⟩
    case round =>
      obtain ⟨HW, m, hm, rfl, rfl, ht⟩ := hrel
      have hbd := rv_bd x s hx0 hx1 m (by omega) ht
      obtain ⟨g0, g1⟩ := hbd
      by_cases hlt : m + 1 < 3
      · have hms : m + 1 < s.size := by omega
        have hbm := byte_at s (m + 1) hms
        have HR : Hid (rv x s (m + 1) = 64 * rv x s m + (s[m + 1].toNat : Int) - 128) := by rw [hbm]; rfl
        have hidx : ((m : Int) + 1) < (s.size : Int) := by omega
        cases htb : tailB (s[m + 1].toNat : Int) with
        | true =>
          have ht2 : Hid (Tails s (m + 1)) := by
            intro j h1 h2
            by_cases hj : j ≤ m
            · exact ht j h1 hj
            · have hj' : j = m + 1 := by omega
              subst hj'
              rw [← hbm]
              simp only [tailB, decide_eq_true_eq] at htb
              omega
          have hb8 : s[m + 1].toNat < 256 := UInt8.toNat_lt _
          clear hbm ht
          go_wp2_with (go_at_call 31; refine (tail_any _ _).mono ?_; rintro e w' ⟨rfl, rfl⟩)
          go_roundw
          case rel => exact ⟨HW, m + 1, by omega, by go_num, by rw [HR.out], ht2.out⟩
          case measure => simp [intOf]; omega
        | false =>
          have hno : Hid (¬ Tails s 2) := by
            intro hh
            have := hh (m + 1) (by omega) (by omega)
            rw [← hbm] at this
            simp only [tailB, decide_eq_false_iff_not] at htb
            omega
          clear hbm ht
          go_wp2_with (go_at_call 31; refine (tail_any _ _).mono ?_; rintro e w' ⟨rfl, rfl⟩)
          go_ret2
          exact ⟨⟨65533, 1, rfl, first_no fun hh => hno.out hh.2.1⟩, HW.out⟩
      · have hme : m = 2 := by omega
        subst hme
        have HT : Hid (Tails s 2) := ht
        clear ht
        have hc : rv x s 2 < 2048 ∨ (2048 ≤ rv x s 2 ∧ rv x s 2 < 55296) ∨ (2048 ≤ rv x s 2 ∧ 55296 ≤ rv x s 2 ∧ rv x s 2 ≤ 57343) ∨ (2048 ≤ rv x s 2 ∧ 57343 < rv x s 2 ∧ rv x s 2 ≤ 1114111) ∨ 1114111 < rv x s 2 := by omega
        rcases hc with hc | ⟨hc, hc1⟩ | ⟨hc, hc1, hc2⟩ | ⟨hc, hc1, hc2⟩ | hc
        case inl =>
          go_wp2
          go_ret2
          exact ⟨⟨65533, 1, rfl, first_no fun hh => by omega⟩, HW.out⟩
        case inr.inl =>
          have d0 : decide (rv x s 2 < 2048) = false := by simp; omega
          have d1 : decide ((55296 : Int) ≤ rv x s 2) = false := by simp; omega
          have d3 : decide ((1114111 : Int) < rv x s 2) = false := by simp; omega
          go_wp2
          go_ret2
          exact ⟨⟨rv x s 2, 3, rfl, first_yes (by omega) (by omega) HT.out (by omega) (by omega)⟩, HW.out⟩
        case inr.inr.inl =>
          have d0 : decide (rv x s 2 < 2048) = false := by simp; omega
          go_wp2
          go_ret2
          exact ⟨⟨65533, 1, rfl, first_no fun hh => by omega⟩, HW.out⟩
        case inr.inr.inr.inl =>
          have d0 : decide (rv x s 2 < 2048) = false := by simp; omega
          have d2 : decide (rv x s 2 ≤ 57343) = false := by simp; omega
          have d3 : decide ((1114111 : Int) < rv x s 2) = false := by simp; omega
          go_wp2
          go_ret2
          exact ⟨⟨rv x s 2, 3, rfl, first_yes (by omega) (by omega) HT.out (by omega) (by omega)⟩, HW.out⟩
        case inr.inr.inr.inr =>
          have d0 : decide (rv x s 2 < 2048) = false := by simp; omega
          have d2 : decide (rv x s 2 ≤ 57343) = false := by simp; omega
          go_wp2
          go_ret2
          exact ⟨⟨65533, 1, rfl, first_no fun hh => by omega⟩, HW.out⟩

set_option maxHeartbeats 4000000 in
set_option maxRecDepth 100000 in
theorem first_4 (s : ByteArray) (w : World) (x : Int) (h : 0 < s.size) (HX : Hid (x = (s[0].toNat : Int) - 240)) (hb : 240 ≤ s[0].toNat) (hb' : s[0].toNat < 245) (hs : s.size ≤ 1073741824) :
    Calls Tryz.prog 24 #[.string s] w fun e w' => (∃ r k : Int, e = .returned (.tuple #[.int .i64 r, .int .i64 k]) ∧ FirstIs 3 65536 x s r k) ∧ w = w' := by
  have hx0 : 0 ≤ x := by have := HX.out; omega
  have hx1 : x ≤ 31 := by have := HX.out; omega
  have z128 : decide ((s[0].toNat : Int) < 128) = false := by simp; omega
  have z224 : decide ((s[0].toNat : Int) < 224) = false := by simp; omega
  have z240 : decide ((s[0].toNat : Int) < 240) = false := by simp; omega
  have zt : decide ((s[0].toNat : Int) < 245) = true := by simp; omega
  by_cases hl : s.size < 4
  · go_enter Tryz.func24, Tryz.ntmps24
    go_wp2
    go_ret2
    exact ⟨⟨65533, 1, rfl, first_no fun hh => by omega⟩, rfl⟩
  · have zs : decide ((s.size : Int) < 4) = false := by simp; omega
    go_enter Tryz.func24, Tryz.ntmps24
    go_wp2
    go_loopw [6, 8] (fun r i wr => Hid (w = wr) ∧ ∃ m : Nat, m + 1 ≤ 4 ∧ i = .int .i64 ((m : Int) + 1) ∧ r = .int .i64 (rv x s m) ∧ Tails s m) (fun _ i _ => 4 - (intOf i).toNat)
    case atStart => exact ⟨rfl, 0, by omega, rfl, by show _ = Value.int IntKind.i64 x; rw [HX.out], fun j h1 h2 => by omega⟩
    case round =>
      obtain ⟨HW, m, hm, rfl, rfl, ht⟩ := hrel
      have hbd := rv_bd x s hx0 hx1 m (by omega) ht
      obtain ⟨g0, g1⟩ := hbd
      by_cases hlt : m + 1 < 4
      · have hms : m + 1 < s.size := by omega
        have hbm := byte_at s (m + 1) hms
        have HR : Hid (rv x s (m + 1) = 64 * rv x s m + (s[m + 1].toNat : Int) - 128) := by rw [hbm]; rfl
        have hidx : ((m : Int) + 1) < (s.size : Int) := by omega
        cases htb : tailB (s[m + 1].toNat : Int) with
        | true =>
          have ht2 : Hid (Tails s (m + 1)) := by
            intro j h1 h2
            by_cases hj : j ≤ m
            · exact ht j h1 hj
            · have hj' : j = m + 1 := by omega
              subst hj'
              rw [← hbm]
              simp only [tailB, decide_eq_true_eq] at htb
              omega
          have hb8 : s[m + 1].toNat < 256 := UInt8.toNat_lt _
          clear hbm ht
          go_wp2_with (go_at_call 31; refine (tail_any _ _).mono ?_; rintro e w' ⟨rfl, rfl⟩)
          go_roundw
          case rel => exact ⟨HW, m + 1, by omega, by go_num, by rw [HR.out], ht2.out⟩
          case measure => simp [intOf]; omega
        | false =>
          have hno : Hid (¬ Tails s 3) := by
            intro hh
            have := hh (m + 1) (by omega) (by omega)
            rw [← hbm] at this
            simp only [tailB, decide_eq_false_iff_not] at htb
            omega
          clear hbm ht
          go_wp2_with (go_at_call 31; refine (tail_any _ _).mono ?_; rintro e w' ⟨rfl, rfl⟩)
          go_ret2
          exact ⟨⟨65533, 1, rfl, first_no fun hh => hno.out hh.2.1⟩, HW.out⟩
      · have hme : m = 3 := by omega
        subst hme
        have HT : Hid (Tails s 3) := ht
        clear ht
        have hc : rv x s 3 < 65536 ∨ (65536 ≤ rv x s 3 ∧ rv x s 3 < 55296) ∨ (65536 ≤ rv x s 3 ∧ 55296 ≤ rv x s 3 ∧ rv x s 3 ≤ 57343) ∨ (65536 ≤ rv x s 3 ∧ 57343 < rv x s 3 ∧ rv x s 3 ≤ 1114111) ∨ 1114111 < rv x s 3 := by omega
        rcases hc with hc | ⟨hc, hc1⟩ | ⟨hc, hc1, hc2⟩ | ⟨hc, hc1, hc2⟩ | hc
        case inl =>
          go_wp2
          go_ret2
          exact ⟨⟨65533, 1, rfl, first_no fun hh => by omega⟩, HW.out⟩
        case inr.inl =>
          have d0 : decide (rv x s 3 < 65536) = false := by simp; omega
          have d1 : decide ((55296 : Int) ≤ rv x s 3) = false := by simp; omega
          have d3 : decide ((1114111 : Int) < rv x s 3) = false := by simp; omega
          go_wp2
          go_ret2
          exact ⟨⟨rv x s 3, 4, rfl, first_yes (by omega) (by omega) HT.out (by omega) (by omega)⟩, HW.out⟩
        case inr.inr.inl =>
          have d0 : decide (rv x s 3 < 65536) = false := by simp; omega
          go_wp2
          go_ret2
          exact ⟨⟨65533, 1, rfl, first_no fun hh => by omega⟩, HW.out⟩
        case inr.inr.inr.inl =>
          have d0 : decide (rv x s 3 < 65536) = false := by simp; omega
          have d2 : decide (rv x s 3 ≤ 57343) = false := by simp; omega
          have d3 : decide ((1114111 : Int) < rv x s 3) = false := by simp; omega
          go_wp2
          go_ret2
          exact ⟨⟨rv x s 3, 4, rfl, first_yes (by omega) (by omega) HT.out (by omega) (by omega)⟩, HW.out⟩
        case inr.inr.inr.inr =>
          have d0 : decide (rv x s 3 < 65536) = false := by simp; omega
          have d2 : decide (rv x s 3 ≤ 57343) = false := by simp; omega
          go_wp2
          go_ret2
          exact ⟨⟨65533, 1, rfl, first_no fun hh => by omega⟩, HW.out⟩

end Go.Proofs.YtcbojffcnlkejaaGreatDoor.run

/- The document's First answers what the model decodes. -/
namespace Go.Proofs.YtcbojffcnlkejaaGreatDoor.run
open Go.RowKit

theorem tails1 {s : ByteArray} : Tails s 1 ↔ (128 ≤ (s.data.toList.getD 1 0).toNat ∧ (s.data.toList.getD 1 0).toNat < 192) := by
  constructor
  · intro h; exact h 1 (by omega) (by omega)
  · intro h j h1 h2; have : j = 1 := by omega
    subst this; exact h
theorem tails2 {s : ByteArray} : Tails s 2 ↔ (128 ≤ (s.data.toList.getD 1 0).toNat ∧ (s.data.toList.getD 1 0).toNat < 192) ∧ (128 ≤ (s.data.toList.getD 2 0).toNat ∧ (s.data.toList.getD 2 0).toNat < 192) := by
  constructor
  · intro h; exact ⟨h 1 (by omega) (by omega), h 2 (by omega) (by omega)⟩
  · intro h j h1 h2
    have hj : j = 1 ∨ j = 2 := by omega
    rcases hj with rfl | rfl
    · exact h.1
    · exact h.2
theorem tails3 {s : ByteArray} : Tails s 3 ↔ (128 ≤ (s.data.toList.getD 1 0).toNat ∧ (s.data.toList.getD 1 0).toNat < 192) ∧ (128 ≤ (s.data.toList.getD 2 0).toNat ∧ (s.data.toList.getD 2 0).toNat < 192) ∧ (128 ≤ (s.data.toList.getD 3 0).toNat ∧ (s.data.toList.getD 3 0).toNat < 192) := by
  constructor
  · intro h; exact ⟨h 1 (by omega) (by omega), h 2 (by omega) (by omega), h 3 (by omega) (by omega)⟩
  · intro h j h1 h2
    have hj : j = 1 ∨ j = 2 ∨ j = 3 := by omega
    rcases hj with rfl | rfl | rfl
    · exact h.1
    · exact h.2.1
    · exact h.2.2

theorem dc_bad {l : List UInt8} (hb : (128 ≤ (l.getD 0 0).toNat ∧ (l.getD 0 0).toNat < 194) ∨ 245 ≤ (l.getD 0 0).toNat) : (dc l).1 = 65533 ∧ (dc l).2 = 1 := by
  have h8 : (l.getD 0 0).toNat < 256 := UInt8.toNat_lt _
  rw [dc_def]
  (repeat' split) <;> first | exact ⟨rfl, rfl⟩ | (exfalso; (try simp only [Ok] at *); omega)

theorem dc_two {s : ByteArray} {r k : Int} (hb : 194 ≤ (s.data.toList.getD 0 0).toNat) (hb' : (s.data.toList.getD 0 0).toNat < 224) (h : FirstIs 1 128 (((s.data.toList.getD 0 0).toNat : Int) - 192) s r k) : r = (dc s.data.toList).1 ∧ k = (dc s.data.toList).2 := by
  have e1 : rv (((s.data.toList.getD 0 0).toNat : Int) - 192) s 1 = 64 * (((s.data.toList.getD 0 0).toNat : Int) - 192) + ((s.data.toList.getD 1 0).toNat : Int) - 128 := rfl
  have h1 : (s.data.toList.getD 1 0).toNat < 256 := UInt8.toNat_lt _
  have hlen := len_data s
  unfold FirstIs Good at h
  rw [tails1, e1] at h
  rw [dc_def]
  (repeat' split) <;> (simp only [Ok] at *; (try dsimp only); omega)

theorem dc_three {s : ByteArray} {r k : Int} (hb : 224 ≤ (s.data.toList.getD 0 0).toNat) (hb' : (s.data.toList.getD 0 0).toNat < 240) (h : FirstIs 2 2048 (((s.data.toList.getD 0 0).toNat : Int) - 224) s r k) : r = (dc s.data.toList).1 ∧ k = (dc s.data.toList).2 := by
  have e1 : rv (((s.data.toList.getD 0 0).toNat : Int) - 224) s 2 = 64 * (64 * (((s.data.toList.getD 0 0).toNat : Int) - 224) + ((s.data.toList.getD 1 0).toNat : Int) - 128) + ((s.data.toList.getD 2 0).toNat : Int) - 128 := rfl
  have h1 : (s.data.toList.getD 1 0).toNat < 256 := UInt8.toNat_lt _
  have h2 : (s.data.toList.getD 2 0).toNat < 256 := UInt8.toNat_lt _
  have hlen := len_data s
  unfold FirstIs Good at h
  rw [tails2, e1] at h
  rw [dc_def]
  (repeat' split) <;> (simp only [Ok] at *; (try dsimp only); omega)

theorem dc_four {s : ByteArray} {r k : Int} (hb : 240 ≤ (s.data.toList.getD 0 0).toNat) (hb' : (s.data.toList.getD 0 0).toNat < 245) (h : FirstIs 3 65536 (((s.data.toList.getD 0 0).toNat : Int) - 240) s r k) : r = (dc s.data.toList).1 ∧ k = (dc s.data.toList).2 := by
  have e1 : rv (((s.data.toList.getD 0 0).toNat : Int) - 240) s 3 = 64 * (64 * (64 * (((s.data.toList.getD 0 0).toNat : Int) - 240) + ((s.data.toList.getD 1 0).toNat : Int) - 128) + ((s.data.toList.getD 2 0).toNat : Int) - 128) + ((s.data.toList.getD 3 0).toNat : Int) - 128 := rfl
  have h1 : (s.data.toList.getD 1 0).toNat < 256 := UInt8.toNat_lt _
  have h2 : (s.data.toList.getD 2 0).toNat < 256 := UInt8.toNat_lt _
  have h3 : (s.data.toList.getD 3 0).toNat < 256 := UInt8.toNat_lt _
  have hlen := len_data s
  unfold FirstIs Good at h
  rw [tails3, e1] at h
  rw [dc_def]
  (repeat' split) <;> (simp only [Ok] at *; (try dsimp only); omega)

/-- The document's First, of any text that is not empty. -/
theorem first_any (s : ByteArray) (w : World) (h : 0 < s.size) (hs : s.size ≤ 1073741824) :
    Calls Tryz.prog 24 #[.string s] w fun e w' => e = .returned (.tuple #[.int .i64 ((dc s.data.toList).1 : Int), .int .i64 ((dc s.data.toList).2 : Int)]) ∧ w = w' := by
  have hh := head_at s h
  by_cases c1 : s[0].toNat < 128
  · refine (first_one s w h c1).mono ?_
    rintro e w' ⟨rfl, hw⟩
    refine ⟨ret_two ?_ ?_, hw⟩
    · rw [dc_def, hh, if_pos c1]
    · rw [dc_def, hh, if_pos c1]; rfl
  by_cases c2 : s[0].toNat < 194 ∨ 245 ≤ s[0].toNat
  · refine (first_bad s w h (by omega)).mono ?_
    rintro e w' ⟨rfl, hw⟩
    have hd := dc_bad (l := s.data.toList) (by omega)
    exact ⟨ret_two (by rw [hd.1]; rfl) (by rw [hd.2]; rfl), hw⟩
  by_cases c3 : s[0].toNat < 224
  · refine (first_2 s w _ h rfl (by omega) (by omega) hs).mono ?_
    rintro e w' ⟨⟨r, k, rfl, hf⟩, hw⟩
    rw [← hh] at hf
    have hd := dc_two (by omega) (by omega) hf
    exact ⟨ret_two hd.1 hd.2, hw⟩
  by_cases c4 : s[0].toNat < 240
  · refine (first_3 s w _ h rfl (by omega) (by omega) hs).mono ?_
    rintro e w' ⟨⟨r, k, rfl, hf⟩, hw⟩
    rw [← hh] at hf
    have hd := dc_three (by omega) (by omega) hf
    exact ⟨ret_two hd.1 hd.2, hw⟩
  · refine (first_4 s w _ h rfl (by omega) (by omega) hs).mono ?_
    rintro e w' ⟨⟨r, k, rfl, hf⟩, hw⟩
    rw [← hh] at hf
    have hd := dc_four (by omega) (by omega) hf
    exact ⟨ret_two hd.1 hd.2, hw⟩

/-- .. of what stands behind a place of a text. -/
theorem first_at (s : ByteArray) (p : Nat) (w : World) (h : p < s.size) (hs : s.size ≤ 1073741824) :
    Calls Tryz.prog 24 #[.string (s.extract p s.size)] w fun e w' => e = .returned (.tuple #[.int .i64 ((dc (s.data.toList.drop p)).1 : Int), .int .i64 ((dc (s.data.toList.drop p)).2 : Int)]) ∧ w = w' := by
  have e := extract_eq s p s.size
  have e2 : (s.data.toList.drop p).take (s.size - p) = s.data.toList.drop p := List.take_of_length_le (by rw [List.length_drop, len_data]; exact Nat.le_refl _)
  rw [e2] at e
  have h1 := first_any (s.extract p s.size) w (by rw [e, size_list, List.length_drop, len_data]; omega) (by rw [e, size_list, List.length_drop, len_data]; omega)
  have e3 : (s.extract p s.size).data.toList = s.data.toList.drop p := by rw [e]
  rw [e3] at h1
  exact h1

end Go.Proofs.YtcbojffcnlkejaaGreatDoor.run

/- The document's Clean, of any bytes. -/
namespace Go.Proofs.YtcbojffcnlkejaaGreatDoor.run
open Go.RowKit

/-- What a call owns stays while nothing that was there turns. -/
theorem own_stays {w w' : World} {B : Nat} {e : TypeId} {v : Value} {n : Nat} {xs : List Value} (h : w.ownsRow B e 1 v n xs) (hb : Below w.heap.size w w') : w'.ownsRow B e 1 v n xs := by
  refine ⟨h.1, ?_⟩
  rcases h.2 with hn | ⟨g, cap, cur, hv, hB, hgg, rest⟩
  · exact .inl hn
  · exact .inr ⟨g, cap, cur, hv, hB, (hb.block g (Array.getElem?_eq_some_iff.1 hgg).1).trans hgg, rest⟩

theorem below_grown0 {w0 w w' : World} {B : Nat} {e : TypeId} {v : Value} {n : Nat} {xs : List Value} (hb : Below B w0 w) (hB : B ≤ w.heap.size) (h : w.ownsRow B e 1 v n xs) (hg : w.grownBy w' v.ownBlock) : Below B w0 w' :=
  hb.grown hg hB (fun k hk => (h.lt k hk).1)

end Go.Proofs.YtcbojffcnlkejaaGreatDoor.run

/- The document's small: a letter as a small one. -/
namespace Go.Proofs.YtcbojffcnlkejaaGreatDoor.run
open Go.RowKit

set_option maxHeartbeats 1000000 in
set_option maxRecDepth 100000 in
theorem rsmall_a (r : Int) (h0 : 65 ≤ r) (h1 : r ≤ 90) (w : World) :
    Calls Tryz.prog 26 #[.int .i64 r] w fun e w' => e = .returned (.string ⟨(enc (r + 32).toNat).toArray⟩) ∧ Below w.heap.size w w' := by
  have q1 : (r == 223) = false := by simp; omega
  have q2 : (r == 7838) = false := by simp; omega
  have e0 : inB r 65 90 = true := by simp [inB]; omega
  have e1 : inB r 192 222 = false := by simp [inB]; omega
  have e2 : inB r 913 937 = false := by simp [inB]; omega
  have e3 : inB r 1040 1071 = false := by simp [inB]; omega
  have e4 : inB r 1024 1039 = false := by simp [inB]; omega
  go_enter Tryz.func26, Tryz.ntmps26
  go_wp2_with (first | (go_at_call 32; refine (refin_any _ _ _ _).mono ?_; rintro e w' ⟨rfl, rfl⟩) | (go_at_call 33; refine (put_int (r + 32) (by omega) (by omega) _).mono ?_))
  first | rintro e w1 rfl g1 | rintro e w1 ⟨rfl, g1⟩
  go_wp2
  go_ret
  exact ⟨rfl, g1⟩

set_option maxHeartbeats 1000000 in
set_option maxRecDepth 100000 in
theorem rsmall_b (r : Int) (h0 : 192 ≤ r) (h1 : r ≤ 222) (h2 : r ≠ 215) (w : World) :
    Calls Tryz.prog 26 #[.int .i64 r] w fun e w' => e = .returned (.string ⟨(enc (r + 32).toNat).toArray⟩) ∧ Below w.heap.size w w' := by
  have q1 : (r == 223) = false := by simp; omega
  have q2 : (r == 7838) = false := by simp; omega
  have q3 : (r != 215) = true := by simp; omega
  have e0 : inB r 65 90 = false := by simp [inB]; omega
  have e1 : inB r 192 222 = true := by simp [inB]; omega
  have e2 : inB r 913 937 = false := by simp [inB]; omega
  have e3 : inB r 1040 1071 = false := by simp [inB]; omega
  have e4 : inB r 1024 1039 = false := by simp [inB]; omega
  go_enter Tryz.func26, Tryz.ntmps26
  go_wp2_with (first | (go_at_call 32; refine (refin_any _ _ _ _).mono ?_; rintro e w' ⟨rfl, rfl⟩) | (go_at_call 33; refine (put_int (r + 32) (by omega) (by omega) _).mono ?_))
  first | rintro e w1 rfl g1 | rintro e w1 ⟨rfl, g1⟩
  go_wp2
  go_ret
  exact ⟨rfl, g1⟩

set_option maxHeartbeats 1000000 in
set_option maxRecDepth 100000 in
theorem rsmall_c (r : Int) (h0 : 913 ≤ r) (h1 : r ≤ 937) (w : World) :
    Calls Tryz.prog 26 #[.int .i64 r] w fun e w' => e = .returned (.string ⟨(enc (r + 32).toNat).toArray⟩) ∧ Below w.heap.size w w' := by
  have q1 : (r == 223) = false := by simp; omega
  have q2 : (r == 7838) = false := by simp; omega
  have e0 : inB r 65 90 = false := by simp [inB]; omega
  have e1 : inB r 192 222 = false := by simp [inB]; omega
  have e2 : inB r 913 937 = true := by simp [inB]; omega
  have e3 : inB r 1040 1071 = false := by simp [inB]; omega
  have e4 : inB r 1024 1039 = false := by simp [inB]; omega
  go_enter Tryz.func26, Tryz.ntmps26
  go_wp2_with (first | (go_at_call 32; refine (refin_any _ _ _ _).mono ?_; rintro e w' ⟨rfl, rfl⟩) | (go_at_call 33; refine (put_int (r + 32) (by omega) (by omega) _).mono ?_))
  first | rintro e w1 rfl g1 | rintro e w1 ⟨rfl, g1⟩
  go_wp2
  go_ret
  exact ⟨rfl, g1⟩

set_option maxHeartbeats 1000000 in
set_option maxRecDepth 100000 in
theorem rsmall_d (r : Int) (h0 : 1040 ≤ r) (h1 : r ≤ 1071) (w : World) :
    Calls Tryz.prog 26 #[.int .i64 r] w fun e w' => e = .returned (.string ⟨(enc (r + 32).toNat).toArray⟩) ∧ Below w.heap.size w w' := by
  have q1 : (r == 223) = false := by simp; omega
  have q2 : (r == 7838) = false := by simp; omega
  have e0 : inB r 65 90 = false := by simp [inB]; omega
  have e1 : inB r 192 222 = false := by simp [inB]; omega
  have e2 : inB r 913 937 = false := by simp [inB]; omega
  have e3 : inB r 1040 1071 = true := by simp [inB]; omega
  have e4 : inB r 1024 1039 = false := by simp [inB]; omega
  go_enter Tryz.func26, Tryz.ntmps26
  go_wp2_with (first | (go_at_call 32; refine (refin_any _ _ _ _).mono ?_; rintro e w' ⟨rfl, rfl⟩) | (go_at_call 33; refine (put_int (r + 32) (by omega) (by omega) _).mono ?_))
  first | rintro e w1 rfl g1 | rintro e w1 ⟨rfl, g1⟩
  go_wp2
  go_ret
  exact ⟨rfl, g1⟩

set_option maxHeartbeats 1000000 in
set_option maxRecDepth 100000 in
theorem rsmall_e (r : Int) (h0 : 1024 ≤ r) (h1 : r ≤ 1039) (w : World) :
    Calls Tryz.prog 26 #[.int .i64 r] w fun e w' => e = .returned (.string ⟨(enc (r + 80).toNat).toArray⟩) ∧ Below w.heap.size w w' := by
  have q1 : (r == 223) = false := by simp; omega
  have q2 : (r == 7838) = false := by simp; omega
  have e0 : inB r 65 90 = false := by simp [inB]; omega
  have e1 : inB r 192 222 = false := by simp [inB]; omega
  have e2 : inB r 913 937 = false := by simp [inB]; omega
  have e3 : inB r 1040 1071 = false := by simp [inB]; omega
  have e4 : inB r 1024 1039 = true := by simp [inB]; omega
  go_enter Tryz.func26, Tryz.ntmps26
  go_wp2_with (first | (go_at_call 32; refine (refin_any _ _ _ _).mono ?_; rintro e w' ⟨rfl, rfl⟩) | (go_at_call 33; refine (put_int (r + 80) (by omega) (by omega) _).mono ?_))
  first | rintro e w1 rfl g1 | rintro e w1 ⟨rfl, g1⟩
  go_wp2
  go_ret
  exact ⟨rfl, g1⟩

set_option maxHeartbeats 1000000 in
set_option maxRecDepth 100000 in
theorem rsmall_f (r : Int) (h0 : 215 ≤ r) (h1 : r ≤ 215) (w : World) :
    Calls Tryz.prog 26 #[.int .i64 r] w fun e w' => e = .returned (.string ⟨(enc (r).toNat).toArray⟩) ∧ Below w.heap.size w w' := by
  have q1 : (r == 223) = false := by simp; omega
  have q2 : (r == 7838) = false := by simp; omega
  have q3 : (r != 215) = false := by simp; omega
  have e0 : inB r 65 90 = false := by simp [inB]; omega
  have e1 : inB r 192 222 = true := by simp [inB]; omega
  have e2 : inB r 913 937 = false := by simp [inB]; omega
  have e3 : inB r 1040 1071 = false := by simp [inB]; omega
  have e4 : inB r 1024 1039 = false := by simp [inB]; omega
  go_enter Tryz.func26, Tryz.ntmps26
  go_wp2_with (first | (go_at_call 32; refine (refin_any _ _ _ _).mono ?_; rintro e w' ⟨rfl, rfl⟩) | (go_at_call 33; refine (put_int (r) (by omega) (by omega) _).mono ?_))
  first | rintro e w1 rfl g1 | rintro e w1 ⟨rfl, g1⟩
  go_wp2
  go_ret
  exact ⟨rfl, g1⟩

set_option maxHeartbeats 1000000 in
set_option maxRecDepth 100000 in
theorem rsmall_g (r : Int) (h0 : 0 ≤ r) (hok : r < 55296 ∨ (57343 < r ∧ r ≤ 1114111)) (h1 : ¬ (65 ≤ r ∧ r ≤ 90)) (h2 : ¬ (192 ≤ r ∧ r ≤ 222)) (h3 : ¬ (913 ≤ r ∧ r ≤ 937)) (h4 : ¬ (1024 ≤ r ∧ r ≤ 1071)) (h5 : r ≠ 223) (h6 : r ≠ 7838) (w : World) :
    Calls Tryz.prog 26 #[.int .i64 r] w fun e w' => e = .returned (.string ⟨(enc (r).toNat).toArray⟩) ∧ Below w.heap.size w w' := by
  have q1 : (r == 223) = false := by simp; omega
  have q2 : (r == 7838) = false := by simp; omega
  have e0 : inB r 65 90 = false := by simp [inB]; omega
  have e1 : inB r 192 222 = false := by simp [inB]; omega
  have e2 : inB r 913 937 = false := by simp [inB]; omega
  have e3 : inB r 1040 1071 = false := by simp [inB]; omega
  have e4 : inB r 1024 1039 = false := by simp [inB]; omega
  go_enter Tryz.func26, Tryz.ntmps26
  go_wp2_with (first | (go_at_call 32; refine (refin_any _ _ _ _).mono ?_; rintro e w' ⟨rfl, rfl⟩) | (go_at_call 33; refine (put_int (r) (by omega) (by omega) _).mono ?_))
  first | rintro e w1 rfl g1 | rintro e w1 ⟨rfl, g1⟩
  go_wp2
  go_ret
  exact ⟨rfl, g1⟩

set_option maxHeartbeats 1000000 in
set_option maxRecDepth 100000 in
theorem rsmall_ss (r : Int) (h : r = 223 ∨ r = 7838) (w : World) :
    Calls Tryz.prog 26 #[.int .i64 r] w fun e w' => e = .returned (.string ⟨#[115, 115]⟩) ∧ Below w.heap.size w w' := by
  rcases h with rfl | rfl
  all_goals
    go_enter Tryz.func26, Tryz.ntmps26
    go_wp2
    go_ret
    exact ⟨rfl, Below.refl _ _⟩

/-- small, of every right character. -/
theorem rsmall_any (r : Nat) (hr : Ok r) (w : World) :
    Calls Tryz.prog 26 #[.int .i64 (r : Int)] w fun e w' => e = .returned (.string ⟨(encAll (smallR r)).toArray⟩) ∧ Below w.heap.size w w' := by
  by_cases hs : r = 223 ∨ r = 7838
  · have e1 : encAll (smallR r) = [115, 115] := by unfold smallR; rw [if_pos hs]; decide
    rw [e1]
    exact rsmall_ss r (by omega) w
  · have e1 : encAll (smallR r) = enc (lower r) := by unfold smallR; rw [if_neg hs, encAll_cons, encAll_nil, List.append_nil]
    rw [e1]
    by_cases c1 : (65 ≤ r ∧ r ≤ 90) ∨ (192 ≤ r ∧ r ≤ 222 ∧ r ≠ 215) ∨ (913 ≤ r ∧ r ≤ 937) ∨ (1040 ≤ r ∧ r ≤ 1071)
    · have e3 : lower r = ((r : Int) + 32).toNat := by unfold lower; rw [if_pos c1]; omega
      rw [e3]
      rcases c1 with c | c | c | c
      · exact rsmall_a r (by omega) (by omega) w
      · exact rsmall_b r (by omega) (by omega) (by omega) w
      · exact rsmall_c r (by omega) (by omega) w
      · exact rsmall_d r (by omega) (by omega) w
    · by_cases c2 : 1024 ≤ r ∧ r ≤ 1039
      · have e3 : lower r = ((r : Int) + 80).toNat := by unfold lower; rw [if_neg c1, if_pos c2]; omega
        rw [e3]
        exact rsmall_e r (by omega) (by omega) w
      · have e3 : lower r = ((r : Int)).toNat := by unfold lower; rw [if_neg c1, if_neg c2]; omega
        rw [e3]
        by_cases c3 : r = 215
        · exact rsmall_f r (by omega) (by omega) w
        · exact rsmall_g r (by omega) (by omega) (by omega) (by omega) (by omega) (by omega) (by omega) (by omega) w

end Go.Proofs.YtcbojffcnlkejaaGreatDoor.run

/- The document's Fold, of any text. -/
namespace Go.Proofs.YtcbojffcnlkejaaGreatDoor.run
open Go.RowKit

set_option maxHeartbeats 4000000 in
set_option maxRecDepth 100000 in
theorem reffold_any (s : ByteArray) (w : World) (hsm : s.size ≤ 1073741824) :
    Calls Tryz.prog 16 #[.string s] w fun e w' => e = .returned (.string ⟨(fold s.data.toList).toArray⟩) ∧ Below w.heap.size w w' := by
  obtain ⟨i0, hi, hz0, hz1, hz2⟩ := info_parts info5
  go_enter Tryz.func16, Tryz.ntmps16
  go_wp2
  go_loopw [3, 4, 5] (fun v tg ti wr => ∃ (p : Nat) (acc : List Nat) (gap : Bool), wr.ownsRow w.heap.size 5 1 v (encAll acc).length (Lib.byteCells (encAll acc)) ∧ tg = .bool gap ∧ ti = .int .i64 p ∧ p ≤ s.size ∧ (encAll acc).length ≤ 5 * p ∧ Below w.heap.size w wr ∧ Hid (encAll (foldS acc gap (runes (s.data.toList.drop p))) = fold s.data.toList)) (fun _ _ ti _ => s.size - (intOf ti).toNat)
  case atStart => exact ⟨0, [], false, World.ownsRow_nil _ _ _ _, rfl, rfl, by omega, by simp [encAll_nil], Below.refl _ _, rfl⟩
  case round =>
    obtain ⟨p, acc, gap, hown, rfl, rfl, hp, hal, hbw, HA⟩ := hrel
    have hsz := hbw.size
    by_cases hlt : p < s.size
    · have hdn : s.data.toList.drop p ≠ [] := drop_ne (by rw [len_data]; exact hlt)
      have hok := dc_ok (s.data.toList.drop p) hdn
      have hst := runes_cons (s.data.toList.drop p) hdn
      have hfst := first_at s p wr hlt hsm
      rw [List.length_drop, len_data] at hok
      rw [List.drop_drop] at hst
      have hacc := HA.out
      rw [hst] at hacc
      clear hst HA
      generalize hr : (dc (s.data.toList.drop p)).1 = r at *
      generalize hn : (dc (s.data.toList.drop p)).2 = n at *
      obtain ⟨hr1, hn1, hn2⟩ := hok
      have hsb := space_nat r
      have hsml := fun wx => rsmall_any r hr1 wx
      have HSM := (show Hid (∀ wx, Calls Tryz.prog 26 #[.int .i64 (r : Int)] wx fun e w' => e = .returned (.string ⟨(encAll (smallR r)).toArray⟩) ∧ Below wx.heap.size wx w') from hsml)
      have hl4 := smallR_len r
      obtain ⟨ao, cap, hv⟩ := own_slice hown
      subst hv
      clear hr hn hdn hsml
      cases hsp : spaceN r with
      | true =>
        rw [foldS_space _ _ _ _ hsp] at hacc
        rw [hsp] at hsb
        have HN : Hid (encAll (foldS acc true (runes (s.data.toList.drop (p + n)))) = fold s.data.toList) := hacc
        clear hacc hsp
        go_wp2_with (first | (go_at_call 24; refine hfst.mono ?_; rintro e w' ⟨rfl, rfl⟩) | (go_at_call 25; refine (refspace_any _ _).mono ?_; rintro e w' ⟨rfl, rfl⟩))
        go_roundw
        case rel => exact ⟨p + n, acc, true, hown, rfl, by go_num, by omega, by omega, hbw, HN⟩
        case measure => simp [intOf]; omega
      | false =>
        rw [foldS_char _ _ _ _ hsp] at hacc
        rw [hsp] at hsb
        by_cases hgp : gap = true ∧ acc.length ≠ 0
        · have hgr : gapR gap acc = [32] := by unfold gapR; rw [if_pos hgp]
          rw [hgr] at hacc
          have hlen : 0 < (encAll acc).length := by have := (encAll_le acc).1; omega
          have hltz : (0 : Int) < ((encAll acc).length : Int) := by omega
          obtain ⟨rfl, hg2⟩ := hgp
          have HN : Hid (encAll (foldS (acc ++ [32] ++ smallR r) false (runes (s.data.toList.drop (p + n)))) = fold s.data.toList) := hacc
          clear hacc hsp hgr hg2
          go_wp2_with (first | (go_at_call 24; refine hfst.mono ?_; rintro e w' ⟨rfl, rfl⟩) | (go_at_call 25; refine (refspace_any _ _).mono ?_; rintro e w' ⟨rfl, rfl⟩) | (at_builtin; refine wpList_append_own _ rfl _ _ 69 rfl w.heap.size 5 i0 (.int .u8 0) 1 1 Tryz.underlying69 hi hz0 hz1 hz2 rfl (by decide) _ _ _ rfl (hown.alloc _) ⟨wr.heap.size, 0, none⟩ 1 1 [.int .u8 32] rfl rfl ?c1 ?c2 ?c3 ?c4 ?c5 ?_))
          case c1 => exact lit_cells _ [.int .u8 32] _
          case c2 => intro u hu; simp at hu; subst hu; rfl
          case c3 => unfold maxLen; omega
          case c4 => omega
          case c5 => simp; omega
          intro v2 w2 hown3 hgrow _
          have hbw3 := below_grown hbw hsz hown hgrow
          have hsz3 : w.heap.size ≤ w2.heap.size := by have := hgrow.size; simp at this; omega
          have hown4 : w2.ownsRow w.heap.size 5 1 v2 ((encAll acc).length + 1) (Lib.byteCells (encAll acc) ++ [.int .u8 32]) := hown3
          clear hown3 hgrow hown hbw
          go_wp2_with (go_at_call 26; refine (HSM.out _).mono ?_)
          first | rintro e w3 rfl hb3 | rintro e w3 ⟨rfl, hb3⟩
          have hown5 := own_stays hown4 hb3
          have hbw5 := hbw3.trans (hb3.mono hsz3)
          have hsz5 := hbw5.size
          have hsl := size_list (encAll (smallR r))
          go_wp2_with (at_builtin; refine Lib.wpList_append_own_string _ rfl _ _ 69 9 rfl w.heap.size 5 i0 Tryz.underlying69 Tryz.underlying9 hi hz0 hz1 hz2 _ _ _ rfl hown5 _ rfl ?d1 ?d2 hsz5 ?_)
          case d1 => unfold maxLen; omega
          case d2 => omega
          intro v3 w4 hown6 hgrow6 _
          have hbw6 := below_grown0 hbw5 hsz5 hown5 hgrow6
          try rw [hsl] at hown6
          go_wp2
          go_roundw
          case rel =>
            have ea : encAll (acc ++ [32] ++ smallR r) = (encAll acc ++ [32]) ++ encAll (smallR r) := by rw [encAll_append, encAll_append]; rfl
            refine ⟨p + n, acc ++ [32] ++ smallR r, false, ?_, rfl, by go_num, by omega, ?_, hbw6, HN⟩
            · rw [ea, Lib.byteCells_append, bytes_push, List.length_append, List.length_append, List.append_assoc]; first | exact hown6 | (rw [List.append_assoc] at hown6; exact hown6)
            · rw [ea, List.length_append, List.length_append]; simp only [List.length_cons, List.length_nil]; omega
          case measure => simp [intOf]; omega
        · have hgr : gapR gap acc = [] := by unfold gapR; rw [if_neg hgp]
          rw [hgr, List.append_nil] at hacc
          have HN : Hid (encAll (foldS (acc ++ smallR r) false (runes (s.data.toList.drop (p + n)))) = fold s.data.toList) := hacc
          have hdec : gap = false ∨ (gap = true ∧ (encAll acc).length = 0) := by
            cases gap with
            | false => exact .inl rfl
            | true =>
              have h0 : acc.length = 0 := by
                by_cases h : acc.length = 0
                · exact h
                · exact absurd ⟨rfl, h⟩ hgp
              have := (encAll_le acc).2
              exact .inr ⟨rfl, by omega⟩
          clear hacc hsp hgr hgp
          have hsl := size_list (encAll (smallR r))
          rcases hdec with rfl | ⟨rfl, hz⟩
          case inr =>
            have hnl : ¬ (0 : Int) < ((encAll acc).length : Int) := by omega
            have hdd : decide ((0 : Int) < ((encAll acc).length : Int)) = false := decide_eq_false hnl
            have HZ : Hid ((encAll acc).length = 0) := hz
            clear hz
            go_wp2_with (first | (go_at_call 24; refine hfst.mono ?_; rintro e w' ⟨rfl, rfl⟩) | (go_at_call 25; refine (refspace_any _ _).mono ?_; rintro e w' ⟨rfl, rfl⟩) | (go_at_call 26; refine (HSM.out _).mono ?_))
            all_goals
              first | rintro e w3 rfl hb3 | rintro e w3 ⟨rfl, hb3⟩
              have hown5 := own_stays hown hb3
              have hbw5 := hbw.trans (hb3.mono hsz)
              have hsz5 := hbw5.size
              go_wp2_with (at_builtin; refine Lib.wpList_append_own_string _ rfl _ _ 69 9 rfl w.heap.size 5 i0 Tryz.underlying69 Tryz.underlying9 hi hz0 hz1 hz2 _ _ _ rfl hown5 _ rfl ?d1 ?d2 hsz5 ?_)
              case d1 => unfold maxLen; omega
              case d2 => omega
              intro v3 w4 hown6 hgrow6 _
              have hbw6 := below_grown0 hbw5 hsz5 hown5 hgrow6
              try rw [hsl] at hown6
              go_wp2
              go_roundw
              case rel =>
                refine ⟨p + n, acc ++ smallR r, false, ?_, rfl, by go_num, by omega, ?_, hbw6, HN⟩
                · rw [encAll_append, Lib.byteCells_append, List.length_append]; exact hown6
                · rw [encAll_append, List.length_append]; omega
              case measure => simp [intOf]; omega
          case inl =>
            go_wp2_with (first | (go_at_call 24; refine hfst.mono ?_; rintro e w' ⟨rfl, rfl⟩) | (go_at_call 25; refine (refspace_any _ _).mono ?_; rintro e w' ⟨rfl, rfl⟩) | (go_at_call 26; refine (HSM.out _).mono ?_))
            first | rintro e w3 rfl hb3 | rintro e w3 ⟨rfl, hb3⟩
            have hown5 := own_stays hown hb3
            have hbw5 := hbw.trans (hb3.mono hsz)
            have hsz5 := hbw5.size
            go_wp2_with (at_builtin; refine Lib.wpList_append_own_string _ rfl _ _ 69 9 rfl w.heap.size 5 i0 Tryz.underlying69 Tryz.underlying9 hi hz0 hz1 hz2 _ _ _ rfl hown5 _ rfl ?d1 ?d2 hsz5 ?_)
            case d1 => unfold maxLen; omega
            case d2 => omega
            intro v3 w4 hown6 hgrow6 _
            have hbw6 := below_grown0 hbw5 hsz5 hown5 hgrow6
            try rw [hsl] at hown6
            go_wp2
            go_roundw
            case rel =>
              refine ⟨p + n, acc ++ smallR r, false, ?_, rfl, by go_num, by omega, ?_, hbw6, HN⟩
              · rw [encAll_append, Lib.byteCells_append, List.length_append]; exact hown6
              · rw [encAll_append, List.length_append]; omega
            case measure => simp [intOf]; omega
    · have hcv := own_string hown
      have hacc := HA.out
      rw [List.drop_eq_nil_of_le (by rw [len_data]; omega), runes_nil] at hacc
      have hacc' : encAll acc = fold s.data.toList := hacc
      rw [hacc'] at hcv
      have hge : s.size ≤ p := by omega
      clear hown HA hacc hacc' hlt
      go_wp2
      go_ret
      exact ⟨rfl, hbw⟩

end Go.Proofs.YtcbojffcnlkejaaGreatDoor.run
