/- Several texts in one. -/
import Derived.Test.YtkbmblmnhhlicaaGreatDoorPlainDisk
import Derived.Lib.ItoaNum
set_option linter.unusedVariables false
/- CRC-32 over lists: by fours of bits as the program, and bit by bit. -/
namespace Go.Proofs.YtkbmblmnhhlicaaGreatDoor

abbrev crcP : Nat := 3988292384
def bit1 (s : Nat) : Nat := if s % 2 = 1 then s / 2 ^^^ crcP else s / 2
def crcTab : List Nat := [0, 498536548, 997073096, 651767980, 1994146192, 1802195444, 1303535960, 1342533948, 3988292384, 4027552580, 3604390888, 3412177804, 2607071920, 2262029012, 2685067896, 3183342108]
def nib (s : Nat) : Nat := s / 16 ^^^ crcTab.getD (s % 16) 0
def crcB (s : Nat) (c : UInt8) : Nat := nib (nib (s ^^^ c.toNat))
def crcR (s : Nat) (l : List UInt8) : Nat := l.foldl crcB s
def crcL (l : List UInt8) : Nat := crcR 4294967295 l ^^^ 4294967295
def bits8 (s : Nat) : Nat := bit1 (bit1 (bit1 (bit1 (bit1 (bit1 (bit1 (bit1 s)))))))

theorem xor_half (x y : Nat) : (x ^^^ y) / 2 = x / 2 ^^^ y / 2 := by
  refine Nat.eq_of_testBit_eq fun i => ?_
  simp only [Nat.testBit_xor, Nat.testBit_div_two]
theorem xor_cancel {a b c : Nat} (h : a ^^^ c = b ^^^ c) : a = b := by
  have h1 := congrArg (· ^^^ c) h
  simpa [Nat.xor_assoc] using h1
theorem xor_odd (x y : Nat) : ((x ^^^ y) % 2 = 1) ↔ ¬ (x % 2 = 1 ↔ y % 2 = 1) := by
  have h := Nat.testBit_xor x y 0
  simp only [Nat.testBit_zero] at h
  by_cases h1 : x % 2 = 1 <;> by_cases h2 : y % 2 = 1 <;> simp_all
theorem bit1_xor (x y : Nat) : bit1 (x ^^^ y) = bit1 x ^^^ bit1 y := by
  unfold bit1
  have ho := xor_odd x y
  have hh := xor_half x y
  by_cases h1 : x % 2 = 1 <;> by_cases h2 : y % 2 = 1
  · rw [if_neg (by rw [ho]; simp [h1, h2]), if_pos h1, if_pos h2, hh]
    rw [Nat.xor_comm (y / 2), ← Nat.xor_assoc, Nat.xor_assoc (x / 2), Nat.xor_self, Nat.xor_zero]
  · rw [if_pos (by rw [ho]; simp [h1, h2]), if_pos h1, if_neg h2, hh, Nat.xor_assoc, Nat.xor_assoc, Nat.xor_comm (y / 2)]
  · rw [if_pos (by rw [ho]; simp [h1, h2]), if_neg h1, if_pos h2, hh, Nat.xor_assoc]
  · rw [if_neg (by rw [ho]; simp [h1, h2]), if_neg h1, if_neg h2, hh]
theorem bit1_even (m : Nat) : bit1 (2 * m) = m := by
  unfold bit1
  rw [if_neg (by omega)]
  omega
theorem split16 (s : Nat) : s = (2 * (2 * (2 * (2 * (s / 16))))) ^^^ (s % 16) := by
  have h1 : 2 * (2 * (2 * (2 * (s / 16)))) = 2 ^ 4 * (s / 16) := by omega
  rw [h1]
  refine Nat.eq_of_testBit_eq fun i => ?_
  rw [Nat.testBit_xor, Nat.testBit_two_pow_mul, show s % 16 = s % 2 ^ 4 from rfl, Nat.testBit_mod_two_pow, show s / 16 = s / 2 ^ 4 from rfl, Nat.testBit_div_two_pow]
  by_cases h : i < 4
  · simp [h, show ¬ 4 ≤ i by omega]
  · have : 4 ≤ i := by omega
    simp [h, this]
theorem tab_bits : ∀ l : Fin 16, bit1 (bit1 (bit1 (bit1 l.val))) = crcTab.getD l.val 0 := by decide
theorem nib_bits (s : Nat) : nib s = bit1 (bit1 (bit1 (bit1 s))) := by
  conv => rhs; rw [split16 s]
  rw [bit1_xor, bit1_even, bit1_xor, bit1_even, bit1_xor, bit1_even, bit1_xor, bit1_even]
  have := tab_bits ⟨s % 16, Nat.mod_lt _ (by decide)⟩
  simp only at this
  rw [this]
  rfl
theorem crcB_bits (s : Nat) (c : UInt8) : crcB s c = bits8 (s ^^^ c.toNat) := by
  unfold crcB bits8
  rw [nib_bits, nib_bits]

theorem xor_lt32 {a b : Nat} (ha : a < 4294967296) (hb : b < 4294967296) : a ^^^ b < 4294967296 := Nat.xor_lt_two_pow (n := 32) ha hb
theorem tab_lt (k : Nat) : crcTab.getD k 0 < 4294967296 := by
  by_cases h : k < 16
  · have : ∀ l : Fin 16, crcTab.getD l.val 0 < 4294967296 := by decide
    exact this ⟨k, h⟩
  · have : crcTab.getD k 0 = 0 := by
      rw [List.getD_eq_getElem?_getD, List.getElem?_eq_none (by show 16 ≤ k; omega)]; rfl
    rw [this]; decide
theorem nib_lt {s : Nat} (h : s < 4294967296) : nib s < 4294967296 := xor_lt32 (by omega) (tab_lt _)
theorem byte_lt32 (c : UInt8) : c.toNat < 4294967296 := by have := c.toNat_lt; omega
theorem crcB_lt {s : Nat} (h : s < 4294967296) (c : UInt8) : crcB s c < 4294967296 := nib_lt (nib_lt (xor_lt32 h (byte_lt32 c)))
theorem crcR_lt : ∀ {l : List UInt8} {s : Nat}, s < 4294967296 → crcR s l < 4294967296
  | [], _, h => h
  | c :: l, s, h => crcR_lt (l := l) (crcB_lt h c)
theorem crcL_lt (l : List UInt8) : crcL l < 4294967296 := xor_lt32 (crcR_lt (by decide)) (by decide)
theorem crcR_append (s : Nat) (a b : List UInt8) : crcR s (a ++ b) = crcR (crcR s a) b := List.foldl_append

/-! ### a byte turned is told -/
theorem bit1_lt {x : Nat} (h : x < 4294967296) : bit1 x < 4294967296 := by
  unfold bit1
  split
  · exact xor_lt32 (by omega) (by decide)
  · omega
theorem top_xor (m : Nat) (h : m < 2147483648) : 2147483648 ≤ m ^^^ crcP := by
  have h1 : (m ^^^ crcP).testBit 31 = true := by
    rw [Nat.testBit_xor, Nat.testBit_lt_two_pow (x := m) (i := 31) (by simpa using h)]
    decide
  exact Nat.ge_two_pow_of_testBit h1
theorem bit1_inj {x y : Nat} (hx : x < 4294967296) (hy : y < 4294967296) (h : bit1 x = bit1 y) : x = y := by
  unfold bit1 at h
  split at h <;> split at h
  · have := xor_cancel h
    omega
  · have := top_xor (x / 2) (by omega)
    omega
  · have := top_xor (y / 2) (by omega)
    omega
  · omega
theorem bits8_inj {x y : Nat} (hx : x < 4294967296) (hy : y < 4294967296) (h : bits8 x = bits8 y) : x = y := by
  unfold bits8 at h
  have l1 := bit1_lt hx; have l2 := bit1_lt l1; have l3 := bit1_lt l2; have l4 := bit1_lt l3; have l5 := bit1_lt l4; have l6 := bit1_lt l5; have l7 := bit1_lt l6
  have m1 := bit1_lt hy; have m2 := bit1_lt m1; have m3 := bit1_lt m2; have m4 := bit1_lt m3; have m5 := bit1_lt m4; have m6 := bit1_lt m5; have m7 := bit1_lt m6
  exact bit1_inj hx hy (bit1_inj l1 m1 (bit1_inj l2 m2 (bit1_inj l3 m3 (bit1_inj l4 m4 (bit1_inj l5 m5 (bit1_inj l6 m6 (bit1_inj l7 m7 h)))))))
theorem crcB_inj {s t : Nat} (hs : s < 4294967296) (ht : t < 4294967296) (c : UInt8) (h : crcB s c = crcB t c) : s = t := by
  rw [crcB_bits, crcB_bits] at h
  have := bits8_inj (xor_lt32 hs (byte_lt32 c)) (xor_lt32 ht (byte_lt32 c)) h
  exact xor_cancel this
theorem crcR_inj : ∀ {l : List UInt8} {s t : Nat}, s < 4294967296 → t < 4294967296 → crcR s l = crcR t l → s = t
  | [], _, _, _, _, h => h
  | c :: l, s, t, hs, ht, h => crcB_inj hs ht c (crcR_inj (l := l) (crcB_lt hs c) (crcB_lt ht c) h)
theorem crcL_turn (a b : List UInt8) (x y : UInt8) (h : crcL (a ++ x :: b) = crcL (a ++ y :: b)) : x = y := by
  unfold crcL at h
  have h1 := xor_cancel h
  rw [crcR_append, crcR_append] at h1
  have ha := crcR_lt (l := a) (s := 4294967295) (by decide)
  have h2 := crcR_inj (l := b) (crcB_lt ha x) (crcB_lt ha y) h1
  rw [crcB_bits, crcB_bits] at h2
  have h3 := bits8_inj (xor_lt32 ha (byte_lt32 x)) (xor_lt32 ha (byte_lt32 y)) h2
  rw [Nat.xor_comm _ x.toNat, Nat.xor_comm _ y.toNat] at h3
  exact UInt8.toNat_inj.1 (xor_cancel h3)
end Go.Proofs.YtkbmblmnhhlicaaGreatDoor

/- A log over lists: numbers as bytes, frames, names of segments. -/
namespace Go.Proofs.YtkbmblmnhhlicaaGreatDoor

def leN : Nat → Nat → List UInt8
  | 0, _ => []
  | k + 1, n => (n % 256).toUInt8 :: leN k (n / 256)
def ofLe : List UInt8 → Nat
  | [] => 0
  | c :: r => c.toNat + 256 * ofLe r
theorem leN_length : ∀ k n, (leN k n).length = k
  | 0, _ => rfl
  | k + 1, n => by simp [leN, leN_length k]
theorem u8_mod (n : Nat) : (n % 256).toUInt8.toNat = n % 256 := by
  have : (n % 256) % 256 = n % 256 := by omega
  simp [Nat.toUInt8, UInt8.toNat_ofNat', this]
theorem ofLe_leN : ∀ (k n : Nat), n < 256 ^ k → ofLe (leN k n) = n
  | 0, n, h => by simp at h; subst h; rfl
  | k + 1, n, h => by
    rw [leN, ofLe, ofLe_leN k (n / 256) (by rw [Nat.pow_succ] at h; omega), u8_mod]
    omega
theorem ofLe_lt : ∀ l : List UInt8, ofLe l < 256 ^ l.length
  | [] => by simp [ofLe]
  | c :: r => by
    have h1 := ofLe_lt r
    have h2 := c.toNat_lt
    simp only [ofLe, List.length_cons, Nat.pow_succ]
    omega
theorem ofLe_append : ∀ (a b : List UInt8), ofLe (a ++ b) = ofLe a + 256 ^ a.length * ofLe b
  | [], b => by simp [ofLe]
  | c :: a, b => by
    rw [List.cons_append, ofLe, ofLe, ofLe_append a b, List.length_cons, Nat.pow_succ, Nat.mul_add, ← Nat.mul_assoc, Nat.mul_comm 256 (256 ^ a.length)]
    omega
theorem ofLe_inj : ∀ {a b : List UInt8}, a.length = b.length → ofLe a = ofLe b → a = b
  | [], [], _, _ => rfl
  | [], _ :: _, h, _ => by cases h
  | _ :: _, [], h, _ => by cases h
  | c :: a, d :: b, h, e => by
    have hc := c.toNat_lt
    have hd := d.toNat_lt
    simp only [ofLe] at e
    have h1 : c.toNat = d.toNat := by omega
    have h2 : ofLe a = ofLe b := by omega
    rw [UInt8.toNat_inj.1 h1, ofLe_inj (by simpa using h) h2]

/-- The sum of a record, its frame. -/
def sumL (i : Nat) (b : List UInt8) : Nat := crcL (leN 8 i ++ b)
def frameL (i : Nat) (b : List UInt8) : List UInt8 := leN 4 b.length ++ leN 4 (sumL i b) ++ b
theorem sumL_lt (i : Nat) (b : List UInt8) : sumL i b < 4294967296 := crcL_lt _
theorem frameL_length (i : Nat) (b : List UInt8) : (frameL i b).length = 8 + b.length := by
  simp [frameL, leN_length]; omega

/-- How many bytes the frame of a number has that stands where s begins; 0: none does. -/
def standL (i : Nat) (s : List UInt8) : Nat :=
  if s.length < 8 then 0
  else if 8192 < ofLe (s.take 4) ∨ s.length - 8 < ofLe (s.take 4) then 0
  else if ofLe ((s.drop 4).take 4) = sumL i ((s.drop 8).take (ofLe (s.take 4))) then 8 + ofLe (s.take 4) else 0
theorem standL_le (i : Nat) (s : List UInt8) : standL i s ≤ s.length := by
  unfold standL
  split
  · omega
  · split
    · omega
    · split <;> omega
theorem standL_frame (i : Nat) (b r : List UInt8) (hb : b.length ≤ 8192) : standL i (frameL i b ++ r) = 8 + b.length := by
  have h1 : (frameL i b ++ r).take 4 = leN 4 b.length := by
    unfold frameL
    rw [List.append_assoc, List.append_assoc, List.take_append_of_le_length (by rw [leN_length]; omega), List.take_of_length_le (by rw [leN_length]; omega)]
  have h2 : (frameL i b ++ r).drop 4 = leN 4 (sumL i b) ++ (b ++ r) := by
    unfold frameL
    rw [List.append_assoc, List.append_assoc, List.drop_append_of_le_length (by rw [leN_length]; omega), List.drop_of_length_le (by rw [leN_length]; omega)]
    rfl
  have h3 : (frameL i b ++ r).drop 8 = b ++ r := by
    have : (frameL i b ++ r).drop 8 = ((frameL i b ++ r).drop 4).drop 4 := by rw [List.drop_drop]
    rw [this, h2, List.drop_append_of_le_length (by rw [leN_length]; omega), List.drop_of_length_le (by rw [leN_length]; omega)]
    rfl
  have h4 : ((frameL i b ++ r).drop 4).take 4 = leN 4 (sumL i b) := by
    rw [h2, List.take_append_of_le_length (by rw [leN_length]; omega), List.take_of_length_le (by rw [leN_length]; omega)]
  have h5 : (frameL i b ++ r).length = 8 + b.length + r.length := by rw [List.length_append, frameL_length]
  unfold standL
  rw [h1, h3, h4, h5, ofLe_leN 4 b.length (by show _ < 4294967296; omega), ofLe_leN 4 (sumL i b) (by show _ < 4294967296; exact sumL_lt i b), if_neg (by omega), if_neg (by omega)]
  rw [List.take_append_of_le_length (Nat.le_refl _), List.take_length, if_pos rfl]
theorem standL_short (i : Nat) (b p : List UInt8) (hb : b.length ≤ 8192) (hp : p <+: frameL i b) (hne : p ≠ frameL i b) : standL i p = 0 := by
  have hl : p.length < 8 + b.length := by
    have h1 := hp.length_le
    rw [frameL_length] at h1
    rcases Nat.lt_or_ge p.length (8 + b.length) with h | h
    · exact h
    · exact absurd (hp.eq_of_length (by rw [frameL_length]; omega)) hne
  unfold standL
  by_cases h8 : p.length < 8
  · rw [if_pos h8]
  · rw [if_neg h8]
    have h1 : p.take 4 = leN 4 b.length := by
      obtain ⟨t, ht⟩ := hp
      have : (p ++ t).take 4 = p.take 4 := List.take_append_of_le_length (by omega)
      rw [← this, ht]
      unfold frameL
      rw [List.append_assoc, List.take_append_of_le_length (by rw [leN_length]; omega), List.take_of_length_le (by rw [leN_length]; omega)]
    rw [h1, ofLe_leN 4 b.length (by show _ < 4294967296; omega), if_pos (by omega)]

/-! ### segments -/
structure Sg where
  num : Nat
  pl : List Nat
/-- The number that follows the last record's; where the next one would begin. -/
def Sg.next (s : Sg) : Nat := s.num + s.pl.length - 1
def Sg.size (s : Sg) : Nat := s.pl.getLastD 0
/-- Where further records begin, of the frames that stand there. -/
def readP : Nat → Nat → Nat → List UInt8 → List Nat
  | 0, _, _, _ => []
  | f + 1, i, at', s => if standL i s = 0 then [] else (at' + standL i s) :: readP f (i + 1) (at' + standL i s) (s.drop (standL i s))
def readSg (num : Nat) (s : List UInt8) : Sg := ⟨num, 0 :: readP (s.length + 1) num 0 s⟩
theorem readP_fuel : ∀ (f g i at' : Nat) (s : List UInt8), s.length < f → s.length < g → readP f i at' s = readP g i at' s
  | 0, _, _, _, _, h, _ => by omega
  | _, 0, _, _, _, _, h => by omega
  | f + 1, g + 1, i, at', s, hf, hg => by
    rw [readP, readP]
    split
    · rfl
    · rename_i h
      have hle := standL_le i s
      rw [readP_fuel f g (i + 1) _ _ (by rw [List.length_drop]; omega) (by rw [List.length_drop]; omega)]

def dig (n : Nat) : UInt8 := UInt8.ofNat (48 + n % 10)
def nameL (n : Nat) : Nm := [108, 111, 103, 46, dig (n / 100000), dig (n / 10000), dig (n / 1000), dig (n / 100), dig (n / 10), dig n]
theorem nameL_length (n : Nat) : (nameL n).length = 10 := rfl
theorem dec_one {n : Nat} (h : n < 10) : Lib.decDigits n = [dig n] := by
  rw [Lib.decDigits, dif_pos h]; unfold dig; rw [Nat.mod_eq_of_lt h]
theorem dec_more {n : Nat} (h : 10 ≤ n) : Lib.decDigits n = Lib.decDigits (n / 10) ++ [dig n] := by
  conv => lhs; rw [Lib.decDigits, dif_neg (by omega)]
  rfl
theorem dig_zero {n : Nat} (h : n = 0) : dig n = 48 := by subst h; decide
theorem pad_name (n : Nat) (h : n < 1000000) : (Lib.decDigits n).length ≤ 6 ∧ [108, 111, 103, 46] ++ (List.replicate (6 - (Lib.decDigits n).length) (48 : UInt8) ++ Lib.decDigits n) = nameL n := by
  have e2 : n / 10 / 10 = n / 100 := by omega
  have e3 : n / 100 / 10 = n / 1000 := by omega
  have e4 : n / 1000 / 10 = n / 10000 := by omega
  have e5 : n / 10000 / 10 = n / 100000 := by omega
  unfold nameL
  by_cases h1 : n < 10
  · rw [dec_one h1, dig_zero (n := n / 10) (by omega), dig_zero (n := n / 100) (by omega), dig_zero (n := n / 1000) (by omega), dig_zero (n := n / 10000) (by omega), dig_zero (n := n / 100000) (by omega)]
    exact ⟨by simp, rfl⟩
  rw [dec_more (n := n) (by omega)]
  by_cases h2 : n < 100
  · rw [dec_one (n := n / 10) (by omega), dig_zero (n := n / 100) (by omega), dig_zero (n := n / 1000) (by omega), dig_zero (n := n / 10000) (by omega), dig_zero (n := n / 100000) (by omega)]
    exact ⟨by simp, rfl⟩
  rw [dec_more (n := n / 10) (by omega), e2]
  by_cases h3 : n < 1000
  · rw [dec_one (n := n / 100) (by omega), dig_zero (n := n / 1000) (by omega), dig_zero (n := n / 10000) (by omega), dig_zero (n := n / 100000) (by omega)]
    exact ⟨by simp, rfl⟩
  rw [dec_more (n := n / 100) (by omega), e3]
  by_cases h4 : n < 10000
  · rw [dec_one (n := n / 1000) (by omega), dig_zero (n := n / 10000) (by omega), dig_zero (n := n / 100000) (by omega)]
    exact ⟨by simp, rfl⟩
  rw [dec_more (n := n / 1000) (by omega), e4]
  by_cases h5 : n < 100000
  · rw [dec_one (n := n / 10000) (by omega), dig_zero (n := n / 100000) (by omega)]
    exact ⟨by simp, rfl⟩
  rw [dec_more (n := n / 10000) (by omega), e5, dec_one (n := n / 100000) (by omega)]
  exact ⟨by simp, rfl⟩

/-- A segment's number, by its file's name; 0: it is none. -/
def digs (n : Nat) : List UInt8 → Option Nat
  | [] => some n
  | c :: r => if c.toNat < 48 ∨ 57 < c.toNat then none else digs (n * 10 + (c.toNat - 48)) r
def segNum (s : Nm) : Nat := if s.take 4 = [108, 111, 103, 46] ∧ s.length = 10 then (digs 0 (s.drop 4)).getD 0 else 0
theorem dig_nat (n : Nat) : (dig n).toNat = 48 + n % 10 := by
  have : (48 + n % 10) % 256 = 48 + n % 10 := by omega
  simp [dig, UInt8.toNat_ofNat', this]
theorem segNum_name (n : Nat) (h : n < 1000000) : segNum (nameL n) = n := by
  unfold segNum nameL
  rw [if_pos ⟨rfl, rfl⟩]
  simp only [List.drop, digs, dig_nat]
  rw [if_neg (by omega), if_neg (by omega), if_neg (by omega), if_neg (by omega), if_neg (by omega), if_neg (by omega)]
  simp only [Option.getD_some]
  omega
theorem digs_lt : ∀ (l : List UInt8) (n k : Nat), digs n l = some k → k < (n + 1) * 10 ^ l.length
  | [], n, k, h => by simp [digs] at h; subst h; simp
  | c :: r, n, k, h => by
    rw [digs] at h
    split at h
    · cases h
    · have := digs_lt r _ k h
      rw [List.length_cons, Nat.pow_succ, Nat.mul_comm (10 ^ r.length), ← Nat.mul_assoc]
      refine Nat.lt_of_lt_of_le this (Nat.mul_le_mul_right _ ?_)
      omega
theorem segNum_lt (s : Nm) : segNum s < 1000000 := by
  unfold segNum
  split
  · rename_i h
    cases hd : digs 0 (s.drop 4) with
    | none => simp
    | some k =>
      have := digs_lt _ _ _ hd
      rw [List.length_drop, h.2] at this
      simpa using this
  · decide
def segNums (l : List Nm) : List Nat := (l.map segNum).filter (fun n => decide (0 < n))
end Go.Proofs.YtkbmblmnhhlicaaGreatDoor

/- A log over lists: the records of its segments, and what is read of their files. -/
namespace Go.Proofs.YtkbmblmnhhlicaaGreatDoor

abbrev Rec := List UInt8
abbrev Recs := List Rec
def framesL : Nat → Recs → List UInt8
  | _, [] => []
  | i, b :: r => frameL i b ++ framesL (i + 1) r
def placesL : Nat → Recs → List Nat
  | _, [] => []
  | a, b :: r => (a + (8 + b.length)) :: placesL (a + (8 + b.length)) r
def sgOf (i : Nat) (r : Recs) : Sg := ⟨i, 0 :: placesL 0 r⟩
def bulk : Recs → Nat
  | [] => 0
  | b :: r => (8 + b.length) + bulk r
abbrev Small (r : Recs) : Prop := ∀ b ∈ r, b.length ≤ 8192

theorem placesL_length : ∀ (a : Nat) (r : Recs), (placesL a r).length = r.length
  | _, [] => rfl
  | a, b :: r => by simp [placesL, placesL_length _ r]
theorem framesL_length : ∀ (i : Nat) (r : Recs), (framesL i r).length = bulk r
  | _, [] => rfl
  | i, b :: r => by rw [framesL, List.length_append, frameL_length, framesL_length (i + 1) r, bulk]
theorem framesL_append : ∀ (i : Nat) (r s : Recs), framesL i (r ++ s) = framesL i r ++ framesL (i + r.length) s
  | i, [], s => by simp [framesL]
  | i, b :: r, s => by
    rw [List.cons_append, framesL, framesL, framesL_append (i + 1) r s, List.append_assoc, List.length_cons, show i + 1 + r.length = i + (r.length + 1) by omega]
theorem bulk_append : ∀ (r s : Recs), bulk (r ++ s) = bulk r + bulk s
  | [], s => by simp [bulk]
  | b :: r, s => by rw [List.cons_append, bulk, bulk, bulk_append r s]; omega
theorem placesL_append : ∀ (a : Nat) (r s : Recs), placesL a (r ++ s) = placesL a r ++ placesL (a + bulk r) s
  | a, [], s => by simp [placesL, bulk]
  | a, b :: r, s => by
    rw [List.cons_append, placesL, placesL, placesL_append _ r s, bulk, List.cons_append, show a + (8 + b.length) + bulk r = a + (8 + b.length + bulk r) by omega]
theorem places_last : ∀ (a : Nat) (r : Recs), (a :: placesL a r).getLastD 0 = a + bulk r
  | a, [] => by simp [placesL, bulk]
  | a, b :: r => by
    have := places_last (a + (8 + b.length)) r
    rw [placesL, bulk]
    rw [List.getLastD_cons] at this ⊢
    rw [List.getLastD_cons]
    rw [this]; omega
theorem places_at : ∀ (a : Nat) (r : Recs) (k : Nat), k ≤ r.length → (a :: placesL a r).getD k 0 = a + bulk (r.take k)
  | a, r, 0, _ => by simp [bulk]
  | a, [], k + 1, h => by simp at h
  | a, b :: r, k + 1, h => by
    have := places_at (a + (8 + b.length)) r k (by simpa using h)
    rw [placesL, List.getD_cons_succ, this, List.take_succ_cons, bulk]
    omega
theorem bulk_take_le (r : Recs) (k : Nat) : bulk (r.take k) ≤ bulk r := by
  have := bulk_append (r.take k) (r.drop k)
  rw [List.take_append_drop] at this
  omega
theorem bulk_take_mono (r : Recs) {j k : Nat} (h : j ≤ k) : bulk (r.take j) ≤ bulk (r.take k) := by
  have := bulk_take_le (r.take k) j
  rw [List.take_take, Nat.min_eq_left h] at this
  exact this
theorem bulk_ge (r : Recs) : 8 * r.length ≤ bulk r := by
  induction r with
  | nil => simp [bulk]
  | cons b r ih => simp [bulk]; omega

theorem sgOf_next (i : Nat) (r : Recs) : (sgOf i r).next = i + r.length := by
  unfold Sg.next sgOf
  simp only [List.length_cons, placesL_length]
  omega
theorem sgOf_size (i : Nat) (r : Recs) : (sgOf i r).size = bulk r := by
  unfold Sg.size sgOf
  rw [places_last]; omega

theorem standL_nil (i : Nat) : standL i [] = 0 := rfl
theorem readP_frames : ∀ (r : Recs) (i a f : Nat) (t : List UInt8), (framesL i r ++ t).length < f → Small r → standL (i + r.length) t = 0 → readP f i a (framesL i r ++ t) = placesL a r
  | [], i, a, 0, t, h, _, _ => by omega
  | [], i, a, f + 1, t, h, hs, ht => by
    rw [readP]
    have : framesL i [] ++ t = t := rfl
    rw [this, if_pos (by simpa using ht)]
    rfl
  | b :: r, i, a, 0, t, h, _, _ => by omega
  | b :: r, i, a, f + 1, t, h, hs, ht => by
    have hb : b.length ≤ 8192 := hs b List.mem_cons_self
    have e : framesL i (b :: r) ++ t = frameL i b ++ (framesL (i + 1) r ++ t) := by rw [framesL, List.append_assoc]
    rw [e] at h ⊢
    rw [readP, standL_frame i b _ hb, if_neg (by omega), placesL]
    have hd : (frameL i b ++ (framesL (i + 1) r ++ t)).drop (8 + b.length) = framesL (i + 1) r ++ t := by
      rw [← frameL_length i b, List.drop_left' rfl]
    rw [hd, readP_frames r (i + 1) _ f t (by rw [List.length_append, frameL_length] at h; omega) (fun c hc => hs c (List.mem_cons_of_mem _ hc)) (by rw [List.length_cons] at ht; rw [show i + 1 + r.length = i + (r.length + 1) by omega]; exact ht)]
theorem read_frames (i : Nat) (r : Recs) (t : List UInt8) (hs : Small r) (ht : standL (i + r.length) t = 0) : readSg i (framesL i r ++ t) = sgOf i r := by
  unfold readSg sgOf
  rw [readP_frames r i 0 _ t (by omega) hs ht]
theorem read_whole (i : Nat) (r : Recs) (hs : Small r) : readSg i (framesL i r) = sgOf i r := by
  have := read_frames i r [] hs (standL_nil _)
  rwa [List.append_nil] at this

/-- A beginning of a segment's bytes. -/
theorem front_frames : ∀ (r : Recs) (i : Nat) (s : List UInt8), Small r → s <+: framesL i r → ∃ (k : Nat) (t : List UInt8), k ≤ r.length ∧ s = framesL i (r.take k) ++ t ∧ standL (i + k) t = 0 ∧ (∀ j, j ≤ r.length → bulk (r.take j) ≤ s.length → j ≤ k)
  | [], i, s, hs, h => by
    refine ⟨0, [], Nat.le_refl _, ?_, rfl, fun j hj _ => by simpa using hj⟩
    have := List.prefix_nil.1 h
    rw [this]; rfl
  | b :: r, i, s, hs, h => by
    have hb : b.length ≤ 8192 := hs b List.mem_cons_self
    by_cases hl : s.length < 8 + b.length
    · refine ⟨0, s, Nat.zero_le _, by simp [framesL], ?_, fun j hj hjl => ?_⟩
      · refine standL_short i b s hb ?_ ?_
        · rw [framesL] at h
          exact List.prefix_of_prefix_length_le h (List.prefix_append _ _) (by rw [frameL_length]; omega)
        · intro e
          rw [e, frameL_length] at hl
          omega
      · rcases j with _ | j
        · exact Nat.le_refl _
        · rw [List.take_succ_cons, bulk] at hjl
          omega
    · rw [framesL] at h
      obtain ⟨u, hu⟩ := h
      have hf : frameL i b <+: s := List.prefix_of_prefix_length_le (l₃ := frameL i b ++ framesL (i + 1) r) (List.prefix_append _ _) ⟨u, hu⟩ (by rw [frameL_length]; omega)
      obtain ⟨v, hv⟩ := hf
      have h2 : v <+: framesL (i + 1) r := by
        refine ⟨u, ?_⟩
        rw [← hv, List.append_assoc] at hu
        exact List.append_cancel_left hu
      obtain ⟨k, t, hk, he, hst, hmax⟩ := front_frames r (i + 1) v (fun c hc => hs c (List.mem_cons_of_mem _ hc)) h2
      refine ⟨k + 1, t, by simpa using hk, ?_, by rw [show i + (k + 1) = i + 1 + k by omega]; exact hst, fun j hj hjl => ?_⟩
      · rw [List.take_succ_cons, framesL, List.append_assoc, ← he, hv]
      · rcases j with _ | j
        · omega
        · have hl2 : s.length = 8 + b.length + v.length := by rw [← hv, List.length_append, frameL_length]
          rw [List.take_succ_cons, bulk] at hjl
          have := hmax j (by simpa using hj) (by omega)
          omega

/-- Names rise as their numbers do. -/
theorem dig_lt {a b : Nat} (ha : a < 10) (hb : b < 10) (h : a < b) : dig a < dig b := by
  rw [UInt8.lt_iff_toNat_lt, dig_nat, dig_nat]
  omega
theorem dig_mod (a : Nat) : dig a = dig (a % 10) := by unfold dig; rw [Nat.mod_mod]
theorem bb_step (a b : Nat) (ha : a % 10 ≤ b % 10) (r s : List UInt8) (h : a % 10 = b % 10 → bytesBefore r s = true) : bytesBefore (dig a :: r) (dig b :: s) = true := by
  rw [dig_mod a, dig_mod b]
  simp only [bytesBefore, Bool.or_eq_true, decide_eq_true_eq, Bool.and_eq_true, beq_iff_eq]
  rcases Nat.lt_or_eq_of_le ha with hl | he
  · exact .inl (dig_lt (by omega) (by omega) hl)
  · exact .inr ⟨by rw [he], h he⟩
theorem bb_same (c : UInt8) (r s : List UInt8) (h : bytesBefore r s = true) : bytesBefore (c :: r) (c :: s) = true := by
  simp [bytesBefore, h]
theorem name_before {a b : Nat} (h : a < b) (hb : b < 1000000) : bytesBefore (nameL a) (nameL b) = true := by
  unfold nameL
  refine bb_same _ _ _ (bb_same _ _ _ (bb_same _ _ _ (bb_same _ _ _ ?_)))
  refine bb_step _ _ (by omega) _ _ (fun h5 => ?_)
  refine bb_step _ _ (by omega) _ _ (fun h4 => ?_)
  refine bb_step _ _ (by omega) _ _ (fun h3 => ?_)
  refine bb_step _ _ (by omega) _ _ (fun h2 => ?_)
  refine bb_step _ _ (by omega) _ _ (fun h1 => ?_)
  refine bb_step _ _ (by omega) _ _ (fun h0 => ?_)
  omega
theorem name_inj {a b : Nat} (ha : a < 1000000) (hb : b < 1000000) (h : nameL a = nameL b) : a = b := by
  have := segNum_name a ha
  rw [h, segNum_name b hb] at this
  exact this.symm
end Go.Proofs.YtkbmblmnhhlicaaGreatDoor
