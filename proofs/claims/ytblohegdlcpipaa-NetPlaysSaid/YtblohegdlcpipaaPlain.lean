/- Plain mathematics: bytes as characters and back. -/
import Derived.Lib.RuneBytes
import GoSem.Core.Utf8
set_option linter.unusedVariables false
namespace Go.Proofs.Ytblohegdlcpipaa

/-- A right character: no half of a pair, none above 10FFFF. -/
abbrev Ok (r : Nat) : Prop := r < 55296 ∨ (57343 < r ∧ r ≤ 1114111)

def enc (r : Nat) : List UInt8 := Lib.encodeRune (r : Int)
def encAll (rs : List Nat) : List UInt8 := rs.flatMap enc

/-- The character with which bytes begin, and how many bytes it has. -/
def dc (l : List UInt8) : Nat × Nat := Utf8.decode ⟨l.toArray⟩ 0

theorem get_list (l : List UInt8) (k : Nat) : (ByteArray.mk l.toArray).get! k = l.getD k 0 := by
  show l.toArray[k]! = _
  rw [List.getD_eq_getElem?_getD]
  simp
  rfl

theorem dc_def (l : List UInt8) : dc l =
    (if (l.getD 0 0).toNat < 128 then ((l.getD 0 0).toNat, 1)
    else if (l.getD 0 0).toNat / 32 = 6 ∧ 1 < l.length ∧ (l.getD 1 0).toNat / 64 = 2 then
      (if 128 ≤ (l.getD 0 0).toNat % 32 * 64 + (l.getD 1 0).toNat % 64 then ((l.getD 0 0).toNat % 32 * 64 + (l.getD 1 0).toNat % 64, 2) else (65533, 1))
    else if (l.getD 0 0).toNat / 16 = 14 ∧ (1 < l.length ∧ (l.getD 1 0).toNat / 64 = 2) ∧ (2 < l.length ∧ (l.getD 2 0).toNat / 64 = 2) then
      (if 2048 ≤ (l.getD 0 0).toNat % 16 * 4096 + (l.getD 1 0).toNat % 64 * 64 + (l.getD 2 0).toNat % 64 ∧ Ok ((l.getD 0 0).toNat % 16 * 4096 + (l.getD 1 0).toNat % 64 * 64 + (l.getD 2 0).toNat % 64) then
        ((l.getD 0 0).toNat % 16 * 4096 + (l.getD 1 0).toNat % 64 * 64 + (l.getD 2 0).toNat % 64, 3) else (65533, 1))
    else if (l.getD 0 0).toNat / 8 = 30 ∧ (1 < l.length ∧ (l.getD 1 0).toNat / 64 = 2) ∧ (2 < l.length ∧ (l.getD 2 0).toNat / 64 = 2) ∧ (3 < l.length ∧ (l.getD 3 0).toNat / 64 = 2) then
      (if 65536 ≤ (l.getD 0 0).toNat % 8 * 262144 + (l.getD 1 0).toNat % 64 * 4096 + (l.getD 2 0).toNat % 64 * 64 + (l.getD 3 0).toNat % 64 ∧ Ok ((l.getD 0 0).toNat % 8 * 262144 + (l.getD 1 0).toNat % 64 * 4096 + (l.getD 2 0).toNat % 64 * 64 + (l.getD 3 0).toNat % 64) then
        ((l.getD 0 0).toNat % 8 * 262144 + (l.getD 1 0).toNat % 64 * 4096 + (l.getD 2 0).toNat % 64 * 64 + (l.getD 3 0).toNat % 64, 4) else (65533, 1))
    else (65533, 1)) := by
  unfold dc Utf8.decode
  have hs : (ByteArray.mk l.toArray).size = l.length := by show l.toArray.size = _; simp
  have hv : ∀ c : Nat, (Utf8.valid (c : Int) = true) = Ok c := by
    intro c
    simp only [Utf8.valid, Bool.or_eq_true, Bool.and_eq_true, decide_eq_true_eq, eq_iff_iff]
    omega
  simp only [get_list, Utf8.runeError, hs, Nat.zero_add, Bool.and_eq_true, beq_iff_eq, decide_eq_true_eq, ge_iff_le, hv, and_assoc]

/-- What is decoded is a right character, of at least one byte, and of no more than there are. -/
theorem dc_ok (l : List UInt8) (h : l ≠ []) : Ok (dc l).1 ∧ 1 ≤ (dc l).2 ∧ (dc l).2 ≤ l.length := by
  have hl : 1 ≤ l.length := by cases l with
    | nil => exact absurd rfl h
    | cons a t => simp
  rw [dc_def]
  (repeat' split) <;> (simp only [Ok] at *; (try dsimp only); omega)

theorem toU8 (x : Int) (h0 : 0 ≤ x) (h1 : x < 256) : (x.toNat.toUInt8).toNat = x.toNat := by
  simp; omega

/-- What is encoded is decoded. -/
theorem dc_enc (r : Nat) (hr : Ok r) (l : List UInt8) : dc (enc r ++ l) = (r, (enc r).length) := by
  have c : r ≤ 127 ∨ (128 ≤ r ∧ r ≤ 2047) ∨ (2048 ≤ r ∧ r ≤ 65535) ∨ (65536 ≤ r ∧ r ≤ 1114111) := by omega
  rcases c with c | ⟨c, c'⟩ | ⟨c, c'⟩ | ⟨c, c'⟩
  · have e : enc r = [((r : Int)).toNat.toUInt8] := by simp [enc, Lib.encodeRune, Lib.encodeRuneZ_one (r := (r : Int)) (by omega) (by omega)]
    rw [dc_def, e]
    have t0 := toU8 (r : Int) (by omega) (by omega)
    simp only [List.cons_append, List.nil_append, List.getD_cons_zero, List.length_cons, List.length_nil, t0]
    rw [if_pos (by omega)]
    simp
  · have e : enc r = [(192 + (r : Int) / 64).toNat.toUInt8, (128 + (r : Int) % 64).toNat.toUInt8] := by simp [enc, Lib.encodeRune, Lib.encodeRuneZ_two (r := (r : Int)) (by omega) (by omega)]
    rw [dc_def, e]
    have t0 := toU8 (192 + (r : Int) / 64) (by omega) (by omega)
    have t1 := toU8 (128 + (r : Int) % 64) (by omega) (by omega)
    simp only [List.cons_append, List.nil_append, List.getD_cons_zero, List.getD_cons_succ, List.length_cons, List.length_nil, t0, t1]
    rw [if_neg (by omega), if_pos (by omega), if_pos (by omega)]
    simp; omega
  · have e : enc r = [(224 + (r : Int) / 4096).toNat.toUInt8, (128 + (r : Int) / 64 % 64).toNat.toUInt8, (128 + (r : Int) % 64).toNat.toUInt8] := by simp [enc, Lib.encodeRune, Lib.encodeRuneZ_three (r := (r : Int)) (by omega)]
    rw [dc_def, e]
    have t0 := toU8 (224 + (r : Int) / 4096) (by omega) (by omega)
    have t1 := toU8 (128 + (r : Int) / 64 % 64) (by omega) (by omega)
    have t2 := toU8 (128 + (r : Int) % 64) (by omega) (by omega)
    simp only [List.cons_append, List.nil_append, List.getD_cons_zero, List.getD_cons_succ, List.length_cons, List.length_nil, t0, t1, t2]
    have er : (224 + (r : Int) / 4096).toNat % 16 * 4096 + (128 + (r : Int) / 64 % 64).toNat % 64 * 64 + (128 + (r : Int) % 64).toNat % 64 = r := by omega
    rw [er, if_neg (by omega), if_neg (by omega), if_pos (by omega), if_pos (by omega)]
  · have e : enc r = [(240 + (r : Int) / 262144).toNat.toUInt8, (128 + (r : Int) / 4096 % 64).toNat.toUInt8, (128 + (r : Int) / 64 % 64).toNat.toUInt8, (128 + (r : Int) % 64).toNat.toUInt8] := by simp [enc, Lib.encodeRune, Lib.encodeRuneZ_four (r := (r : Int)) (by omega) (by omega)]
    rw [dc_def, e]
    have t0 := toU8 (240 + (r : Int) / 262144) (by omega) (by omega)
    have t1 := toU8 (128 + (r : Int) / 4096 % 64) (by omega) (by omega)
    have t2 := toU8 (128 + (r : Int) / 64 % 64) (by omega) (by omega)
    have t3 := toU8 (128 + (r : Int) % 64) (by omega) (by omega)
    simp only [List.cons_append, List.nil_append, List.getD_cons_zero, List.getD_cons_succ, List.length_cons, List.length_nil, t0, t1, t2, t3]
    have er : (240 + (r : Int) / 262144).toNat % 8 * 262144 + (128 + (r : Int) / 4096 % 64).toNat % 64 * 4096 + (128 + (r : Int) / 64 % 64).toNat % 64 * 64 + (128 + (r : Int) % 64).toNat % 64 = r := by omega
    rw [er, if_neg (by omega), if_neg (by omega), if_neg (by omega), if_pos (by omega), if_pos (by omega)]

theorem enc_len (r : Nat) : 1 ≤ (enc r).length ∧ (enc r).length ≤ 4 := by
  have := Lib.encodeRuneZ_length (r : Int)
  simpa [enc, Lib.encodeRune] using this

/-- The characters of bytes. -/
def runesF : Nat → List UInt8 → List Nat
  | 0, _ => []
  | f + 1, l => if l.length = 0 then [] else (dc l).1 :: runesF f (l.drop (dc l).2)
def runes (l : List UInt8) : List Nat := runesF l.length l

theorem ne_nil_of_len {l : List UInt8} (h : l.length ≠ 0) : l ≠ [] := by
  intro e; subst e; exact h rfl

theorem runesF_fuel : ∀ (f g : Nat) (l : List UInt8), l.length ≤ f → l.length ≤ g → runesF f l = runesF g l
  | 0, g, l, hf, _ => by
    have hl : l.length = 0 := by omega
    cases g with
    | zero => rfl
    | succ g => simp [runesF, hl]
  | f + 1, g, l, hf, hg => by
    by_cases hl : l.length = 0
    · cases g with
      | zero => simp [runesF, hl]
      | succ g => simp [runesF, hl]
    · cases g with
      | zero => omega
      | succ g =>
        have hw := (dc_ok l (ne_nil_of_len hl)).2
        simp only [runesF, if_neg hl]
        rw [runesF_fuel f g (l.drop (dc l).2) (by simp; omega) (by simp; omega)]

theorem runes_nil : runes [] = [] := rfl

theorem runes_cons (l : List UInt8) (h : l ≠ []) : runes l = (dc l).1 :: runes (l.drop (dc l).2) := by
  have hl : l.length ≠ 0 := by intro e; exact h (List.eq_nil_of_length_eq_zero e)
  have hw := (dc_ok l h).2
  unfold runes
  obtain ⟨k, hk⟩ : ∃ k, l.length = k + 1 := ⟨l.length - 1, by omega⟩
  rw [hk]
  simp only [runesF, if_neg hl]
  rw [runesF_fuel k (l.drop (dc l).2).length (l.drop (dc l).2) (by simp; omega) (Nat.le_refl _)]

theorem runesF_ok : ∀ (f : Nat) (l : List UInt8), ∀ r ∈ runesF f l, Ok r
  | 0, l, r, hr => by simp [runesF] at hr
  | f + 1, l, r, hr => by
    by_cases hl : l.length = 0
    · simp [runesF, hl] at hr
    · simp only [runesF, if_neg hl, List.mem_cons] at hr
      rcases hr with rfl | hr
      · exact (dc_ok l (ne_nil_of_len hl)).1
      · exact runesF_ok f _ r hr
theorem runes_ok (l : List UInt8) : ∀ r ∈ runes l, Ok r := runesF_ok l.length l

theorem encAll_nil : encAll [] = [] := rfl
theorem encAll_cons (r : Nat) (rs : List Nat) : encAll (r :: rs) = enc r ++ encAll rs := by simp [encAll]
theorem encAll_append (a b : List Nat) : encAll (a ++ b) = encAll a ++ encAll b := by simp [encAll]

theorem enc_ne (r : Nat) (l : List UInt8) : enc r ++ l ≠ [] := by
  have := (enc_len r).1
  intro e
  have h2 : (enc r ++ l).length = 0 := by rw [e]; rfl
  rw [List.length_append] at h2
  omega

/-- Right characters, written, are read as they were. -/
theorem runes_encAll : ∀ rs : List Nat, (∀ r ∈ rs, Ok r) → runes (encAll rs) = rs
  | [], _ => rfl
  | r :: rs, h => by
    rw [encAll_cons, runes_cons _ (enc_ne r _), dc_enc r (h r (by simp))]
    simp only [List.drop_left]
    rw [runes_encAll rs (fun x hx => h x (by simp [hx]))]

theorem runes_append : ∀ (rs : List Nat) (l : List UInt8), (∀ r ∈ rs, Ok r) → runes (encAll rs ++ l) = rs ++ runes l
  | [], l, _ => by simp [encAll_nil]
  | r :: rs, l, h => by
    rw [encAll_cons, List.append_assoc, runes_cons _ (enc_ne r _), dc_enc r (h r (by simp))]
    simp only [List.drop_left, List.cons_append]
    rw [runes_append rs l (fun x hx => h x (by simp [hx]))]

def cleanR (r : Nat) : Nat := if r = 0 then 65533 else r
def clean (l : List UInt8) : List UInt8 := encAll ((runes l).map cleanR)

theorem cleanR_ok (r : Nat) (h : Ok r) : Ok (cleanR r) := by unfold cleanR; split; (· simp only [Ok]; omega); (· exact h)
theorem cleanR_ne (r : Nat) : cleanR r ≠ 0 := by unfold cleanR; split <;> omega
theorem cleanR_of (r : Nat) (h : r ≠ 0) : cleanR r = r := by simp [cleanR, h]

theorem runes_clean (l : List UInt8) : runes (clean l) = (runes l).map cleanR := by
  unfold clean
  rw [runes_encAll]
  intro r hr
  obtain ⟨x, hx, rfl⟩ := List.mem_map.1 hr
  exact cleanR_ok x (runes_ok l x hx)

theorem clean_clean (l : List UInt8) : clean (clean l) = clean l := by
  show encAll ((runes (clean l)).map cleanR) = _
  rw [runes_clean, List.map_map]
  unfold clean
  congr 1
  apply List.map_congr_left
  intro x _
  exact cleanR_of _ (cleanR_ne x)

theorem clean_encAll (rs : List Nat) (h : ∀ r ∈ rs, Ok r ∧ r ≠ 0) : clean (encAll rs) = encAll rs := by
  unfold clean
  rw [runes_encAll rs (fun r hr => (h r hr).1)]
  congr 1
  rw [show rs.map cleanR = rs.map id from List.map_congr_left fun r hr => cleanR_of r (h r hr).2]
  simp

theorem clean_nil : clean [] = [] := rfl
theorem clean_step (l : List UInt8) (h : l ≠ []) : clean l = enc (cleanR (dc l).1) ++ clean (l.drop (dc l).2) := by
  unfold clean
  rw [runes_cons l h]
  simp [encAll_cons]

theorem encAll_le : ∀ rs : List Nat, rs.length ≤ (encAll rs).length ∧ (encAll rs).length ≤ 4 * rs.length
  | [] => by simp [encAll_nil]
  | r :: rs => by
    have h1 := enc_len r
    have h2 := encAll_le rs
    rw [encAll_cons, List.length_append, List.length_cons]
    omega

theorem runesF_le : ∀ (f : Nat) (l : List UInt8), (runesF f l).length ≤ l.length
  | 0, l => by simp [runesF]
  | f + 1, l => by
    by_cases hl : l.length = 0
    · simp [runesF, hl]
    · have hw := (dc_ok l (ne_nil_of_len hl)).2
      have ih := runesF_le f (l.drop (dc l).2)
      simp only [runesF, if_neg hl, List.length_cons]
      rw [List.length_drop] at ih
      omega
theorem runes_le (l : List UInt8) : (runes l).length ≤ l.length := runesF_le l.length l

theorem clean_le (l : List UInt8) : (clean l).length ≤ 4 * l.length := by
  have h1 := (encAll_le ((runes l).map cleanR)).2
  have h2 := runes_le l
  rw [List.length_map] at h1
  unfold clean
  omega

/-- The model's own decoding, at a place of a string. -/
theorem decode_at (s : ByteArray) (pos : Nat) : Utf8.decode s pos = dc (s.data.toList.drop pos) := by
  have hk : ∀ k, s.get! (pos + k) = (s.data.toList.drop pos).getD k 0 := by
    intro k
    show s.data[pos + k]! = _
    rw [List.getD_eq_getElem?_getD, List.getElem?_drop, getElem!_def, Array.getElem?_toList]
    cases s.data[pos + k]? <;> rfl
  have hs : (ByteArray.mk (s.data.toList.drop pos).toArray).size = s.size - pos := by
    show (s.data.toList.drop pos).toArray.size = s.data.size - pos
    simp
  have hz : ∀ k, decide (k < s.size - pos) = decide (pos + k < s.size) := fun k => decide_eq_decide.mpr (by omega)
  unfold dc Utf8.decode
  simp only [get_list, hk, hs, Nat.zero_add]
  rw [hz 1, hz 2, hz 3]

/-- A letter as a small one. -/
def lower (r : Nat) : Nat :=
  if (65 ≤ r ∧ r ≤ 90) ∨ (192 ≤ r ∧ r ≤ 222 ∧ r ≠ 215) ∨ (913 ≤ r ∧ r ≤ 937) ∨ (1040 ≤ r ∧ r ≤ 1071) then r + 32
  else if 1024 ≤ r ∧ r ≤ 1039 then r + 80 else r
def smallR (r : Nat) : List Nat := if r = 223 ∨ r = 7838 then [115, 115] else [lower r]
def spaceN (r : Nat) : Bool := decide (r = 9 ∨ r = 10 ∨ r = 12 ∨ r = 13 ∨ r = 32 ∨ r = 160 ∨ r = 5760 ∨ r = 8239 ∨ r = 8287 ∨ r = 12288 ∨ (8192 ≤ r ∧ r ≤ 8202))
def gapR (gap : Bool) (out : List Nat) : List Nat := if gap = true ∧ out.length ≠ 0 then [32] else []
/-- Fold, over characters: what is written, whether a row of spaces stands ahead, what is left. -/
def foldS : List Nat → Bool → List Nat → List Nat
  | out, _, [] => out
  | out, gap, r :: rs => if spaceN r = true then foldS out true rs else foldS (out ++ gapR gap out ++ smallR r) false rs
def fold (l : List UInt8) : List UInt8 := encAll (foldS [] false (runes l))

theorem smallR_len (r : Nat) : 1 ≤ (encAll (smallR r)).length ∧ (encAll (smallR r)).length ≤ 4 := by
  unfold smallR
  split
  · decide
  · have := enc_len (lower r)
    rw [encAll_cons, encAll_nil, List.append_nil]
    exact this

end Go.Proofs.Ytblohegdlcpipaa
