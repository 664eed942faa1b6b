/- The document's Put: a character's bytes; what its names stand for. -/
import Derived.Test.YtebnobhalffalaaRBytes
set_option linter.unusedVariables false
namespace Go.Proofs.Ytebnobhalffalaa
open Go.RowKit

set_option maxHeartbeats 1000000 in
set_option maxRecDepth 100000 in
theorem put_one (r : Int) (h0 : 0 ≤ r) (h1 : r ≤ 127) (l : List UInt8) (hl : l.length = 1) (hC : #[.int .u8 (r)] = (Lib.byteCells l).toArray) (w : World) :
    Calls Try.prog 34 #[.int .i64 r] w fun e w' => e = .returned (.string ⟨l.toArray⟩) ∧ Below w.heap.size w w' := by
  have hc := conv_lit w l #[.int .u8 (r)] 1 hl hC
  clear hC hl
  go_enter Try.func34, Try.ntmps34
  go_wp2
  go_ret
  exact ⟨rfl, (Below.refl _ _).alloc (Nat.le_refl _) _⟩

set_option maxHeartbeats 1000000 in
set_option maxRecDepth 100000 in
theorem put_two (r : Int) (h0 : 128 ≤ r) (h1 : r ≤ 2047) (l : List UInt8) (hl : l.length = 2) (hC : #[.int .u8 (192 + r / 64), .int .u8 (128 + r % 64)] = (Lib.byteCells l).toArray) (w : World) :
    Calls Try.prog 34 #[.int .i64 r] w fun e w' => e = .returned (.string ⟨l.toArray⟩) ∧ Below w.heap.size w w' := by
  have hc := conv_lit w l #[.int .u8 (192 + r / 64), .int .u8 (128 + r % 64)] 2 hl hC
  clear hC hl
  go_enter Try.func34, Try.ntmps34
  go_wp2
  go_ret
  exact ⟨rfl, (Below.refl _ _).alloc (Nat.le_refl _) _⟩

set_option maxHeartbeats 1000000 in
set_option maxRecDepth 100000 in
theorem put_three (r : Int) (h0 : 2048 ≤ r) (h1 : r ≤ 65535) (l : List UInt8) (hl : l.length = 3) (hC : #[.int .u8 (224 + r / 4096), .int .u8 (128 + r / 64 % 64), .int .u8 (128 + r % 64)] = (Lib.byteCells l).toArray) (w : World) :
    Calls Try.prog 34 #[.int .i64 r] w fun e w' => e = .returned (.string ⟨l.toArray⟩) ∧ Below w.heap.size w w' := by
  have hc := conv_lit w l #[.int .u8 (224 + r / 4096), .int .u8 (128 + r / 64 % 64), .int .u8 (128 + r % 64)] 3 hl hC
  clear hC hl
  go_enter Try.func34, Try.ntmps34
  go_wp2
  go_ret
  exact ⟨rfl, (Below.refl _ _).alloc (Nat.le_refl _) _⟩

set_option maxHeartbeats 1000000 in
set_option maxRecDepth 100000 in
theorem put_four (r : Int) (h0 : 65536 ≤ r) (h1 : r ≤ 1114111) (l : List UInt8) (hl : l.length = 4) (hC : #[.int .u8 (240 + r / 262144), .int .u8 (128 + r / 4096 % 64), .int .u8 (128 + r / 64 % 64), .int .u8 (128 + r % 64)] = (Lib.byteCells l).toArray) (w : World) :
    Calls Try.prog 34 #[.int .i64 r] w fun e w' => e = .returned (.string ⟨l.toArray⟩) ∧ Below w.heap.size w w' := by
  have hc := conv_lit w l #[.int .u8 (240 + r / 262144), .int .u8 (128 + r / 4096 % 64), .int .u8 (128 + r / 64 % 64), .int .u8 (128 + r % 64)] 4 hl hC
  clear hC hl
  go_enter Try.func34, Try.ntmps34
  go_wp2
  go_ret
  exact ⟨rfl, (Below.refl _ _).alloc (Nat.le_refl _) _⟩

theorem put_any (r : Nat) (hr : Ok r) (w : World) :
    Calls Try.prog 34 #[.int .i64 (r : Int)] w fun e w' => e = .returned (.string ⟨(enc r).toArray⟩) ∧ Below w.heap.size w w' := by
  have ec := enc_cells r
  have el : (enc r).length = (Lib.runeCells (r : Int)).length := by rw [ec, Lib.byteCells_length]
  by_cases c1 : r ≤ 127
  · have e : Lib.runeCells (r : Int) = [.int .u8 (r : Int)] := by simp [Lib.runeCells, Lib.encodeRuneZ_one (r := (r : Int)) (by omega) (by omega)]
    exact put_one r (by omega) (by omega) (enc r) (by rw [el, e]; rfl) (by rw [← ec, e]) w
  by_cases c2 : r ≤ 2047
  · have e : Lib.runeCells (r : Int) = [.int .u8 (192 + (r : Int) / 64), .int .u8 (128 + (r : Int) % 64)] := by simp [Lib.runeCells, Lib.encodeRuneZ_two (r := (r : Int)) (by omega) (by omega)]
    exact put_two r (by omega) (by omega) (enc r) (by rw [el, e]; rfl) (by rw [← ec, e]) w
  by_cases c3 : r ≤ 65535
  · have e : Lib.runeCells (r : Int) = [.int .u8 (224 + (r : Int) / 4096), .int .u8 (128 + (r : Int) / 64 % 64), .int .u8 (128 + (r : Int) % 64)] := by simp [Lib.runeCells, Lib.encodeRuneZ_three (r := (r : Int)) (by omega)]
    exact put_three r (by omega) (by omega) (enc r) (by rw [el, e]; rfl) (by rw [← ec, e]) w
  · have e : Lib.runeCells (r : Int) = [.int .u8 (240 + (r : Int) / 262144), .int .u8 (128 + (r : Int) / 4096 % 64), .int .u8 (128 + (r : Int) / 64 % 64), .int .u8 (128 + (r : Int) % 64)] := by simp [Lib.runeCells, Lib.encodeRuneZ_four (r := (r : Int)) (by omega) (by omega)]
    exact put_four r (by omega) (by omega) (enc r) (by rw [el, e]; rfl) (by rw [← ec, e]) w

theorem put_int (x : Int) (h0 : 0 ≤ x) (hr : x < 55296 ∨ (57343 < x ∧ x ≤ 1114111)) (w : World) :
    Calls Try.prog 34 #[.int .i64 x] w fun e w' => e = .returned (.string ⟨(enc x.toNat).toArray⟩) ∧ Below w.heap.size w w' := by
  have h := put_any x.toNat (by omega) w
  rwa [Int.toNat_of_nonneg h0] at h

set_option maxHeartbeats 1000000 in
set_option maxRecDepth 100000 in
theorem refnamed_ngE (w : World) :
    Calls Try.prog 24 #[.string ⟨#[110, 103, 69]⟩] w fun e w' => e = .returned (.string ⟨(nameT [110, 103, 69]).toArray⟩) ∧ Below w.heap.size w w' := by
  have p1 : ∀ w, Calls Try.prog 34 #[.int .i64 8807] w fun e w' => e = .returned (.string ⟨#[226, 137, 167]⟩) ∧ Below w.heap.size w w' := fun w => put_int 8807 (by decide) (by decide) w
  have p2 : ∀ w, Calls Try.prog 34 #[.int .i64 824] w fun e w' => e = .returned (.string ⟨#[204, 184]⟩) ∧ Below w.heap.size w w' := fun w => put_int 824 (by decide) (by decide) w
  go_enter Try.func24, Try.ntmps24
  go_wp2_with (go_at_call 34; refine (p1 _).mono ?_)
  rintro e w1 ⟨rfl, hb1⟩
  go_wp2_with (go_at_call 34; refine (p2 _).mono ?_)
  rintro e w2 ⟨rfl, hb2⟩
  go_wp2
  go_ret
  exact ⟨by kernel_rfl, hb1.trans (hb2.mono hb1.size)⟩

set_option maxHeartbeats 1000000 in
set_option maxRecDepth 100000 in
theorem refnamed_nvlt (w : World) :
    Calls Try.prog 24 #[.string ⟨#[110, 118, 108, 116]⟩] w fun e w' => e = .returned (.string ⟨(nameT [110, 118, 108, 116]).toArray⟩) ∧ Below w.heap.size w w' := by
  have p1 : ∀ w, Calls Try.prog 34 #[.int .i64 60] w fun e w' => e = .returned (.string ⟨#[60]⟩) ∧ Below w.heap.size w w' := fun w => put_int 60 (by decide) (by decide) w
  have p2 : ∀ w, Calls Try.prog 34 #[.int .i64 8402] w fun e w' => e = .returned (.string ⟨#[226, 131, 146]⟩) ∧ Below w.heap.size w w' := fun w => put_int 8402 (by decide) (by decide) w
  go_enter Try.func24, Try.ntmps24
  go_wp2_with (go_at_call 34; refine (p1 _).mono ?_)
  rintro e w1 ⟨rfl, hb1⟩
  go_wp2_with (go_at_call 34; refine (p2 _).mono ?_)
  rintro e w2 ⟨rfl, hb2⟩
  go_wp2
  go_ret
  exact ⟨by kernel_rfl, hb1.trans (hb2.mono hb1.size)⟩

theorem ret_name {x : List UInt8} {y : List UInt8} {b : List UInt8} (h : (x == y) = true) (hb : nameT y = b) : Ending.returned (.string ⟨b.toArray⟩) = .returned (.string ⟨(nameT x).toArray⟩) := by
  rw [eq_of_beq h, hb]

set_option maxHeartbeats 8000000 in
set_option maxRecDepth 100000 in
theorem refnamed_rest (s : ByteArray) (n1 : (s.toList == [110, 103, 69]) = false) (n2 : (s.toList == [110, 118, 108, 116]) = false) (w : World) :
    Calls Try.prog 24 #[.string s] w fun e w' => e = .returned (.string ⟨(nameT s.toList).toArray⟩) ∧ Below w.heap.size w w' := by
  go_enter Try.func24, Try.ntmps24
  go_wp2_with (go_at_call 34; refine (put_int _ (by decide) (by decide) _).mono ?_; rintro e w' ⟨rfl, hb⟩)
  all_goals
    go_ret
    first
      | exact ⟨ret_name (by assumption) (by kernel_rfl), by assumption⟩
      | (refine ⟨ret_str ?_, Below.refl _ _⟩
         simp only [nameT, table, tSign, tLetter, tFar, tPair, List.cons_append, List.nil_append, List.lookup_cons, List.lookup_nil, Option.getD, *])

theorem refnamed_any (s : ByteArray) (w : World) :
    Calls Try.prog 24 #[.string s] w fun e w' => e = .returned (.string ⟨(nameT s.toList).toArray⟩) ∧ Below w.heap.size w w' := by
  by_cases h1 : s.toList = [110, 103, 69]
  · have hs : s = ⟨#[110, 103, 69]⟩ := by rw [← mk_data s, ← ByteArray.toList_eq, h1]
    rw [h1, hs]
    exact refnamed_ngE w
  by_cases h2 : s.toList = [110, 118, 108, 116]
  · have hs : s = ⟨#[110, 118, 108, 116]⟩ := by rw [← mk_data s, ← ByteArray.toList_eq, h2]
    rw [h2, hs]
    exact refnamed_nvlt w
  exact refnamed_rest s (by simpa using h1) (by simpa using h2) w

end Go.Proofs.Ytebnobhalffalaa
