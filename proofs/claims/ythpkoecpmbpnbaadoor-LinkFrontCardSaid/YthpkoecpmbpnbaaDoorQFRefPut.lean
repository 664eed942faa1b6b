/- The document's Put: a character's bytes. -/
import Derived.Test.YthpkoecpmbpnbaaDoorQFFold
import Derived.Test.YthpkoecpmbpnbaaDoorBase
set_option linter.unusedVariables false
namespace Go.Proofs.YthpkoecpmbpnbaaDoor.run
open Go.RowKit

set_option maxHeartbeats 1000000 in
set_option maxRecDepth 100000 in
theorem put_one (r : Int) (h0 : 0 ≤ r) (h1 : r ≤ 127) (l : List UInt8) (hl : l.length = 1) (hC : #[.int .u8 (r)] = (Lib.byteCells l).toArray) (w : World) :
    Calls Tryd.prog 54 #[.int .i64 r] w fun e w' => e = .returned (.string ⟨l.toArray⟩) ∧ Below w.heap.size w w' := by
  have hc := conv_lit w l #[.int .u8 (r)] 1 hl hC
  clear hC hl
  go_enter Tryd.func54, Tryd.ntmps54
  go_wp2
  go_ret
  exact ⟨rfl, (Below.refl _ _).alloc (Nat.le_refl _) _⟩

set_option maxHeartbeats 1000000 in
set_option maxRecDepth 100000 in
theorem put_two (r : Int) (h0 : 128 ≤ r) (h1 : r ≤ 2047) (l : List UInt8) (hl : l.length = 2) (hC : #[.int .u8 (192 + r / 64), .int .u8 (128 + r % 64)] = (Lib.byteCells l).toArray) (w : World) :
    Calls Tryd.prog 54 #[.int .i64 r] w fun e w' => e = .returned (.string ⟨l.toArray⟩) ∧ Below w.heap.size w w' := by
  have hc := conv_lit w l #[.int .u8 (192 + r / 64), .int .u8 (128 + r % 64)] 2 hl hC
  clear hC hl
  go_enter Tryd.func54, Tryd.ntmps54
  go_wp2
  go_ret
  exact ⟨rfl, (Below.refl _ _).alloc (Nat.le_refl _) _⟩

set_option maxHeartbeats 1000000 in
set_option maxRecDepth 100000 in
theorem put_three (r : Int) (h0 : 2048 ≤ r) (h1 : r ≤ 65535) (l : List UInt8) (hl : l.length = 3) (hC : #[.int .u8 (224 + r / 4096), .int .u8 (128 + r / 64 % 64), .int .u8 (128 + r % 64)] = (Lib.byteCells l).toArray) (w : World) :
    Calls Tryd.prog 54 #[.int .i64 r] w fun e w' => e = .returned (.string ⟨l.toArray⟩) ∧ Below w.heap.size w w' := by
  have hc := conv_lit w l #[.int .u8 (224 + r / 4096), .int .u8 (128 + r / 64 % 64), .int .u8 (128 + r % 64)] 3 hl hC
  clear hC hl
  go_enter Tryd.func54, Tryd.ntmps54
  go_wp2
  go_ret
  exact ⟨rfl, (Below.refl _ _).alloc (Nat.le_refl _) _⟩

set_option maxHeartbeats 1000000 in
set_option maxRecDepth 100000 in
theorem put_four (r : Int) (h0 : 65536 ≤ r) (h1 : r ≤ 1114111) (l : List UInt8) (hl : l.length = 4) (hC : #[.int .u8 (240 + r / 262144), .int .u8 (128 + r / 4096 % 64), .int .u8 (128 + r / 64 % 64), .int .u8 (128 + r % 64)] = (Lib.byteCells l).toArray) (w : World) :
    Calls Tryd.prog 54 #[.int .i64 r] w fun e w' => e = .returned (.string ⟨l.toArray⟩) ∧ Below w.heap.size w w' := by
  have hc := conv_lit w l #[.int .u8 (240 + r / 262144), .int .u8 (128 + r / 4096 % 64), .int .u8 (128 + r / 64 % 64), .int .u8 (128 + r % 64)] 4 hl hC
  clear hC hl
  go_enter Tryd.func54, Tryd.ntmps54
  go_wp2
  go_ret
  exact ⟨rfl, (Below.refl _ _).alloc (Nat.le_refl _) _⟩

theorem put_any (r : Nat) (hr : Ok r) (w : World) :
    Calls Tryd.prog 54 #[.int .i64 (r : Int)] w fun e w' => e = .returned (.string ⟨(enc r).toArray⟩) ∧ Below w.heap.size w w' := by
  have ec := enc_cells r
  have el : (enc r).length = (Lib.runeCells (r : Int)).length := by rw [ec, Lib.byteCells_length]
  by_cases c1 : r ≤ 127
  · have e : Lib.runeCells (r : Int) = [.int .u8 (r : Int)] := by simp [Lib.runeCells, Lib.encodeRuneZ_one (r := (r : Int)) (by omega) (by omega)]
    exact put_one r (by omega) (by omega) (enc r) (by rw [el, e]; rfl) (by rw [← ec, e]) w
  by_cases c2 : r ≤ 2047
  · have e : Lib.runeCells (r : Int) = [.int .u8 (192 + (r : Int) / 64), .int .u8 (128 + (r : Int) % 64)] := by simp [Lib.runeCells, Lib.encodeRuneZ_two (r := (r : Int)) (by omega) (by omega)]
    exact put_two r (by omega) (by omega) (enc r) (by rw [el, e]; rfl) (by rw [← ec, e]) w
  by_cases c3 : r ≤ 65535
  · have e : Lib.runeCells (r : Int) = [.int .u8 (224 + (r : Int) / 4096), .int .u8 (128 + (r : Int) / 64 % 64), .int .u8 (128 + (r : Int) % 64)] := by simp [Lib.runeCells, Lib.encodeRuneZ_three (r := (r : Int)) (by omega)]
    exact put_three r (by omega) (by omega) (enc r) (by rw [el, e]; rfl) (by rw [← ec, e]) w
  · have e : Lib.runeCells (r : Int) = [.int .u8 (240 + (r : Int) / 262144), .int .u8 (128 + (r : Int) / 4096 % 64), .int .u8 (128 + (r : Int) / 64 % 64), .int .u8 (128 + (r : Int) % 64)] := by simp [Lib.runeCells, Lib.encodeRuneZ_four (r := (r : Int)) (by omega) (by omega)]
    exact put_four r (by omega) (by omega) (enc r) (by rw [el, e]; rfl) (by rw [← ec, e]) w

theorem put_int (x : Int) (h0 : 0 ≤ x) (hr : x < 55296 ∨ (57343 < x ∧ x ≤ 1114111)) (w : World) :
    Calls Tryd.prog 54 #[.int .i64 x] w fun e w' => e = .returned (.string ⟨(enc x.toNat).toArray⟩) ∧ Below w.heap.size w w' := by
  have h := put_any x.toNat (by omega) w
  rwa [Int.toNat_of_nonneg h0] at h

theorem cat_eq (a b : List UInt8) : ByteArray.mk a.toArray ++ ByteArray.mk b.toArray = ⟨(a ++ b).toArray⟩ := by
  apply ByteArray.ext
  simp

/-- Bytes that a conversion has made of a string, in every later world. -/
theorem bytes_conv (w : World) (l : List UInt8) (cap : Nat) : BytesIn (Lib.bytesWorld w 5 ⟨l.toArray⟩) (some ⟨w.heap.size, 0, none⟩) l.length cap l := by
  refine ⟨rfl, fun w1 hb => ?_⟩
  refine run_convert_bytes_back w1 46 9 5 ⟨w.heap.size, 0, none⟩ cap l Tryd.underlying46 Tryd.underlying5 Tryd.underlying9 ?_
  intro j hj
  have hadd : (⟨w.heap.size, 0, none⟩ : Addr).add j = ⟨w.heap.size, j, none⟩ := by unfold Addr.add; split <;> simp_all
  rw [hadd, hb.cell (p := ⟨w.heap.size, j, none⟩) (by rw [Lib.bytesWorld_size]; show w.heap.size < _; omega), Lib.bytesWorld_cell _ _ _ _ (by rw [size_list]; exact hj)]
  simp [hj]

theorem below_conv {w0 w : World} {B : Nat} (hb : Below B w0 w) (hB : B ≤ w.heap.size) (s : ByteArray) : Below B w0 (Lib.bytesWorld w 5 s) :=
  hb.trans ⟨rfl, rfl, rfl, by rw [Lib.bytesWorld_size]; omega, fun k hk => Lib.bytesWorld_at_old w _ s k (by omega)⟩

end Go.Proofs.YthpkoecpmbpnbaaDoor.run
