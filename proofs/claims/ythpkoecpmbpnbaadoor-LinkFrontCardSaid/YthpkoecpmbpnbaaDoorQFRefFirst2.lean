/- The document's First answers what the model decodes. -/
import Derived.Test.YthpkoecpmbpnbaaDoorQFRefFirst
set_option linter.unusedVariables false
namespace Go.Proofs.YthpkoecpmbpnbaaDoor.run
open Go.RowKit

theorem tails1 {s : ByteArray} : Tails s 1 ↔ (128 ≤ (s.data.toList.getD 1 0).toNat ∧ (s.data.toList.getD 1 0).toNat < 192) := by
  constructor
  · intro h; exact h 1 (by omega) (by omega)
  · intro h j h1 h2; have : j = 1 := by omega
    subst this; exact h
theorem tails2 {s : ByteArray} : Tails s 2 ↔ (128 ≤ (s.data.toList.getD 1 0).toNat ∧ (s.data.toList.getD 1 0).toNat < 192) ∧ (128 ≤ (s.data.toList.getD 2 0).toNat ∧ (s.data.toList.getD 2 0).toNat < 192) := by
  constructor
  · intro h; exact ⟨h 1 (by omega) (by omega), h 2 (by omega) (by omega)⟩
  · intro h j h1 h2
    have hj : j = 1 ∨ j = 2 := by omega
    rcases hj with rfl | rfl
    · exact h.1
    · exact h.2
theorem tails3 {s : ByteArray} : Tails s 3 ↔ (128 ≤ (s.data.toList.getD 1 0).toNat ∧ (s.data.toList.getD 1 0).toNat < 192) ∧ (128 ≤ (s.data.toList.getD 2 0).toNat ∧ (s.data.toList.getD 2 0).toNat < 192) ∧ (128 ≤ (s.data.toList.getD 3 0).toNat ∧ (s.data.toList.getD 3 0).toNat < 192) := by
  constructor
  · intro h; exact ⟨h 1 (by omega) (by omega), h 2 (by omega) (by omega), h 3 (by omega) (by omega)⟩
  · intro h j h1 h2
    have hj : j = 1 ∨ j = 2 ∨ j = 3 := by omega
    rcases hj with rfl | rfl | rfl
    · exact h.1
    · exact h.2.1
    · exact h.2.2

theorem dc_bad {l : List UInt8} (hb : (128 ≤ (l.getD 0 0).toNat ∧ (l.getD 0 0).toNat < 194) ∨ 245 ≤ (l.getD 0 0).toNat) : (dc l).1 = 65533 ∧ (dc l).2 = 1 := by
  have h8 : (l.getD 0 0).toNat < 256 := UInt8.toNat_lt _
  rw [dc_def]
  (repeat' split) <;> first | exact ⟨rfl, rfl⟩ | (exfalso; (try simp only [Ok] at *); omega)

theorem dc_two {s : ByteArray} {r k : Int} (hb : 194 ≤ (s.data.toList.getD 0 0).toNat) (hb' : (s.data.toList.getD 0 0).toNat < 224) (h : FirstIs 1 128 (((s.data.toList.getD 0 0).toNat : Int) - 192) s r k) : r = (dc s.data.toList).1 ∧ k = (dc s.data.toList).2 := by
  have e1 : rv (((s.data.toList.getD 0 0).toNat : Int) - 192) s 1 = 64 * (((s.data.toList.getD 0 0).toNat : Int) - 192) + ((s.data.toList.getD 1 0).toNat : Int) - 128 := rfl
  have h1 : (s.data.toList.getD 1 0).toNat < 256 := UInt8.toNat_lt _
  have hlen := len_data s
  unfold FirstIs Good at h
  rw [tails1, e1] at h
  rw [dc_def]
  (repeat' split) <;> (simp only [Ok] at *; (try dsimp only); omega)

theorem dc_three {s : ByteArray} {r k : Int} (hb : 224 ≤ (s.data.toList.getD 0 0).toNat) (hb' : (s.data.toList.getD 0 0).toNat < 240) (h : FirstIs 2 2048 (((s.data.toList.getD 0 0).toNat : Int) - 224) s r k) : r = (dc s.data.toList).1 ∧ k = (dc s.data.toList).2 := by
  have e1 : rv (((s.data.toList.getD 0 0).toNat : Int) - 224) s 2 = 64 * (64 * (((s.data.toList.getD 0 0).toNat : Int) - 224) + ((s.data.toList.getD 1 0).toNat : Int) - 128) + ((s.data.toList.getD 2 0).toNat : Int) - 128 := rfl
  have h1 : (s.data.toList.getD 1 0).toNat < 256 := UInt8.toNat_lt _
  have h2 : (s.data.toList.getD 2 0).toNat < 256 := UInt8.toNat_lt _
  have hlen := len_data s
  unfold FirstIs Good at h
  rw [tails2, e1] at h
  rw [dc_def]
  (repeat' split) <;> (simp only [Ok] at *; (try dsimp only); omega)

theorem dc_four {s : ByteArray} {r k : Int} (hb : 240 ≤ (s.data.toList.getD 0 0).toNat) (hb' : (s.data.toList.getD 0 0).toNat < 245) (h : FirstIs 3 65536 (((s.data.toList.getD 0 0).toNat : Int) - 240) s r k) : r = (dc s.data.toList).1 ∧ k = (dc s.data.toList).2 := by
  have e1 : rv (((s.data.toList.getD 0 0).toNat : Int) - 240) s 3 = 64 * (64 * (64 * (((s.data.toList.getD 0 0).toNat : Int) - 240) + ((s.data.toList.getD 1 0).toNat : Int) - 128) + ((s.data.toList.getD 2 0).toNat : Int) - 128) + ((s.data.toList.getD 3 0).toNat : Int) - 128 := rfl
  have h1 : (s.data.toList.getD 1 0).toNat < 256 := UInt8.toNat_lt _
  have h2 : (s.data.toList.getD 2 0).toNat < 256 := UInt8.toNat_lt _
  have h3 : (s.data.toList.getD 3 0).toNat < 256 := UInt8.toNat_lt _
  have hlen := len_data s
  unfold FirstIs Good at h
  rw [tails3, e1] at h
  rw [dc_def]
  (repeat' split) <;> (simp only [Ok] at *; (try dsimp only); omega)

/-- The document's First, of any text that is not empty. -/
theorem first_any (s : ByteArray) (w : World) (h : 0 < s.size) (hs : s.size ≤ 1073741824) :
    Calls Tryd.prog 37 #[.string s] w fun e w' => e = .returned (.tuple #[.int .i64 ((dc s.data.toList).1 : Int), .int .i64 ((dc s.data.toList).2 : Int)]) ∧ w = w' := by
  have hh := head_at s h
  by_cases c1 : s[0].toNat < 128
  · refine (first_one s w h c1).mono ?_
    rintro e w' ⟨rfl, hw⟩
    refine ⟨ret_two ?_ ?_, hw⟩
    · rw [dc_def, hh, if_pos c1]
    · rw [dc_def, hh, if_pos c1]; rfl
  by_cases c2 : s[0].toNat < 194 ∨ 245 ≤ s[0].toNat
  · refine (first_bad s w h (by omega)).mono ?_
    rintro e w' ⟨rfl, hw⟩
    have hd := dc_bad (l := s.data.toList) (by omega)
    exact ⟨ret_two (by rw [hd.1]; rfl) (by rw [hd.2]; rfl), hw⟩
  by_cases c3 : s[0].toNat < 224
  · refine (first_2 s w _ h rfl (by omega) (by omega) hs).mono ?_
    rintro e w' ⟨⟨r, k, rfl, hf⟩, hw⟩
    rw [← hh] at hf
    have hd := dc_two (by omega) (by omega) hf
    exact ⟨ret_two hd.1 hd.2, hw⟩
  by_cases c4 : s[0].toNat < 240
  · refine (first_3 s w _ h rfl (by omega) (by omega) hs).mono ?_
    rintro e w' ⟨⟨r, k, rfl, hf⟩, hw⟩
    rw [← hh] at hf
    have hd := dc_three (by omega) (by omega) hf
    exact ⟨ret_two hd.1 hd.2, hw⟩
  · refine (first_4 s w _ h rfl (by omega) (by omega) hs).mono ?_
    rintro e w' ⟨⟨r, k, rfl, hf⟩, hw⟩
    rw [← hh] at hf
    have hd := dc_four (by omega) (by omega) hf
    exact ⟨ret_two hd.1 hd.2, hw⟩

/-- .. of what stands behind a place of a text. -/
theorem first_at (s : ByteArray) (p : Nat) (w : World) (h : p < s.size) (hs : s.size ≤ 1073741824) :
    Calls Tryd.prog 37 #[.string (s.extract p s.size)] w fun e w' => e = .returned (.tuple #[.int .i64 ((dc (s.data.toList.drop p)).1 : Int), .int .i64 ((dc (s.data.toList.drop p)).2 : Int)]) ∧ w = w' := by
  have e := extract_eq s p s.size
  have e2 : (s.data.toList.drop p).take (s.size - p) = s.data.toList.drop p := List.take_of_length_le (by rw [List.length_drop, len_data]; exact Nat.le_refl _)
  rw [e2] at e
  have h1 := first_any (s.extract p s.size) w (by rw [e, size_list, List.length_drop, len_data]; omega) (by rw [e, size_list, List.length_drop, len_data]; omega)
  have e3 : (s.extract p s.size).data.toList = s.data.toList.drop p := by rw [e]
  rw [e3] at h1
  exact h1

end Go.Proofs.YthpkoecpmbpnbaaDoor.run
