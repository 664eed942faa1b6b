/- LeafUnders: a row of one sign, and a gap, underlines; walked. -/
import Derived.Test.YtnjfkgkcapkfbaaGreatDoorLMany
set_option linter.unusedVariables false
namespace Go.Proofs.YtnjfkgkcapkfbaaGreatDoor
open Go.RowKit

theorem under_at (s : ByteArray) (hs : s.size ≤ 9223372036854775000) (k : Nat) (h : underL s.data.toList = k) (w : World) :
    Calls Tryz.prog 18 #[.string s] w fun e w' => e = .returned (.int .i64 (k : Int)) ∧ Below w.heap.size w w' := by
  rw [← h]
  exact lunder_any s hs w

set_option maxHeartbeats 4000000 in
theorem leafUnders.walk (a0 : Int) (h0 : -9223372036854775808 ≤ a0 ∧ a0 ≤ 9223372036854775807) (c1 : Bool) (a2 : Int) (h2 : -9223372036854775808 ≤ a2 ∧ a2 ≤ 9223372036854775807) (w : World) :
    Calls Tryz.prog 8 #[.int .i64 a0, .bool c1, .int .i64 a2] w fun e w' => e = .returned (.bool true) ∧ Below w.heap.size w w' := by
  obtain ⟨x, hx63, hx⟩ := and_bits 63 (by omega) a0
  obtain ⟨y, hy7, hy⟩ := and_bits 7 (by omega) a2
  obtain ⟨z, hz1, hz⟩ := and_bits 1 (by omega) (a2 / 8)
  have hx : bits .and .i64 a0 63 = (x : Int) := hx
  have hy : bits .and .i64 a2 7 = (y : Int) := hy
  have hz : bits .and .i64 (a2 / 8) 1 = (z : Int) := hz
  obtain ⟨B, hB⟩ : ∃ B, B = repB y 32 := ⟨_, rfl⟩
  have hBs : B.size = y := by rw [hB, repB_size]
  have hBd : B.data.toList = List.replicate y 32 := by rw [hB, repB_data]
  have HB : Hid (∀ w, Calls Tryz.prog 17 #[.string ⟨#[32]⟩, .int .i64 (y : Int)] w fun e w' => e = .returned (.string B) ∧ w' = w) := fun w => by rw [hB]; exact many_any 32 y (by omega) w
  obtain ⟨C, hC⟩ : ∃ C, C = repB z 9 := ⟨_, rfl⟩
  have hCs : C.size = z := by rw [hC, repB_size]
  have hCd : C.data.toList = List.replicate z 9 := by rw [hC, repB_data]
  have HC : Hid (∀ w, Calls Tryz.prog 17 #[.string ⟨#[9]⟩, .int .i64 (z : Int)] w fun e w' => e = .returned (.string C) ∧ w' = w) := fun w => by rw [hC]; exact many_any 9 z (by omega) w
  clear hB hC
  cases c1
  · obtain ⟨A, hA⟩ : ∃ A, A = repB (x + 1) 61 := ⟨_, rfl⟩
    have hAs : A.size = x + 1 := by rw [hA, repB_size]
    have hAd : A.data.toList = List.replicate (x + 1) 61 := by rw [hA, repB_data]
    have HA : Hid (∀ z w, z = ((x + 1 : Nat) : Int) → Calls Tryz.prog 17 #[.string ⟨#[61]⟩, .int .i64 z] w fun e w' => e = .returned (.string A) ∧ w' = w) := fun z w hz => by rw [hA]; exact many_at 61 (x + 1) z hz (by omega) w
    have hS : (A ++ B ++ C).data.toList = List.replicate (x + 1) 61 ++ (List.replicate y 32 ++ List.replicate z 9) := by rw [ByteArray.data_append, ByteArray.data_append, Array.toList_append, Array.toList_append, hAd, hBd, hCd, List.append_assoc]
    have hz1 : (A ++ B ++ C).size = x + 1 + y + z := by rw [ByteArray.size_append, ByteArray.size_append]; omega
    have hmem : 61 ∈ (A ++ B ++ C).data.toList := by rw [hS]; simp [List.replicate_succ]
    have U1 := (show Hid _ from fun w => under_at (A ++ B ++ C) (by omega) 1 (by rw [hS]; exact under_one (by omega) (gaps_all y z)) w)
    have U2 := (show Hid _ from fun w => under_at (A ++ B ++ C ++ ⟨#[61, 45]⟩) (by rw [ByteArray.size_append, hz1]; show _ + 2 ≤ _; omega) 0 (under_none (x := 45) (y := 61) (by simp) (by decide) (by decide) (by simp) (by decide) (by decide)) w)
    have U3 := (show Hid _ from fun w => under_at (⟨#[120]⟩ ++ (A ++ B ++ C)) (by rw [ByteArray.size_append, hz1]; show 1 + _ ≤ _; omega) 0 (under_none (x := 120) (y := 120) (by simp) (by decide) (by decide) (by simp) (by decide) (by decide)) w)
    have U4 := (show Hid _ from fun w => under_at (A ++ B ++ C ++ ⟨#[97]⟩) (by rw [ByteArray.size_append, hz1]; show _ + 1 ≤ _; omega) 0 (under_none (x := 97) (y := 97) (by simp) (by decide) (by decide) (by simp) (by decide) (by decide)) w)
    clear hA hAd hS hmem hBd hCd
    have hz2 : (A ++ B).size = x + 1 + y := by rw [ByteArray.size_append]; omega
    go_enter Tryz.func8, Tryz.ntmps8
    go_wp2_with (first
      | (go_at_call 9; refine (lshown_any _).mono ?_; rintro e w0 ⟨rfl, hb0⟩)
      | (go_at_call_of 17 (Value.string ⟨#[61]⟩); refine (HA.out _ _ (by omega)).mono ?_; rintro e w1 ⟨rfl, hw⟩; subst w1)
      | (go_at_call_of 17 (Value.string ⟨#[32]⟩); refine (HB.out _).mono ?_; rintro e w1 ⟨rfl, hw⟩; subst w1)
      | (go_at_call_of 17 (Value.string ⟨#[9]⟩); refine (HC.out _).mono ?_; rintro e w1 ⟨rfl, hw⟩; subst w1)
      | (go_at_call_of 18 (Value.string (A ++ B ++ C)); refine (U1.out _).mono ?_; rintro e w2 ⟨rfl, hb2⟩)
      | (go_at_call_of 18 (Value.string (A ++ B ++ C ++ ByteArray.mk #[61, 45])); refine (U2.out _).mono ?_; rintro e w3 ⟨rfl, hb3⟩)
      | (go_at_call_of 18 (Value.string (ByteArray.mk #[120] ++ (A ++ B ++ C))); refine (U3.out _).mono ?_; rintro e w4 ⟨rfl, hb4⟩)
      | (go_at_call_of 18 (Value.string (A ++ B ++ C ++ ByteArray.mk #[97])); refine (U4.out _).mono ?_; rintro e w5 ⟨rfl, hb5⟩))
    go_ret
    exact ⟨rfl, below_next (below_next (below_next (below_next hb0 hb2) hb3) hb4) hb5⟩
  · obtain ⟨A, hA⟩ : ∃ A, A = repB (x + 1) 45 := ⟨_, rfl⟩
    have hAs : A.size = x + 1 := by rw [hA, repB_size]
    have hAd : A.data.toList = List.replicate (x + 1) 45 := by rw [hA, repB_data]
    have HA : Hid (∀ z w, z = ((x + 1 : Nat) : Int) → Calls Tryz.prog 17 #[.string ⟨#[45]⟩, .int .i64 z] w fun e w' => e = .returned (.string A) ∧ w' = w) := fun z w hz => by rw [hA]; exact many_at 45 (x + 1) z hz (by omega) w
    have hS : (A ++ B ++ C).data.toList = List.replicate (x + 1) 45 ++ (List.replicate y 32 ++ List.replicate z 9) := by rw [ByteArray.data_append, ByteArray.data_append, Array.toList_append, Array.toList_append, hAd, hBd, hCd, List.append_assoc]
    have hz1 : (A ++ B ++ C).size = x + 1 + y + z := by rw [ByteArray.size_append, ByteArray.size_append]; omega
    have hmem : 45 ∈ (A ++ B ++ C).data.toList := by rw [hS]; simp [List.replicate_succ]
    have U1 := (show Hid _ from fun w => under_at (A ++ B ++ C) (by omega) 2 (by rw [hS]; exact under_two (by omega) (gaps_all y z)) w)
    have U2 := (show Hid _ from fun w => under_at (A ++ B ++ C ++ ⟨#[61, 45]⟩) (by rw [ByteArray.size_append, hz1]; show _ + 2 ≤ _; omega) 0 (under_none (x := 45) (y := 61) (by simp) (by decide) (by decide) (by simp) (by decide) (by decide)) w)
    have U3 := (show Hid _ from fun w => under_at (⟨#[120]⟩ ++ (A ++ B ++ C)) (by rw [ByteArray.size_append, hz1]; show 1 + _ ≤ _; omega) 0 (under_none (x := 120) (y := 120) (by simp) (by decide) (by decide) (by simp) (by decide) (by decide)) w)
    have U4 := (show Hid _ from fun w => under_at (A ++ B ++ C ++ ⟨#[97]⟩) (by rw [ByteArray.size_append, hz1]; show _ + 1 ≤ _; omega) 0 (under_none (x := 97) (y := 97) (by simp) (by decide) (by decide) (by simp) (by decide) (by decide)) w)
    clear hA hAd hS hmem hBd hCd
    have hz2 : (A ++ B).size = x + 1 + y := by rw [ByteArray.size_append]; omega
    go_enter Tryz.func8, Tryz.ntmps8
    go_wp2_with (first
      | (go_at_call 9; refine (lshown_any _).mono ?_; rintro e w0 ⟨rfl, hb0⟩)
      | (go_at_call_of 17 (Value.string ⟨#[45]⟩); refine (HA.out _ _ (by omega)).mono ?_; rintro e w1 ⟨rfl, hw⟩; subst w1)
      | (go_at_call_of 17 (Value.string ⟨#[32]⟩); refine (HB.out _).mono ?_; rintro e w1 ⟨rfl, hw⟩; subst w1)
      | (go_at_call_of 17 (Value.string ⟨#[9]⟩); refine (HC.out _).mono ?_; rintro e w1 ⟨rfl, hw⟩; subst w1)
      | (go_at_call_of 18 (Value.string (A ++ B ++ C)); refine (U1.out _).mono ?_; rintro e w2 ⟨rfl, hb2⟩)
      | (go_at_call_of 18 (Value.string (A ++ B ++ C ++ ByteArray.mk #[61, 45])); refine (U2.out _).mono ?_; rintro e w3 ⟨rfl, hb3⟩)
      | (go_at_call_of 18 (Value.string (ByteArray.mk #[120] ++ (A ++ B ++ C))); refine (U3.out _).mono ?_; rintro e w4 ⟨rfl, hb4⟩)
      | (go_at_call_of 18 (Value.string (A ++ B ++ C ++ ByteArray.mk #[97])); refine (U4.out _).mono ?_; rintro e w5 ⟨rfl, hb5⟩))
    go_ret
    exact ⟨rfl, below_next (below_next (below_next (below_next hb0 hb2) hb3) hb4) hb5⟩
end Go.Proofs.YtnjfkgkcapkfbaaGreatDoor
