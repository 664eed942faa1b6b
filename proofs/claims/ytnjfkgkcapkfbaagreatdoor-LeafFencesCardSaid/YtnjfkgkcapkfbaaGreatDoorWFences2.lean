/- LeafFences, of the other byte, and whole; walked. -/
import Derived.Test.YtnjfkgkcapkfbaaGreatDoorWFences
set_option linter.unusedVariables false
namespace Go.Proofs.YtnjfkgkcapkfbaaGreatDoor
open Go.RowKit

set_option maxHeartbeats 32000000 in
set_option maxRecDepth 8000 in
theorem fences_126 (x y g : Int) (hx0 : 0 ≤ x) (hx1 : x < 40) (hy0 : 0 ≤ y) (hy1 : y < 40) (hg0 : 0 ≤ g) (hg1 : g < 5) (a0 a1 a3 : Int) (h0 : Folded a0 x 40) (h1 : Folded a1 y 40) (h3 : Folded a3 g 5) (w : World) :
    Calls Tryz.prog 4 #[.int .i64 a0, .int .i64 a1, .bool true, .int .i64 a3] w fun e w' => e = .returned (.bool true) ∧ Below w.heap.size w w' := by
  obtain ⟨N, hN⟩ : ∃ N : Nat, (N : Int) = 3 + x := ⟨(3 + x).toNat, by omega⟩
  obtain ⟨G, hG⟩ : ∃ G : Nat, (G : Int) = g := ⟨g.toNat, by omega⟩
  have hN1 : 3 ≤ N := by omega
  have hN2 : N ≤ 42 := by omega
  have hG4 : G ≤ 4 := by omega
  obtain ⟨S, hS⟩ : ∃ S : ByteArray, S = repB N 126 := ⟨_, rfl⟩
  have hSs : S.size = N := by rw [hS, repB_size]
  obtain ⟨P, hP⟩ : ∃ P : ByteArray, P = ⟨(turns G).toArray⟩ := ⟨_, rfl⟩
  have hPs : P.size = G := by rw [hP, size_list, turns_len]
  have hTd : (S ++ P).data.toList = List.replicate N 126 ++ turns G := by rw [ByteArray.data_append, Array.toList_append, hS, hP, repB_data, list_data]
  have hTs : (S ++ P).size = N + G := by rw [ByteArray.size_append]; omega
  have F1 : Hid (∀ w, Calls Tryz.prog 12 #[.string (S ++ P)] w fun e w' => e = .returned (.tuple #[.int .u8 126, .int .i64 (3 + x), .string ⟨#[]⟩]) ∧ Below w.heap.size w w') := fun w => by
    have := fence_at (S ++ P) (by omega) (126, N, []) (by rw [hTd]; exact fence_rep hN1 hG4 126 (.inr rfl)) w
    dsimp only at this
    rw [hN] at this
    exact this
  have F2 : Hid (∀ (z : Int) (w : World), -1000 ≤ z ∧ z ≤ 1000 → Calls Tryz.prog 14 #[.string (S ++ P), .int .u8 126, .int .i64 z] w fun e w' => e = .returned (.bool (decide (z ≤ 3 + x))) ∧ Below w.heap.size w w') := fun z w hz => by
    have := closes_row (c := 126) hTd (by omega) (by omega) (by decide) z hz w
    rw [hN] at this
    exact this
  have F3 : Hid (∀ (z : Int) (w : World), -1000 ≤ z ∧ z ≤ 1000 → Calls Tryz.prog 14 #[.string (S ++ P), .int .u8 96, .int .i64 z] w fun e w' => e = .returned (.bool false) ∧ Below w.heap.size w w') := fun z w hz => closes_other (c := 126) (d := 96) hTd (by omega) (by omega) (by decide) (by decide) z hz w
  have HS := (show Hid _ from hS)
  have HP := (show Hid _ from hP)
  have HN := (show Hid _ from hN)
  have HG := (show Hid _ from hG)
  clear hS hP hTd hN hG
  have hlt : ∀ k : Nat, k ≤ 100 → (repB k 126).size = k := fun k _ => repB_size k 126
  have HL := (show Hid _ from hlt)
  clear hlt
  rcases h0 with ⟨p0, r0⟩ | ⟨p0, p0', r0⟩ <;> rcases h1 with ⟨p1, r1⟩ | ⟨p1, p1', r1⟩ <;> rcases h3 with ⟨p3, r3⟩ | ⟨p3, p3', r3⟩
  all_goals
    go_enter Tryz.func4, Tryz.ntmps4
    go_wp2_with (go_at_call 9; refine (lshown_any _).mono ?_; rintro e w1 ⟨rfl, hb1⟩)
    go_loopw [11, 12] (fun t i wr => ∃ k : Nat, t = .string (repB k 126) ∧ i = .int .i64 (k : Int) ∧ k ≤ N ∧ Below w.heap.size w wr) (fun _ i _ => N - (intOf i).toNat)
    case atStart => exact ⟨0, rfl, rfl, by omega, hb1⟩
    case round =>
      obtain ⟨k, rfl, rfl, hk, hbw⟩ := hrel
      clear hb1
      by_cases hlt : k < N
      · have q : (k : Int) < 3 + x := by have := HN.out; omega
        have hcl := conv_lit wr [126] #[.int .u8 126] 1 rfl rfl
        have hbl := hbw.alloc hbw.size (.cells #[.int .u8 126] 5)
        have hz := HL.out k (by omega)
        have hs := repB_succ k 126
        go_wp2
        go_roundw
        case rel => exact ⟨k + 1, rfl, by go_num, by omega, hbl⟩
        case measure => simp [intOf]; omega
      · have q : ¬ (k : Int) < 3 + x := by have := HN.out; omega
        obtain rfl : k = N := by omega
        rw [← HS.out]
        go_wp2
        go_loopw [13, 14] (fun t i wr => ∃ j : Nat, t = .string ⟨(turns j).toArray⟩ ∧ i = .int .i64 (j : Int) ∧ j ≤ G ∧ Below w.heap.size w wr) (fun _ i _ => G - (intOf i).toNat)
        case atStart => exact ⟨0, rfl, rfl, by omega, hbw⟩
        case round =>
          obtain ⟨j, rfl, rfl, hj, hbv⟩ := hrel
          clear hbw
          by_cases hjt : j < G
          · have q2 : (j : Int) < g := by have := HG.out; omega
            have hz := size_list (turns j)
            have hbl := hbv.alloc hbv.size (.cells #[.string ⟨#[32]⟩, .string ⟨#[9]⟩] 9)
            rw [turns_len] at hz
            rcases Nat.mod_two_eq_zero_or_one j with hp | hp
            · have ht : (j : Int).tmod 2 = 0 := by rw [Int.tmod_eq_emod_of_nonneg (by omega)]; omega
              have hs := turns_even hp
              clear hp
              go_wp2
              go_roundw
              case rel => exact ⟨j + 1, rfl, by go_num, by omega, hbl⟩
              case measure => simp [intOf]; omega
            · have ht : (j : Int).tmod 2 = 1 := by rw [Int.tmod_eq_emod_of_nonneg (by omega)]; omega
              have hs := turns_odd hp
              clear hp
              go_wp2
              go_roundw
              case rel => exact ⟨j + 1, rfl, by go_num, by omega, hbl⟩
              case measure => simp [intOf]; omega
          · have q2 : ¬ (j : Int) < g := by have := HG.out; omega
            obtain rfl : j = G := by omega
            rw [← HP.out]
            go_wp2_with (first
              | (go_at_call 12; refine (F1.out _).mono ?_; rintro e w3 ⟨rfl, hb3⟩; have hbv := below_next hbv hb3)
              | (go_at_call_of 14 (Value.int .u8 126); refine (F2.out _ _ (by omega)).mono ?_; rintro e w4 ⟨rfl, hb4⟩; have hbv := below_next hbv hb4)
              | (go_at_call_of 14 (Value.int .u8 96); refine (F3.out _ _ (by omega)).mono ?_; rintro e w5 ⟨rfl, hb5⟩; have hbv := below_next hbv hb5))
            go_ret
            exact ⟨ret_bool (by rw [decide_eq_false (by omega)]; rfl), hbv⟩

theorem leafFences.walk (a0 : Int) (h0 : -9223372036854775808 ≤ a0 ∧ a0 ≤ 9223372036854775807) (a1 : Int) (h1 : -9223372036854775808 ≤ a1 ∧ a1 ≤ 9223372036854775807) (c2 : Bool) (a3 : Int) (h3 : -9223372036854775808 ≤ a3 ∧ a3 ≤ 9223372036854775807) (w : World) :
    Calls Tryz.prog 4 #[.int .i64 a0, .int .i64 a1, .bool c2, .int .i64 a3] w fun e w' => e = .returned (.bool true) ∧ Below w.heap.size w w' := by
  obtain ⟨x, x0, x1, hx⟩ := folded a0 h0.1 40 (by omega)
  obtain ⟨y, y0, y1, hy⟩ := folded a1 h1.1 40 (by omega)
  obtain ⟨g, g0, g1, hg⟩ := folded a3 h3.1 5 (by omega)
  cases c2
  · exact fences_96 x y g x0 x1 y0 y1 g0 g1 a0 a1 a3 hx hy hg w
  · exact fences_126 x y g x0 x1 y0 y1 g0 g1 a0 a1 a3 hx hy hg w

end Go.Proofs.YtnjfkgkcapkfbaaGreatDoor
