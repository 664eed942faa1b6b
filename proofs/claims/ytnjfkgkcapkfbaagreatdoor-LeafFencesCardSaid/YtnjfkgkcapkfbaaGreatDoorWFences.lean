/- LeafFences: a fence is closed by one that is as long; walked. -/
import Derived.Test.YtnjfkgkcapkfbaaGreatDoorLMany
import Derived.BigRegion
set_option linter.unusedVariables false
namespace Go.Proofs.YtnjfkgkcapkfbaaGreatDoor
open Go.RowKit

/-- Gaps, a blank and a tab in turn. -/
def turns : Nat → List UInt8
  | 0 => []
  | n + 1 => turns n ++ [if n % 2 = 0 then 32 else 9]
theorem turns_gap : ∀ n : Nat, (turns n).all gapB = true
  | 0 => rfl
  | n + 1 => by
    unfold turns
    rw [List.all_append, turns_gap n]
    split <;> rfl
theorem turns_len : ∀ n : Nat, (turns n).length = n
  | 0 => rfl
  | n + 1 => by
    unfold turns
    rw [List.length_append, turns_len n]
    rfl
theorem turns_small : ∀ n : Nat, n ≤ 4 → trimG (turns n) = [] ∧ (96 : UInt8) ∉ turns n := by
  intro n hn
  have : n = 0 ∨ n = 1 ∨ n = 2 ∨ n = 3 ∨ n = 4 := by omega
  rcases this with rfl | rfl | rfl | rfl | rfl <;> decide


theorem fence_rep {n g : Nat} (hn : 3 ≤ n) (hg : g ≤ 4) (c : UInt8) (hc : c = 96 ∨ c = 126) : fenceL (List.replicate n c ++ turns g) = (c, n, []) := by
  obtain ⟨k, rfl⟩ : ∃ k, n = k + 1 := ⟨n - 1, by omega⟩
  have hgc : gapB c = false := by rcases hc with rfl | rfl <;> decide
  have hr := lrun_rep c (turns g) (gap_head (turns_gap g) hgc) (k + 1)
  rw [List.replicate_succ, List.cons_append] at hr ⊢
  have hd : (c :: (List.replicate k c ++ turns g)).drop (k + 1) = turns g := by
    rw [List.drop_succ_cons, List.drop_left' (by simp)]
  show (if c ≠ 96 ∧ c ≠ 126 then _ else _) = _
  rw [if_neg (by rintro ⟨h1, h2⟩; rcases hc with h | h; exact h1 h; exact h2 h), hr, hd, if_neg (by rintro (h | ⟨_, h⟩); omega; exact (turns_small g hg).2 h), (turns_small g hg).1, unesc_nil]

theorem fence_at (s : ByteArray) (hs : s.size ≤ 140737488351232) (o : UInt8 × Nat × List UInt8) (h : fenceL s.data.toList = o) (w : World) :
    Calls Tryz.prog 12 #[.string s] w fun e w' => e = .returned (.tuple #[.int .u8 (o.1.toNat : Int), .int .i64 (o.2.1 : Int), .string ⟨o.2.2.toArray⟩]) ∧ Below w.heap.size w w' := by
  rw [← h]
  exact lfence_any s hs w
theorem closes_at (s : ByteArray) (hs : s.size ≤ 9223372036854775000) (c : UInt8) (n : Int) (hn : -9223372036854775808 ≤ n ∧ n ≤ 9223372036854775807) (b : Bool) (h : closesL s.data.toList c n = b) (w : World) :
    Calls Tryz.prog 14 #[.string s, .int .u8 (c.toNat : Int), .int .i64 n] w fun e w' => e = .returned (.bool b) ∧ Below w.heap.size w w' := by
  rw [← h]
  exact lcloses_any s hs c n hn w

theorem turns_even {j : Nat} (h : j % 2 = 0) : ByteArray.mk (turns j).toArray ++ ByteArray.mk #[32] = ⟨(turns (j + 1)).toArray⟩ := by
  show ByteArray.mk (turns j).toArray ++ ByteArray.mk [32].toArray = ⟨(turns j ++ [if j % 2 = 0 then 32 else 9]).toArray⟩
  rw [cat_eq, if_pos h]
theorem turns_odd {j : Nat} (h : j % 2 = 1) : ByteArray.mk (turns j).toArray ++ ByteArray.mk #[9] = ⟨(turns (j + 1)).toArray⟩ := by
  show ByteArray.mk (turns j).toArray ++ ByteArray.mk [9].toArray = ⟨(turns j ++ [if j % 2 = 0 then 32 else 9]).toArray⟩
  rw [cat_eq, if_neg (by omega)]

theorem closes_row {n g : Nat} {c : UInt8} {T : ByteArray} (hT : T.data.toList = List.replicate n c ++ turns g) (hs : T.size ≤ 1000) (hn : 1 ≤ n) (hgc : gapB c = false) (z : Int) (hz : -1000 ≤ z ∧ z ≤ 1000) (w : World) :
    Calls Tryz.prog 14 #[.string T, .int .u8 (c.toNat : Int), .int .i64 z] w fun e w' => e = .returned (.bool (decide (z ≤ (n : Int)))) ∧ Below w.heap.size w w' := by
  refine closes_at T (by omega) c z (by omega) _ ?_ w
  rw [hT, closes_yes (turns_gap g) hgc]
  rw [Bool.eq_iff_iff]
  simp
  omega
theorem closes_other {n g : Nat} {c d : UInt8} {T : ByteArray} (hT : T.data.toList = List.replicate n c ++ turns g) (hs : T.size ≤ 1000) (hn : 1 ≤ n) (hgc : gapB c = false) (hd : c ≠ d) (z : Int) (hz : -1000 ≤ z ∧ z ≤ 1000) (w : World) :
    Calls Tryz.prog 14 #[.string T, .int .u8 (d.toNat : Int), .int .i64 z] w fun e w' => e = .returned (.bool false) ∧ Below w.heap.size w w' := by
  refine closes_at T (by omega) d z (by omega) _ ?_ w
  refine closes_no (x := c) ?_ hd hgc
  rw [hT]
  obtain ⟨k, rfl⟩ : ∃ k, n = k + 1 := ⟨n - 1, by omega⟩
  simp [List.replicate_succ]

/-- A number that is not below 0, out of any. -/
def Folded (a x : Int) (m : Int) : Prop := (0 ≤ a ∧ a.tmod m = x) ∨ (a < 0 ∧ -9223372036854775808 ≤ a ∧ (-(a + 1)).tmod m = x)
theorem folded (a : Int) (h0 : -9223372036854775808 ≤ a) (m : Int) (hm : 0 < m) : ∃ x : Int, 0 ≤ x ∧ x < m ∧ Folded a x m := by
  by_cases h : 0 ≤ a
  · exact ⟨a.tmod m, Int.tmod_nonneg _ h, by rw [Int.tmod_eq_emod_of_nonneg h]; exact Int.emod_lt_of_pos _ hm, .inl ⟨h, rfl⟩⟩
  · exact ⟨(-(a + 1)).tmod m, Int.tmod_nonneg _ (by omega), by rw [Int.tmod_eq_emod_of_nonneg (by omega)]; exact Int.emod_lt_of_pos _ hm, .inr ⟨by omega, h0, rfl⟩⟩

set_option maxHeartbeats 32000000 in
set_option maxRecDepth 8000 in
theorem fences_96 (x y g : Int) (hx0 : 0 ≤ x) (hx1 : x < 40) (hy0 : 0 ≤ y) (hy1 : y < 40) (hg0 : 0 ≤ g) (hg1 : g < 5) (a0 a1 a3 : Int) (h0 : Folded a0 x 40) (h1 : Folded a1 y 40) (h3 : Folded a3 g 5) (w : World) :
    Calls Tryz.prog 4 #[.int .i64 a0, .int .i64 a1, .bool false, .int .i64 a3] w fun e w' => e = .returned (.bool true) ∧ Below w.heap.size w w' := by
  obtain ⟨N, hN⟩ : ∃ N : Nat, (N : Int) = 3 + x := ⟨(3 + x).toNat, by omega⟩
  obtain ⟨G, hG⟩ : ∃ G : Nat, (G : Int) = g := ⟨g.toNat, by omega⟩
  have hN1 : 3 ≤ N := by omega
  have hN2 : N ≤ 42 := by omega
  have hG4 : G ≤ 4 := by omega
  obtain ⟨S, hS⟩ : ∃ S : ByteArray, S = repB N 96 := ⟨_, rfl⟩
  have hSs : S.size = N := by rw [hS, repB_size]
  obtain ⟨P, hP⟩ : ∃ P : ByteArray, P = ⟨(turns G).toArray⟩ := ⟨_, rfl⟩
  have hPs : P.size = G := by rw [hP, size_list, turns_len]
  have hTd : (S ++ P).data.toList = List.replicate N 96 ++ turns G := by rw [ByteArray.data_append, Array.toList_append, hS, hP, repB_data, list_data]
  have hTs : (S ++ P).size = N + G := by rw [ByteArray.size_append]; omega
  have F1 : Hid (∀ w, Calls Tryz.prog 12 #[.string (S ++ P)] w fun e w' => e = .returned (.tuple #[.int .u8 96, .int .i64 (3 + x), .string ⟨#[]⟩]) ∧ Below w.heap.size w w') := fun w => by
    have := fence_at (S ++ P) (by omega) (96, N, []) (by rw [hTd]; exact fence_rep hN1 hG4 96 (.inl rfl)) w
    dsimp only at this
    rw [hN] at this
    exact this
  have F2 : Hid (∀ (z : Int) (w : World), -1000 ≤ z ∧ z ≤ 1000 → Calls Tryz.prog 14 #[.string (S ++ P), .int .u8 96, .int .i64 z] w fun e w' => e = .returned (.bool (decide (z ≤ 3 + x))) ∧ Below w.heap.size w w') := fun z w hz => by
    have := closes_row (c := 96) hTd (by omega) (by omega) (by decide) z hz w
    rw [hN] at this
    exact this
  have F3 : Hid (∀ (z : Int) (w : World), -1000 ≤ z ∧ z ≤ 1000 → Calls Tryz.prog 14 #[.string (S ++ P), .int .u8 126, .int .i64 z] w fun e w' => e = .returned (.bool false) ∧ Below w.heap.size w w') := fun z w hz => closes_other (c := 96) (d := 126) hTd (by omega) (by omega) (by decide) (by decide) z hz w
  have HS := (show Hid _ from hS)
  have HP := (show Hid _ from hP)
  have HN := (show Hid _ from hN)
  have HG := (show Hid _ from hG)
  clear hS hP hTd hN hG
  have hlt : ∀ k : Nat, k ≤ 100 → (repB k 96).size = k := fun k _ => repB_size k 96
  have HL := (show Hid _ from hlt)
  clear hlt
  rcases h0 with ⟨p0, r0⟩ | ⟨p0, p0', r0⟩ <;> rcases h1 with ⟨p1, r1⟩ | ⟨p1, p1', r1⟩ <;> rcases h3 with ⟨p3, r3⟩ | ⟨p3, p3', r3⟩
  all_goals
    go_enter Tryz.func4, Tryz.ntmps4
    go_wp2_with (go_at_call 9; refine (lshown_any _).mono ?_; rintro e w1 ⟨rfl, hb1⟩)
    go_loopw [11, 12] (fun t i wr => ∃ k : Nat, t = .string (repB k 96) ∧ i = .int .i64 (k : Int) ∧ k ≤ N ∧ Below w.heap.size w wr) (fun _ i _ => N - (intOf i).toNat)
    case atStart => exact ⟨0, rfl, rfl, by omega, hb1⟩
    case round =>
      obtain ⟨k, rfl, rfl, hk, hbw⟩ := hrel
      clear hb1
      by_cases hlt : k < N
      · have q : (k : Int) < 3 + x := by have := HN.out; omega
        have hcl := conv_lit wr [96] #[.int .u8 96] 1 rfl rfl
        have hbl := hbw.alloc hbw.size (.cells #[.int .u8 96] 5)
        have hz := HL.out k (by omega)
        have hs := repB_succ k 96
        go_wp2
        go_roundw
        case rel => exact ⟨k + 1, rfl, by go_num, by omega, hbl⟩
        case measure => simp [intOf]; omega
      · have q : ¬ (k : Int) < 3 + x := by have := HN.out; omega
        obtain rfl : k = N := by omega
        rw [← HS.out]
        go_wp2
        go_loopw [13, 14] (fun t i wr => ∃ j : Nat, t = .string ⟨(turns j).toArray⟩ ∧ i = .int .i64 (j : Int) ∧ j ≤ G ∧ Below w.heap.size w wr) (fun _ i _ => G - (intOf i).toNat)
        case atStart => exact ⟨0, rfl, rfl, by omega, hbw⟩
        case round =>
          obtain ⟨j, rfl, rfl, hj, hbv⟩ := hrel
          clear hbw
          by_cases hjt : j < G
          · have q2 : (j : Int) < g := by have := HG.out; omega
            have hz := size_list (turns j)
            have hbl := hbv.alloc hbv.size (.cells #[.string ⟨#[32]⟩, .string ⟨#[9]⟩] 9)
            rw [turns_len] at hz
            rcases Nat.mod_two_eq_zero_or_one j with hp | hp
            · have ht : (j : Int).tmod 2 = 0 := by rw [Int.tmod_eq_emod_of_nonneg (by omega)]; omega
              have hs := turns_even hp
              clear hp
              go_wp2
              go_roundw
              case rel => exact ⟨j + 1, rfl, by go_num, by omega, hbl⟩
              case measure => simp [intOf]; omega
            · have ht : (j : Int).tmod 2 = 1 := by rw [Int.tmod_eq_emod_of_nonneg (by omega)]; omega
              have hs := turns_odd hp
              clear hp
              go_wp2
              go_roundw
              case rel => exact ⟨j + 1, rfl, by go_num, by omega, hbl⟩
              case measure => simp [intOf]; omega
          · have q2 : ¬ (j : Int) < g := by have := HG.out; omega
            obtain rfl : j = G := by omega
            rw [← HP.out]
            go_wp2_with (first
              | (go_at_call 12; refine (F1.out _).mono ?_; rintro e w3 ⟨rfl, hb3⟩; have hbv := below_next hbv hb3)
              | (go_at_call_of 14 (Value.int .u8 96); refine (F2.out _ _ (by omega)).mono ?_; rintro e w4 ⟨rfl, hb4⟩; have hbv := below_next hbv hb4)
              | (go_at_call_of 14 (Value.int .u8 126); refine (F3.out _ _ (by omega)).mono ?_; rintro e w5 ⟨rfl, hb5⟩; have hbv := below_next hbv hb5))
            go_ret
            exact ⟨ret_bool (by rw [decide_eq_false (by omega)]; rfl), hbv⟩

end Go.Proofs.YtnjfkgkcapkfbaaGreatDoor
