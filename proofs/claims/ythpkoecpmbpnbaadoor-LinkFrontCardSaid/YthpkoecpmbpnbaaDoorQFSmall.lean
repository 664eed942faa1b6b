/- What appendSmall does: a character's small letter goes in behind what the row holds. -/
import Derived.Test.YthpkoecpmbpnbaaDoorQFClean
set_option linter.unusedVariables false
namespace Go.Proofs.YthpkoecpmbpnbaaDoor.run
open Go.RowKit

set_option maxHeartbeats 1000000 in
theorem small_a (B : Nat) (v : Value) (n : Nat) (xs : List Value) (r : Int) (h0 : 65 ≤ r) (h1 : r ≤ 90) (w : World) (hown : w.ownsRow B 5 1 v n xs) (hlen : n + 4 ≤ 140737488355328) (hB : B ≤ w.heap.size) :
    Calls Tryd.prog 51 #[v, .int .i32 r] w fun e w' => ∃ v', e = .returned v' ∧ w'.ownsRow B 5 1 v' (n + (Lib.runeCells (r + 32)).length) (xs ++ Lib.runeCells (r + 32)) ∧ ∃ o, (w.alloc o).grownBy w' v.ownBlock := by
  have q1 : (r == 223) = false := by simp; omega
  have q2 : (r == 7838) = false := by simp; omega
  have e0 : inB r 65 90 = true := by simp [inB]; omega
  have e1 : inB r 192 222 = false := by simp [inB]; omega
  have e2 : inB r 913 937 = false := by simp [inB]; omega
  have e3 : inB r 1040 1071 = false := by simp [inB]; omega
  have e4 : inB r 1024 1039 = false := by simp [inB]; omega
  go_enter Tryd.func51, Tryd.ntmps51
  go_wp2_with (first | (go_at_call 57; refine (within_any _ _ _ _).mono ?_; rintro e w' ⟨rfl, rfl⟩) | (go_at_call 67; refine (append_rune B v n xs (r + 32) (by omega) (by omega) _ hown hlen hB).mono ?_))
  rintro e w1 ⟨v', rfl, g1, o, g2⟩
  go_wp2
  go_ret
  exact ⟨_, rfl, g1, o, g2⟩

set_option maxHeartbeats 1000000 in
theorem small_b (B : Nat) (v : Value) (n : Nat) (xs : List Value) (r : Int) (h0 : 192 ≤ r) (h1 : r ≤ 222) (h2 : r ≠ 215) (w : World) (hown : w.ownsRow B 5 1 v n xs) (hlen : n + 4 ≤ 140737488355328) (hB : B ≤ w.heap.size) :
    Calls Tryd.prog 51 #[v, .int .i32 r] w fun e w' => ∃ v', e = .returned v' ∧ w'.ownsRow B 5 1 v' (n + (Lib.runeCells (r + 32)).length) (xs ++ Lib.runeCells (r + 32)) ∧ ∃ o, (w.alloc o).grownBy w' v.ownBlock := by
  have q1 : (r == 223) = false := by simp; omega
  have q2 : (r == 7838) = false := by simp; omega
  have q3 : (r != 215) = true := by simp; omega
  have e0 : inB r 65 90 = false := by simp [inB]; omega
  have e1 : inB r 192 222 = true := by simp [inB]; omega
  have e2 : inB r 913 937 = false := by simp [inB]; omega
  have e3 : inB r 1040 1071 = false := by simp [inB]; omega
  have e4 : inB r 1024 1039 = false := by simp [inB]; omega
  go_enter Tryd.func51, Tryd.ntmps51
  go_wp2_with (first | (go_at_call 57; refine (within_any _ _ _ _).mono ?_; rintro e w' ⟨rfl, rfl⟩) | (go_at_call 67; refine (append_rune B v n xs (r + 32) (by omega) (by omega) _ hown hlen hB).mono ?_))
  rintro e w1 ⟨v', rfl, g1, o, g2⟩
  go_wp2
  go_ret
  exact ⟨_, rfl, g1, o, g2⟩

set_option maxHeartbeats 1000000 in
theorem small_c (B : Nat) (v : Value) (n : Nat) (xs : List Value) (r : Int) (h0 : 913 ≤ r) (h1 : r ≤ 937) (w : World) (hown : w.ownsRow B 5 1 v n xs) (hlen : n + 4 ≤ 140737488355328) (hB : B ≤ w.heap.size) :
    Calls Tryd.prog 51 #[v, .int .i32 r] w fun e w' => ∃ v', e = .returned v' ∧ w'.ownsRow B 5 1 v' (n + (Lib.runeCells (r + 32)).length) (xs ++ Lib.runeCells (r + 32)) ∧ ∃ o, (w.alloc o).grownBy w' v.ownBlock := by
  have q1 : (r == 223) = false := by simp; omega
  have q2 : (r == 7838) = false := by simp; omega
  have e0 : inB r 65 90 = false := by simp [inB]; omega
  have e1 : inB r 192 222 = false := by simp [inB]; omega
  have e2 : inB r 913 937 = true := by simp [inB]; omega
  have e3 : inB r 1040 1071 = false := by simp [inB]; omega
  have e4 : inB r 1024 1039 = false := by simp [inB]; omega
  go_enter Tryd.func51, Tryd.ntmps51
  go_wp2_with (first | (go_at_call 57; refine (within_any _ _ _ _).mono ?_; rintro e w' ⟨rfl, rfl⟩) | (go_at_call 67; refine (append_rune B v n xs (r + 32) (by omega) (by omega) _ hown hlen hB).mono ?_))
  rintro e w1 ⟨v', rfl, g1, o, g2⟩
  go_wp2
  go_ret
  exact ⟨_, rfl, g1, o, g2⟩

set_option maxHeartbeats 1000000 in
theorem small_d (B : Nat) (v : Value) (n : Nat) (xs : List Value) (r : Int) (h0 : 1040 ≤ r) (h1 : r ≤ 1071) (w : World) (hown : w.ownsRow B 5 1 v n xs) (hlen : n + 4 ≤ 140737488355328) (hB : B ≤ w.heap.size) :
    Calls Tryd.prog 51 #[v, .int .i32 r] w fun e w' => ∃ v', e = .returned v' ∧ w'.ownsRow B 5 1 v' (n + (Lib.runeCells (r + 32)).length) (xs ++ Lib.runeCells (r + 32)) ∧ ∃ o, (w.alloc o).grownBy w' v.ownBlock := by
  have q1 : (r == 223) = false := by simp; omega
  have q2 : (r == 7838) = false := by simp; omega
  have e0 : inB r 65 90 = false := by simp [inB]; omega
  have e1 : inB r 192 222 = false := by simp [inB]; omega
  have e2 : inB r 913 937 = false := by simp [inB]; omega
  have e3 : inB r 1040 1071 = true := by simp [inB]; omega
  have e4 : inB r 1024 1039 = false := by simp [inB]; omega
  go_enter Tryd.func51, Tryd.ntmps51
  go_wp2_with (first | (go_at_call 57; refine (within_any _ _ _ _).mono ?_; rintro e w' ⟨rfl, rfl⟩) | (go_at_call 67; refine (append_rune B v n xs (r + 32) (by omega) (by omega) _ hown hlen hB).mono ?_))
  rintro e w1 ⟨v', rfl, g1, o, g2⟩
  go_wp2
  go_ret
  exact ⟨_, rfl, g1, o, g2⟩

set_option maxHeartbeats 1000000 in
theorem small_e (B : Nat) (v : Value) (n : Nat) (xs : List Value) (r : Int) (h0 : 1024 ≤ r) (h1 : r ≤ 1039) (w : World) (hown : w.ownsRow B 5 1 v n xs) (hlen : n + 4 ≤ 140737488355328) (hB : B ≤ w.heap.size) :
    Calls Tryd.prog 51 #[v, .int .i32 r] w fun e w' => ∃ v', e = .returned v' ∧ w'.ownsRow B 5 1 v' (n + (Lib.runeCells (r + 80)).length) (xs ++ Lib.runeCells (r + 80)) ∧ ∃ o, (w.alloc o).grownBy w' v.ownBlock := by
  have q1 : (r == 223) = false := by simp; omega
  have q2 : (r == 7838) = false := by simp; omega
  have e0 : inB r 65 90 = false := by simp [inB]; omega
  have e1 : inB r 192 222 = false := by simp [inB]; omega
  have e2 : inB r 913 937 = false := by simp [inB]; omega
  have e3 : inB r 1040 1071 = false := by simp [inB]; omega
  have e4 : inB r 1024 1039 = true := by simp [inB]; omega
  go_enter Tryd.func51, Tryd.ntmps51
  go_wp2_with (first | (go_at_call 57; refine (within_any _ _ _ _).mono ?_; rintro e w' ⟨rfl, rfl⟩) | (go_at_call 67; refine (append_rune B v n xs (r + 80) (by omega) (by omega) _ hown hlen hB).mono ?_))
  rintro e w1 ⟨v', rfl, g1, o, g2⟩
  go_wp2
  go_ret
  exact ⟨_, rfl, g1, o, g2⟩

set_option maxHeartbeats 1000000 in
theorem small_f (B : Nat) (v : Value) (n : Nat) (xs : List Value) (r : Int) (h0 : 215 ≤ r) (h1 : r ≤ 215) (w : World) (hown : w.ownsRow B 5 1 v n xs) (hlen : n + 4 ≤ 140737488355328) (hB : B ≤ w.heap.size) :
    Calls Tryd.prog 51 #[v, .int .i32 r] w fun e w' => ∃ v', e = .returned v' ∧ w'.ownsRow B 5 1 v' (n + (Lib.runeCells (r)).length) (xs ++ Lib.runeCells (r)) ∧ ∃ o, (w.alloc o).grownBy w' v.ownBlock := by
  have q1 : (r == 223) = false := by simp; omega
  have q2 : (r == 7838) = false := by simp; omega
  have q3 : (r != 215) = false := by simp; omega
  have e0 : inB r 65 90 = false := by simp [inB]; omega
  have e1 : inB r 192 222 = true := by simp [inB]; omega
  have e2 : inB r 913 937 = false := by simp [inB]; omega
  have e3 : inB r 1040 1071 = false := by simp [inB]; omega
  have e4 : inB r 1024 1039 = false := by simp [inB]; omega
  go_enter Tryd.func51, Tryd.ntmps51
  go_wp2_with (first | (go_at_call 57; refine (within_any _ _ _ _).mono ?_; rintro e w' ⟨rfl, rfl⟩) | (go_at_call 67; refine (append_rune B v n xs (r) (by omega) (by omega) _ hown hlen hB).mono ?_))
  rintro e w1 ⟨v', rfl, g1, o, g2⟩
  go_wp2
  go_ret
  exact ⟨_, rfl, g1, o, g2⟩

set_option maxHeartbeats 1000000 in
theorem small_g (B : Nat) (v : Value) (n : Nat) (xs : List Value) (r : Int) (h0 : 0 ≤ r) (hok : r < 55296 ∨ (57343 < r ∧ r ≤ 1114111)) (h1 : ¬ (65 ≤ r ∧ r ≤ 90)) (h2 : ¬ (192 ≤ r ∧ r ≤ 222)) (h3 : ¬ (913 ≤ r ∧ r ≤ 937)) (h4 : ¬ (1024 ≤ r ∧ r ≤ 1071)) (h5 : r ≠ 223) (h6 : r ≠ 7838) (w : World) (hown : w.ownsRow B 5 1 v n xs) (hlen : n + 4 ≤ 140737488355328) (hB : B ≤ w.heap.size) :
    Calls Tryd.prog 51 #[v, .int .i32 r] w fun e w' => ∃ v', e = .returned v' ∧ w'.ownsRow B 5 1 v' (n + (Lib.runeCells (r)).length) (xs ++ Lib.runeCells (r)) ∧ ∃ o, (w.alloc o).grownBy w' v.ownBlock := by
  have q1 : (r == 223) = false := by simp; omega
  have q2 : (r == 7838) = false := by simp; omega
  have e0 : inB r 65 90 = false := by simp [inB]; omega
  have e1 : inB r 192 222 = false := by simp [inB]; omega
  have e2 : inB r 913 937 = false := by simp [inB]; omega
  have e3 : inB r 1040 1071 = false := by simp [inB]; omega
  have e4 : inB r 1024 1039 = false := by simp [inB]; omega
  go_enter Tryd.func51, Tryd.ntmps51
  go_wp2_with (first | (go_at_call 57; refine (within_any _ _ _ _).mono ?_; rintro e w' ⟨rfl, rfl⟩) | (go_at_call 67; refine (append_rune B v n xs (r) (by omega) (by omega) _ hown hlen hB).mono ?_))
  rintro e w1 ⟨v', rfl, g1, o, g2⟩
  go_wp2
  go_ret
  exact ⟨_, rfl, g1, o, g2⟩

set_option maxHeartbeats 1000000 in
theorem small_ss (B : Nat) (v : Value) (n : Nat) (xs : List Value) (r : Int) (h : r = 223 ∨ r = 7838) (w : World) (hown : w.ownsRow B 5 1 v n xs) (hlen : n + 4 ≤ 140737488355328) (hB : B ≤ w.heap.size) :
    Calls Tryd.prog 51 #[v, .int .i32 r] w fun e w' => ∃ v', e = .returned v' ∧ w'.ownsRow B 5 1 v' (n + 2) (xs ++ [.int .u8 115, .int .u8 115]) ∧ ∃ o, (w.alloc o).grownBy w' v.ownBlock := by
  obtain ⟨i0, hi, hz0, hz1, hz2⟩ := info_parts info5
  rcases h with rfl | rfl
  all_goals
    go_enter Tryd.func51, Tryd.ntmps51
    go_wp2_with (at_builtin; refine wpList_append_own _ rfl _ _ 46 rfl B 5 i0 (.int .u8 0) 1 1 Tryd.underlying46 hi hz0 hz1 hz2 rfl (by decide) _ _ _ rfl (hown.alloc _) ⟨w.heap.size, 0, none⟩ 2 2 [.int .u8 115, .int .u8 115] rfl rfl ?c1 ?c2 ?c3 ?c4 ?c5 ?_)
    case c1 => exact lit_cells w [.int .u8 115, .int .u8 115] _
    case c2 => intro u hu; simp at hu; subst hu; rfl
    case c3 => unfold maxLen; omega
    case c4 => omega
    case c5 => simp; omega
    intro v' w2 hown' hgrow _
    go_wp2
    go_ret
    exact ⟨_, rfl, hown', _, hgrow⟩

/-- appendSmall, of every right character. -/
theorem small_any (B : Nat) (v : Value) (n : Nat) (xs : List Value) (r : Nat) (hr : Ok r) (w : World) (hown : w.ownsRow B 5 1 v n xs) (hlen : n + 4 ≤ 140737488355328) (hB : B ≤ w.heap.size) :
    Calls Tryd.prog 51 #[v, .int .i32 (r : Int)] w fun e w' => ∃ v', e = .returned v' ∧ w'.ownsRow B 5 1 v' (n + (encAll (smallR r)).length) (xs ++ Lib.byteCells (encAll (smallR r))) ∧ ∃ o, (w.alloc o).grownBy w' v.ownBlock := by
  by_cases hs : r = 223 ∨ r = 7838
  · have e1 : encAll (smallR r) = [115, 115] := by unfold smallR; rw [if_pos hs]; decide
    rw [e1]
    exact small_ss B v n xs r (by omega) w hown hlen hB
  · have e1 : encAll (smallR r) = enc (lower r) := by unfold smallR; rw [if_neg hs, encAll_cons, encAll_nil, List.append_nil]
    have e2 : (enc (lower r)).length = (Lib.runeCells ((lower r : Nat) : Int)).length := by rw [enc_cells, Lib.byteCells_length]
    rw [e1, e2, ← enc_cells]
    by_cases c1 : (65 ≤ r ∧ r ≤ 90) ∨ (192 ≤ r ∧ r ≤ 222 ∧ r ≠ 215) ∨ (913 ≤ r ∧ r ≤ 937) ∨ (1040 ≤ r ∧ r ≤ 1071)
    · have e3 : ((lower r : Nat) : Int) = (r : Int) + 32 := by unfold lower; rw [if_pos c1]; omega
      rw [e3]
      rcases c1 with c | c | c | c
      · exact small_a B v n xs r (by omega) (by omega) w hown hlen hB
      · exact small_b B v n xs r (by omega) (by omega) (by omega) w hown hlen hB
      · exact small_c B v n xs r (by omega) (by omega) w hown hlen hB
      · exact small_d B v n xs r (by omega) (by omega) w hown hlen hB
    · by_cases c2 : 1024 ≤ r ∧ r ≤ 1039
      · have e3 : ((lower r : Nat) : Int) = (r : Int) + 80 := by unfold lower; rw [if_neg c1, if_pos c2]; omega
        rw [e3]
        exact small_e B v n xs r (by omega) (by omega) w hown hlen hB
      · have e3 : ((lower r : Nat) : Int) = (r : Int) := by unfold lower; rw [if_neg c1, if_neg c2]
        rw [e3]
        by_cases c3 : r = 215
        · exact small_f B v n xs r (by omega) (by omega) w hown hlen hB
        · exact small_g B v n xs r (by omega) (by omega) (by omega) (by omega) (by omega) (by omega) (by omega) (by omega) w hown hlen hB

end Go.Proofs.YthpkoecpmbpnbaaDoor.run
