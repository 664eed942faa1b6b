/- SpanFront, walked: what stands behind does not matter. -/
import Derived.Test.YtkbanlhjeedeeaaDoorWFrontP
set_option linter.unusedVariables false
namespace Go.Proofs.YtkbanlhjeedeeaaDoor.spanFront
open Go.RowKit

set_option maxHeartbeats 8000000 in
set_option maxRecDepth 8000 in
theorem walk0000 (s0 s1 : ByteArray) (z0 : (s0.size : Int) + (s1.size : Int) ≤ 9000000000000000000) (w : World) (h0 : Fwd w w) (HS : Hid (Ans w 9 #[] (.bool true))) (A : ByteArray) (HC : Hid (Ans w 10 #[.string s0] (.tuple #[.string A, .int .i64 0]))) (HT : Hid (Ans w 14 #[.string s0] (.int .i64 0))) (HR : Hid (Ans w 16 #[.string s0] (.int .i64 0))) (HA : Hid (Ans w 12 #[.string s0] (.tuple #[.string ⟨#[]⟩, .string ⟨#[]⟩, .int .i64 0]))) :
    Calls Tryd.prog 4 #[.string s0, .string s1] w fun e w' => e = .returned (.bool true) ∧ Below w.heap.size w w' := by
  go_enter Tryd.func4, Tryd.ntmps4
  go_wp2_with (go_at_call 9; refine (HS.out _ h0).mono ?_; rintro e w1 ⟨rfl, h1⟩)
  clear h0
  go_wp2_with (go_at_call_of 10 (Value.string s0); refine (HC.out _ h1).mono ?_; rintro e w2 ⟨rfl, h2⟩)
  clear h1
  go_wp2_with (go_at_call_of 14 (Value.string s0); refine (HT.out _ h2).mono ?_; rintro e w3 ⟨rfl, h3⟩)
  clear h2
  go_wp2_with (go_at_call_of 16 (Value.string s0); refine (HR.out _ h3).mono ?_; rintro e w4 ⟨rfl, h4⟩)
  clear h3
  go_wp2_with (go_at_call_of 12 (Value.string s0); refine (HA.out _ h4).mono ?_; rintro e w5 ⟨rfl, h5⟩)
  clear h4
  go_wp2
  go_ret
  have hz := h5.2
  refine ⟨?_, hz⟩
  kernel_rfl

set_option maxHeartbeats 8000000 in
set_option maxRecDepth 8000 in
theorem walk0001 (s0 s1 : ByteArray) (z0 : (s0.size : Int) + (s1.size : Int) ≤ 9000000000000000000) (w : World) (h0 : Fwd w w) (HS : Hid (Ans w 9 #[] (.bool true))) (A : ByteArray) (HC : Hid (Ans w 10 #[.string s0] (.tuple #[.string A, .int .i64 0]))) (HT : Hid (Ans w 14 #[.string s0] (.int .i64 0))) (HR : Hid (Ans w 16 #[.string s0] (.int .i64 0))) (D U : ByteArray) (k : Nat) (k1 : (2 : Int) ≤ k) (k2 : (k : Int) ≤ s0.size) (HA : Hid (Ans w 12 #[.string s0] (.tuple #[.string D, .string U, .int .i64 (k : Int)]))) (HA1 : Hid (Ans w 12 #[.string (s0.extract 0 k ++ s1)] (.tuple #[.string D, .string U, .int .i64 (k : Int)]))) (m1 : s0.extract 1 (k - 1) = U) :
    Calls Tryd.prog 4 #[.string s0, .string s1] w fun e w' => e = .returned (.bool true) ∧ Below w.heap.size w w' := by
  go_enter Tryd.func4, Tryd.ntmps4
  go_wp2_with (go_at_call 9; refine (HS.out _ h0).mono ?_; rintro e w1 ⟨rfl, h1⟩)
  clear h0
  go_wp2_with (go_at_call_of 10 (Value.string s0); refine (HC.out _ h1).mono ?_; rintro e w2 ⟨rfl, h2⟩)
  clear h1
  go_wp2_with (go_at_call_of 14 (Value.string s0); refine (HT.out _ h2).mono ?_; rintro e w3 ⟨rfl, h3⟩)
  clear h2
  go_wp2_with (go_at_call_of 16 (Value.string s0); refine (HR.out _ h3).mono ?_; rintro e w4 ⟨rfl, h4⟩)
  clear h3
  go_wp2_with (go_at_call_of 12 (Value.string s0); refine (HA.out _ h4).mono ?_; rintro e w5 ⟨rfl, h5⟩)
  clear h4
  go_wp2_with (go_at_call_of 12 (Value.string (s0.extract 0 k ++ s1)); refine (HA1.out _ h5).mono ?_; rintro e w6 ⟨rfl, h6⟩)
  clear h5
  go_wp2
  go_ret
  have hz := h6.2
  refine ⟨?_, hz⟩
  kernel_rfl

set_option maxHeartbeats 8000000 in
set_option maxRecDepth 8000 in
theorem walk0010 (s0 s1 : ByteArray) (z0 : (s0.size : Int) + (s1.size : Int) ≤ 9000000000000000000) (w : World) (h0 : Fwd w w) (HS : Hid (Ans w 9 #[] (.bool true))) (A : ByteArray) (HC : Hid (Ans w 10 #[.string s0] (.tuple #[.string A, .int .i64 0]))) (HT : Hid (Ans w 14 #[.string s0] (.int .i64 0))) (r : Nat) (r1 : (0 : Int) < r) (r2 : (r : Int) ≤ s0.size) (HR : Hid (Ans w 16 #[.string s0] (.int .i64 (r : Int)))) (HR1 : Hid (Ans w 16 #[.string (s0.extract 0 r)] (.int .i64 (r : Int)))) (HR2 : Hid (Ans w 16 #[.string (s0.extract 0 r ++ s1)] (.int .i64 (r : Int)))) (g0 : 0 < s0.size) (g1 : s0[0] = 60) (g2 : r - 1 < s0.size) (g3 : s0[r - 1] = 62) (HA : Hid (Ans w 12 #[.string s0] (.tuple #[.string ⟨#[]⟩, .string ⟨#[]⟩, .int .i64 0]))) :
    Calls Tryd.prog 4 #[.string s0, .string s1] w fun e w' => e = .returned (.bool true) ∧ Below w.heap.size w w' := by
  go_enter Tryd.func4, Tryd.ntmps4
  go_wp2_with (go_at_call 9; refine (HS.out _ h0).mono ?_; rintro e w1 ⟨rfl, h1⟩)
  clear h0
  go_wp2_with (go_at_call_of 10 (Value.string s0); refine (HC.out _ h1).mono ?_; rintro e w2 ⟨rfl, h2⟩)
  clear h1
  go_wp2_with (go_at_call_of 14 (Value.string s0); refine (HT.out _ h2).mono ?_; rintro e w3 ⟨rfl, h3⟩)
  clear h2
  go_wp2_with (go_at_call_of 16 (Value.string s0); refine (HR.out _ h3).mono ?_; rintro e w4 ⟨rfl, h4⟩)
  clear h3
  go_wp2_with (go_at_call_of 16 (Value.string (s0.extract 0 r)); refine (HR1.out _ h4).mono ?_; rintro e w5 ⟨rfl, h5⟩)
  clear h4
  go_wp2_with (go_at_call_of 16 (Value.string (s0.extract 0 r ++ s1)); refine (HR2.out _ h5).mono ?_; rintro e w6 ⟨rfl, h6⟩)
  clear h5
  go_wp2_with (go_at_call_of 12 (Value.string s0); refine (HA.out _ h6).mono ?_; rintro e w7 ⟨rfl, h7⟩)
  clear h6
  go_wp2
  go_ret
  have hz := h7.2
  refine ⟨?_, hz⟩
  kernel_rfl

set_option maxHeartbeats 8000000 in
set_option maxRecDepth 8000 in
theorem walk0011 (s0 s1 : ByteArray) (z0 : (s0.size : Int) + (s1.size : Int) ≤ 9000000000000000000) (w : World) (h0 : Fwd w w) (HS : Hid (Ans w 9 #[] (.bool true))) (A : ByteArray) (HC : Hid (Ans w 10 #[.string s0] (.tuple #[.string A, .int .i64 0]))) (HT : Hid (Ans w 14 #[.string s0] (.int .i64 0))) (r : Nat) (r1 : (0 : Int) < r) (r2 : (r : Int) ≤ s0.size) (HR : Hid (Ans w 16 #[.string s0] (.int .i64 (r : Int)))) (HR1 : Hid (Ans w 16 #[.string (s0.extract 0 r)] (.int .i64 (r : Int)))) (HR2 : Hid (Ans w 16 #[.string (s0.extract 0 r ++ s1)] (.int .i64 (r : Int)))) (g0 : 0 < s0.size) (g1 : s0[0] = 60) (g2 : r - 1 < s0.size) (g3 : s0[r - 1] = 62) (D U : ByteArray) (k : Nat) (k1 : (2 : Int) ≤ k) (k2 : (k : Int) ≤ s0.size) (HA : Hid (Ans w 12 #[.string s0] (.tuple #[.string D, .string U, .int .i64 (k : Int)]))) (HA1 : Hid (Ans w 12 #[.string (s0.extract 0 k ++ s1)] (.tuple #[.string D, .string U, .int .i64 (k : Int)]))) (m1 : s0.extract 1 (k - 1) = U) :
    Calls Tryd.prog 4 #[.string s0, .string s1] w fun e w' => e = .returned (.bool true) ∧ Below w.heap.size w w' := by
  go_enter Tryd.func4, Tryd.ntmps4
  go_wp2_with (go_at_call 9; refine (HS.out _ h0).mono ?_; rintro e w1 ⟨rfl, h1⟩)
  clear h0
  go_wp2_with (go_at_call_of 10 (Value.string s0); refine (HC.out _ h1).mono ?_; rintro e w2 ⟨rfl, h2⟩)
  clear h1
  go_wp2_with (go_at_call_of 14 (Value.string s0); refine (HT.out _ h2).mono ?_; rintro e w3 ⟨rfl, h3⟩)
  clear h2
  go_wp2_with (go_at_call_of 16 (Value.string s0); refine (HR.out _ h3).mono ?_; rintro e w4 ⟨rfl, h4⟩)
  clear h3
  go_wp2_with (go_at_call_of 16 (Value.string (s0.extract 0 r)); refine (HR1.out _ h4).mono ?_; rintro e w5 ⟨rfl, h5⟩)
  clear h4
  go_wp2_with (go_at_call_of 16 (Value.string (s0.extract 0 r ++ s1)); refine (HR2.out _ h5).mono ?_; rintro e w6 ⟨rfl, h6⟩)
  clear h5
  go_wp2_with (go_at_call_of 12 (Value.string s0); refine (HA.out _ h6).mono ?_; rintro e w7 ⟨rfl, h7⟩)
  clear h6
  go_wp2_with (go_at_call_of 12 (Value.string (s0.extract 0 k ++ s1)); refine (HA1.out _ h7).mono ?_; rintro e w8 ⟨rfl, h8⟩)
  clear h7
  go_wp2
  go_ret
  have hz := h8.2
  refine ⟨?_, hz⟩
  kernel_rfl

set_option maxHeartbeats 8000000 in
set_option maxRecDepth 8000 in
theorem walk0110 (s0 s1 : ByteArray) (z0 : (s0.size : Int) + (s1.size : Int) ≤ 9000000000000000000) (w : World) (h0 : Fwd w w) (HS : Hid (Ans w 9 #[] (.bool true))) (A : ByteArray) (HC : Hid (Ans w 10 #[.string s0] (.tuple #[.string A, .int .i64 0]))) (t : Nat) (t1 : (0 : Int) < t) (t2 : (t : Int) ≤ s0.size) (HT : Hid (Ans w 14 #[.string s0] (.int .i64 (t : Int)))) (HT1 : Hid (Ans w 14 #[.string (s0.extract 0 t)] (.int .i64 (t : Int)))) (HT2 : Hid (Ans w 14 #[.string (s0.extract 0 t ++ s1)] (.int .i64 (t : Int)))) (HR : Hid (Ans w 16 #[.string s0] (.int .i64 (t : Int)))) (HR1 : Hid (Ans w 16 #[.string (s0.extract 0 t)] (.int .i64 (t : Int)))) (HR2 : Hid (Ans w 16 #[.string (s0.extract 0 t ++ s1)] (.int .i64 (t : Int)))) (g0 : 0 < s0.size) (g1 : s0[0] = 60) (g2 : t - 1 < s0.size) (g3 : s0[t - 1] = 62) (HA : Hid (Ans w 12 #[.string s0] (.tuple #[.string ⟨#[]⟩, .string ⟨#[]⟩, .int .i64 0]))) :
    Calls Tryd.prog 4 #[.string s0, .string s1] w fun e w' => e = .returned (.bool true) ∧ Below w.heap.size w w' := by
  go_enter Tryd.func4, Tryd.ntmps4
  go_wp2_with (go_at_call 9; refine (HS.out _ h0).mono ?_; rintro e w1 ⟨rfl, h1⟩)
  clear h0
  go_wp2_with (go_at_call_of 10 (Value.string s0); refine (HC.out _ h1).mono ?_; rintro e w2 ⟨rfl, h2⟩)
  clear h1
  go_wp2_with (go_at_call_of 14 (Value.string s0); refine (HT.out _ h2).mono ?_; rintro e w3 ⟨rfl, h3⟩)
  clear h2
  go_wp2_with (go_at_call_of 16 (Value.string s0); refine (HR.out _ h3).mono ?_; rintro e w4 ⟨rfl, h4⟩)
  clear h3
  go_wp2_with (go_at_call_of 14 (Value.string (s0.extract 0 t)); refine (HT1.out _ h4).mono ?_; rintro e w5 ⟨rfl, h5⟩)
  clear h4
  go_wp2_with (go_at_call_of 14 (Value.string (s0.extract 0 t ++ s1)); refine (HT2.out _ h5).mono ?_; rintro e w6 ⟨rfl, h6⟩)
  clear h5
  go_wp2_with (go_at_call_of 16 (Value.string (s0.extract 0 t)); refine (HR1.out _ h6).mono ?_; rintro e w7 ⟨rfl, h7⟩)
  clear h6
  go_wp2_with (go_at_call_of 16 (Value.string (s0.extract 0 t ++ s1)); refine (HR2.out _ h7).mono ?_; rintro e w8 ⟨rfl, h8⟩)
  clear h7
  go_wp2_with (go_at_call_of 12 (Value.string s0); refine (HA.out _ h8).mono ?_; rintro e w9 ⟨rfl, h9⟩)
  clear h8
  go_wp2
  go_ret
  have hz := h9.2
  refine ⟨?_, hz⟩
  kernel_rfl

set_option maxHeartbeats 8000000 in
set_option maxRecDepth 8000 in
theorem walk0111 (s0 s1 : ByteArray) (z0 : (s0.size : Int) + (s1.size : Int) ≤ 9000000000000000000) (w : World) (h0 : Fwd w w) (HS : Hid (Ans w 9 #[] (.bool true))) (A : ByteArray) (HC : Hid (Ans w 10 #[.string s0] (.tuple #[.string A, .int .i64 0]))) (t : Nat) (t1 : (0 : Int) < t) (t2 : (t : Int) ≤ s0.size) (HT : Hid (Ans w 14 #[.string s0] (.int .i64 (t : Int)))) (HT1 : Hid (Ans w 14 #[.string (s0.extract 0 t)] (.int .i64 (t : Int)))) (HT2 : Hid (Ans w 14 #[.string (s0.extract 0 t ++ s1)] (.int .i64 (t : Int)))) (HR : Hid (Ans w 16 #[.string s0] (.int .i64 (t : Int)))) (HR1 : Hid (Ans w 16 #[.string (s0.extract 0 t)] (.int .i64 (t : Int)))) (HR2 : Hid (Ans w 16 #[.string (s0.extract 0 t ++ s1)] (.int .i64 (t : Int)))) (g0 : 0 < s0.size) (g1 : s0[0] = 60) (g2 : t - 1 < s0.size) (g3 : s0[t - 1] = 62) (D U : ByteArray) (k : Nat) (k1 : (2 : Int) ≤ k) (k2 : (k : Int) ≤ s0.size) (HA : Hid (Ans w 12 #[.string s0] (.tuple #[.string D, .string U, .int .i64 (k : Int)]))) (HA1 : Hid (Ans w 12 #[.string (s0.extract 0 k ++ s1)] (.tuple #[.string D, .string U, .int .i64 (k : Int)]))) (m1 : s0.extract 1 (k - 1) = U) :
    Calls Tryd.prog 4 #[.string s0, .string s1] w fun e w' => e = .returned (.bool true) ∧ Below w.heap.size w w' := by
  go_enter Tryd.func4, Tryd.ntmps4
  go_wp2_with (go_at_call 9; refine (HS.out _ h0).mono ?_; rintro e w1 ⟨rfl, h1⟩)
  clear h0
  go_wp2_with (go_at_call_of 10 (Value.string s0); refine (HC.out _ h1).mono ?_; rintro e w2 ⟨rfl, h2⟩)
  clear h1
  go_wp2_with (go_at_call_of 14 (Value.string s0); refine (HT.out _ h2).mono ?_; rintro e w3 ⟨rfl, h3⟩)
  clear h2
  go_wp2_with (go_at_call_of 16 (Value.string s0); refine (HR.out _ h3).mono ?_; rintro e w4 ⟨rfl, h4⟩)
  clear h3
  go_wp2_with (go_at_call_of 14 (Value.string (s0.extract 0 t)); refine (HT1.out _ h4).mono ?_; rintro e w5 ⟨rfl, h5⟩)
  clear h4
  go_wp2_with (go_at_call_of 14 (Value.string (s0.extract 0 t ++ s1)); refine (HT2.out _ h5).mono ?_; rintro e w6 ⟨rfl, h6⟩)
  clear h5
  go_wp2_with (go_at_call_of 16 (Value.string (s0.extract 0 t)); refine (HR1.out _ h6).mono ?_; rintro e w7 ⟨rfl, h7⟩)
  clear h6
  go_wp2_with (go_at_call_of 16 (Value.string (s0.extract 0 t ++ s1)); refine (HR2.out _ h7).mono ?_; rintro e w8 ⟨rfl, h8⟩)
  clear h7
  go_wp2_with (go_at_call_of 12 (Value.string s0); refine (HA.out _ h8).mono ?_; rintro e w9 ⟨rfl, h9⟩)
  clear h8
  go_wp2_with (go_at_call_of 12 (Value.string (s0.extract 0 k ++ s1)); refine (HA1.out _ h9).mono ?_; rintro e w10 ⟨rfl, h10⟩)
  clear h9
  go_wp2
  go_ret
  have hz := h10.2
  refine ⟨?_, hz⟩
  kernel_rfl

end Go.Proofs.YtkbanlhjeedeeaaDoor.spanFront
