/- SpanTells: the code and the document's answer tell the same of every text that is not too long; walked. -/
import Derived.Test.YtegjpfhpkkffiaaDoorRRaw
import Derived.Test.YtegjpfhpkkffiaaDoorRCode
import Derived.Test.YtegjpfhpkkffiaaDoorRAuto
import Derived.Test.YtegjpfhpkkffiaaDoorSFwd
set_option linter.unusedVariables false
namespace Go.Proofs.YtegjpfhpkkffiaaDoor
open Go.RowKit

set_option maxHeartbeats 4000000 in
set_option maxRecDepth 8000 in
theorem spanTells.walk (s : ByteArray) (hs : s.size ≤ 1048576) (w : World) (hm : ML w) :
    Calls Tryd.prog 3 #[.string s] w fun e w' => e = .returned (.bool true) ∧ Below w.heap.size w w' := by
  obtain ⟨A, n, hc⟩ : ∃ (A : ByteArray) (n : Int), codeV (codeL s.data.toList) = .tuple #[.string A, .int .i64 n] := by
    cases codeL s.data.toList with
    | none => exact ⟨_, _, rfl⟩
    | some x => exact ⟨_, _, rfl⟩
  obtain ⟨D, U, k, ha⟩ : ∃ (D U : ByteArray) (k : Int), autoV (autoL s.data.toList) = .tuple #[.string D, .string U, .int .i64 k] := by
    cases autoL s.data.toList with
    | none => exact ⟨_, _, _, rfl⟩
    | some x => exact ⟨_, _, _, rfl⟩
  have HS : Hid (Ans w 9 #[] (.bool true)) := ans_shown w
  have H1 : Hid (Ans w 10 #[.string s] (.tuple #[.string A, .int .i64 n])) := by
    have := ans_code w (s := s) (by omega) rfl
    rw [hc] at this
    exact this
  have H2 : Hid (Ans w 11 #[.string s] (.tuple #[.string A, .int .i64 n])) := fwd_below (fun w _ => by
    have := rcode_any s (by omega) w
    rw [hc] at this
    exact this) w
  have H3 : Hid (Ans w 12 #[.string s] (.tuple #[.string D, .string U, .int .i64 k])) := by
    have := ans_auto w (s := s) (by omega) rfl
    rw [ha] at this
    exact this
  have H4 : Hid (Ans w 13 #[.string s] (.tuple #[.string D, .string U, .int .i64 k])) := fwd_same (fun w => by
    have := rauto_any s (by omega) w
    rw [ha] at this
    exact this) w
  have H5 : Hid (Ans w 14 #[.string s] (.int .i64 (tagN s.data.toList : Int))) := ans_tag w (by omega) rfl
  have H6 : Hid (Ans w 15 #[.string s] (.int .i64 (tagN s.data.toList : Int))) := fwd_same (fun w => rtag_any s (by omega) w) w
  have H7 : Hid (Ans w 16 #[.string s] (.int .i64 (rawN s.data.toList : Int))) := ans_raw w (by omega) rfl
  have H8 : Hid (Ans w 17 #[.string s] (.int .i64 (rawN s.data.toList : Int))) := fwd_same (fun w => rraw_any s (by omega) w) w
  have h0 := Fwd.start hm
  clear hc ha
  generalize tagN s.data.toList = t at *
  generalize rawN s.data.toList = r at *
  go_enter Tryd.func3, Tryd.ntmps3
  go_wp2_with (first
    | (go_at_call 9; refine (HS.out _ h0).mono ?_; rintro e w1 ⟨rfl, h1⟩)
    | (go_at_call 10; refine (H1.out _ h1).mono ?_; rintro e w2 ⟨rfl, h2⟩)
    | (go_at_call 11; refine (H2.out _ h2).mono ?_; rintro e w3 ⟨rfl, h3⟩)
    | (go_at_call 12; refine (H3.out _ h3).mono ?_; rintro e w4 ⟨rfl, h4⟩)
    | (go_at_call 13; refine (H4.out _ h4).mono ?_; rintro e w5 ⟨rfl, h5⟩)
    | (go_at_call 14; refine (H5.out _ h5).mono ?_; rintro e w6 ⟨rfl, h6⟩)
    | (go_at_call 15; refine (H6.out _ h6).mono ?_; rintro e w7 ⟨rfl, h7⟩)
    | (go_at_call 16; refine (H7.out _ h7).mono ?_; rintro e w8 ⟨rfl, h8⟩)
    | (go_at_call 17; refine (H8.out _ h8).mono ?_; rintro e w9 ⟨rfl, h9⟩))
  go_ret
  exact ⟨rfl, h9.2⟩

end Go.Proofs.YtegjpfhpkkffiaaDoor
