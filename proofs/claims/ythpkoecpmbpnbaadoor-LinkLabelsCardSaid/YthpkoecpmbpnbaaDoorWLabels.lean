/- LinkLabels: a label is what stands between its brackets; walked. -/
import Derived.Test.YthpkoecpmbpnbaaDoorWPlaces
set_option linter.unusedVariables false
namespace Go.Proofs.YthpkoecpmbpnbaaDoor
open Go.RowKit

theorem labels_facts (ws : List UInt8) (h10 : ∀ c ∈ ws, c ≠ 10) (hlen : (ws.flatMap markB').length ≤ 1050) (s1 : ByteArray) (h1 : s1.size ≤ 140737488351232) (T : ByteArray) (hT : T = ⟨(ws.flatMap markB').toArray⟩) :
    ∃ t x1 x2 x3 : ByteArray, (∀ w, (Op.stringOp .add (ByteArray.mk #[108]) T).run Tryd.prog w = .ok (.string t) w) ∧ ((∀ w, (Op.stringOp .add (ByteArray.mk #[91]) t).run Tryd.prog w = .ok (.string x1) w) ∧ (∀ w, (Op.stringOp .add x1 (ByteArray.mk #[93])).run Tryd.prog w = .ok (.string x2) w) ∧ (∀ w, (Op.stringOp .add x2 s1).run Tryd.prog w = .ok (.string x3) w)) ∧ (t.size : Int) ≤ 1051 ∧
      Hid (∀ w, Calls Tryd.prog 9 #[.string x1] w fun e w' => e = .returned (.tuple #[.string ⟨#[]⟩, .int .i64 0]) ∧ Below w.heap.size w w') ∧
      Hid (999 < (t.size : Int) → ∀ w, Calls Tryd.prog 9 #[.string x3] w fun e w' => e = .returned (.tuple #[.string ⟨#[]⟩, .int .i64 0]) ∧ Below w.heap.size w w') ∧
      Hid (¬ 999 < (t.size : Int) → ∀ w, Calls Tryd.prog 9 #[.string x3] w fun e w' => e = .returned (.tuple #[.string t, .int .i64 ((t.size : Int) + 2)]) ∧ Below w.heap.size w w') := by
  obtain ⟨t, p0, e0⟩ := add_to (ByteArray.mk #[108]) T [108] (ws.flatMap markB') rfl hT (by simp only [List.length_cons, List.length_nil]; omega)
  have e0' : t = ⟨(108 :: ws.flatMap markB').toArray⟩ := e0
  have hz : t.size = (ws.flatMap markB').length + 1 := by rw [e0', size_list]; rfl
  obtain ⟨x1, p1, e1⟩ := add_to (ByteArray.mk #[91]) t [91] (108 :: ws.flatMap markB') rfl e0' (by simp only [List.length_cons, List.length_nil]; omega)
  obtain ⟨x2, p2, e2⟩ := add_to x1 (ByteArray.mk #[93]) ([91] ++ 108 :: ws.flatMap markB') [93] e1 rfl (by simp only [List.length_append, List.length_cons, List.length_nil]; omega)
  obtain ⟨x3, p3, e3⟩ := add_to x2 s1 ([91] ++ 108 :: ws.flatMap markB' ++ [93]) s1.data.toList e2 (mk_data s1).symm (by rw [len_data]; simp only [List.length_append, List.length_cons, List.length_nil]; omega)
  have l1 : x1.data.toList = 91 :: 108 :: ws.flatMap markB' := by rw [e1, list_data]; rfl
  have l3 : x3.data.toList = 91 :: (108 :: ws.flatMap markB' ++ [93]) ++ s1.data.toList := by rw [e3, list_data]; rfl
  have z1 : x1.size ≤ 9223372036854775000 := by rw [← len_data, l1]; simp only [List.length_cons]; omega
  have z3 : x3.size ≤ 9223372036854775000 := by rw [← len_data, l3, List.length_append, len_data]; simp only [List.length_append, List.length_cons, List.length_nil]; omega
  refine ⟨t, x1, x2, x3, p0, ⟨p1, p2, p3⟩, by omega, fun w => ?_, fun hl w => ?_, fun hl w => ?_⟩
  · exact klabel_at x1 z1 [] 0 (by show _ = _; rw [l1, label_esc_open ws h10]; rfl) w
  · exact klabel_at x3 z3 [] 0 (by show _ = _; rw [l3, label_esc_long ws _ h10 (by omega)]; rfl) w
  · have := klabel_at x3 z3 (108 :: ws.flatMap markB') ((ws.flatMap markB').length + 3) (by show _ = _; rw [l3, label_esc_is ws _ h10 (by omega)]; rfl) w
    rw [← e0'] at this
    rw [hz]
    exact this

namespace linkLabels

set_option maxHeartbeats 4000000 in
set_option maxRecDepth 60000 in
theorem walk (s0 : ByteArray) (w0 : s0.size ≤ 140737488351232) (s1 : ByteArray) (w1 : s1.size ≤ 140737488351232) (w : World) :
    Calls Tryd.prog 6 #[.string s0, .string s1] w fun e w' => e = .returned (.bool true) ∧ Below w.heap.size w w' := by
  have HS := (show Hid _ from fun w => kshown_any w)
  have HE := (show Hid _ from fun w => kescaped_any s0 (by omega) 1049 (by omega) w)
  have W1 := (show Hid _ from w1)
  clear w1
  go_enter Tryd.func6, Tryd.ntmps6
  go_wp2_with (first
    | (go_at_call 8; refine (HS.out _).mono ?_; rintro e u1 ⟨rfl, hb1⟩)
    | (go_at_call 20; refine (HE.out _).mono ?_; rintro e u2 ⟨ws, rfl, h10, hlen, hb2⟩; generalize hT : ByteArray.mk (ws.flatMap markB').toArray = T; generalize hV : ByteArray.mk ws.toArray = V; obtain ⟨t, x1, x2, x3, a0, ⟨a1, a2, a3⟩, htz, K1, K2, K3⟩ := labels_facts ws h10 hlen s1 W1.out T hT.symm; clear hT hV h10 hlen; by_cases hlong : 999 < (t.size : Int))
    | (go_at_call_of 9 (Value.string x1); refine (K1.out _).mono ?_; rintro e u4 ⟨rfl, hb4⟩)
    | (go_at_call_of 9 (Value.string x3); first | (refine (K2.out hlong _).mono ?_; rintro e u3 ⟨rfl, hb3⟩) | (refine (K3.out hlong _).mono ?_; rintro e u3 ⟨rfl, hb3⟩)))
  all_goals go_ret
  · exact ⟨rfl, below_next (below_next hb1 hb2) hb3⟩
  · exact ⟨rfl, below_next (below_next (below_next hb1 hb2) hb3) hb4⟩

end linkLabels
end Go.Proofs.YthpkoecpmbpnbaaDoor
