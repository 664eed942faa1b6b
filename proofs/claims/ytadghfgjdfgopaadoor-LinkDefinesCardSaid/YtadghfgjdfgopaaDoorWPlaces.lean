/- LinkPlaces: where a link leads may be any text; walked. -/
import Derived.Test.YtadghfgjdfgopaaDoorKEsc
import Derived.Laws.Strings3
set_option linter.unusedVariables false
namespace Go.Proofs.YtadghfgjdfgopaaDoor
open Go.RowKit

theorem add_at (A B : List UInt8) (h : A.length + B.length ≤ 9223372036854775000) : ∀ w, (Op.stringOp .add (ByteArray.mk A.toArray) (ByteArray.mk B.toArray)).run Tryd.prog w = .ok (.string ⟨(A ++ B).toArray⟩) w := by
  intro w
  rw [← cat_eq]
  exact run_string_add_sum (w := w) _ _ (by rw [size_list, size_list]; omega)
theorem add_to (a b : ByteArray) (A B : List UInt8) (ha : a = ⟨A.toArray⟩) (hb : b = ⟨B.toArray⟩) (h : A.length + B.length ≤ 9223372036854775000) : ∃ x : ByteArray, (∀ w, (Op.stringOp .add a b).run Tryd.prog w = .ok (.string x) w) ∧ x = ⟨(A ++ B).toArray⟩ := by
  subst ha
  subst hb
  exact ⟨_, add_at A B h, rfl⟩

/-- Between two bytes, and something behind: the text as it is put together. -/
theorem between (a b : UInt8) (T s1 : ByteArray) (F : List UInt8) (hT : T = ⟨F.toArray⟩) (hF : F.length ≤ 2000) (h1 : s1.size ≤ 140737488351232) :
    ∃ x1 x2 x3 : ByteArray, (∀ w, (Op.stringOp .add (ByteArray.mk #[a]) T).run Tryd.prog w = .ok (.string x1) w) ∧ (∀ w, (Op.stringOp .add x1 (ByteArray.mk #[b])).run Tryd.prog w = .ok (.string x2) w) ∧ (∀ w, (Op.stringOp .add x2 s1).run Tryd.prog w = .ok (.string x3) w) ∧ Hid (x3.data.toList = a :: (F ++ [b]) ++ s1.data.toList) ∧ Hid (x3.size ≤ 140737488355000) := by
  obtain ⟨x1, p1, e1⟩ := add_to (ByteArray.mk #[a]) T [a] F rfl hT (by simp; omega)
  obtain ⟨x2, p2, e2⟩ := add_to x1 (ByteArray.mk #[b]) ([a] ++ F) [b] e1 rfl (by simp; omega)
  obtain ⟨x3, p3, e3⟩ := add_to x2 s1 ([a] ++ F ++ [b]) s1.data.toList e2 (mk_data s1).symm (by rw [len_data]; simp; omega)
  refine ⟨x1, x2, x3, p1, p2, p3, ?_, ?_⟩
  · show _ = _
    rw [e3, list_data]
    simp
  · show _ ≤ _
    rw [e3, size_list, List.length_append, len_data]
    simp
    omega

theorem two_as {f : FuncId} {x V T : ByteArray} {F ws : List UInt8} (hV : V = ⟨ws.toArray⟩) (hT : T = ⟨F.toArray⟩) (h : ∀ w, Calls Tryd.prog f #[.string x] w fun e w' => e = .returned (.tuple #[.string ⟨ws.toArray⟩, .int .i64 ((F.length + 2 : Nat) : Int)]) ∧ Below w.heap.size w w') :
    Hid (∀ w, Calls Tryd.prog f #[.string x] w fun e w' => e = .returned (.tuple #[.string V, .int .i64 ((T.size : Int) + 2)]) ∧ Below w.heap.size w w') := by
  subst hV
  subst hT
  rw [size_list]
  exact h

theorem places_facts (ws : List UInt8) (h10 : ∀ c ∈ ws, c ≠ 10) (hlen : (ws.flatMap markB').length ≤ 601) (s1 : ByteArray) (h1 : s1.size ≤ 140737488351232) (T V : ByteArray) (hT : T = ⟨(ws.flatMap markB').toArray⟩) (hV : V = ⟨ws.toArray⟩) :
    ∃ x1 x2 x3 y1 y2 y3 z1 z2 z3 q1 q2 q3 : ByteArray, ((∀ w, (Op.stringOp .add (ByteArray.mk #[60]) T).run Tryd.prog w = .ok (.string x1) w) ∧ (∀ w, (Op.stringOp .add x1 (ByteArray.mk #[62])).run Tryd.prog w = .ok (.string x2) w) ∧ (∀ w, (Op.stringOp .add x2 s1).run Tryd.prog w = .ok (.string x3) w)) ∧ ((∀ w, (Op.stringOp .add (ByteArray.mk #[34]) T).run Tryd.prog w = .ok (.string y1) w) ∧ (∀ w, (Op.stringOp .add y1 (ByteArray.mk #[34])).run Tryd.prog w = .ok (.string y2) w) ∧ (∀ w, (Op.stringOp .add y2 s1).run Tryd.prog w = .ok (.string y3) w)) ∧ ((∀ w, (Op.stringOp .add (ByteArray.mk #[40]) T).run Tryd.prog w = .ok (.string z1) w) ∧ (∀ w, (Op.stringOp .add z1 (ByteArray.mk #[41])).run Tryd.prog w = .ok (.string z2) w) ∧ (∀ w, (Op.stringOp .add z2 s1).run Tryd.prog w = .ok (.string z3) w)) ∧ ((∀ w, (Op.stringOp .add (ByteArray.mk #[39]) T).run Tryd.prog w = .ok (.string q1) w) ∧ (∀ w, (Op.stringOp .add q1 (ByteArray.mk #[39])).run Tryd.prog w = .ok (.string q2) w) ∧ (∀ w, (Op.stringOp .add q2 s1).run Tryd.prog w = .ok (.string q3) w)) ∧
      Hid (∀ w, Calls Tryd.prog 11 #[.string x3] w fun e w' => e = .returned (.tuple #[.string V, .int .i64 ((T.size : Int) + 2)]) ∧ Below w.heap.size w w') ∧ Hid (∀ w, Calls Tryd.prog 13 #[.string y3] w fun e w' => e = .returned (.tuple #[.string V, .int .i64 ((T.size : Int) + 2)]) ∧ Below w.heap.size w w') ∧ Hid (∀ w, Calls Tryd.prog 13 #[.string z3] w fun e w' => e = .returned (.tuple #[.string V, .int .i64 ((T.size : Int) + 2)]) ∧ Below w.heap.size w w') ∧ Hid (∀ w, Calls Tryd.prog 13 #[.string q3] w fun e w' => e = .returned (.tuple #[.string V, .int .i64 ((T.size : Int) + 2)]) ∧ Below w.heap.size w w') := by
  obtain ⟨x1, x2, x3, a1, a2, a3, a4, a5⟩ := between 60 62 T s1 _ hT (by omega) h1
  obtain ⟨y1, y2, y3, b1, b2, b3, b4, b5⟩ := between 34 34 T s1 _ hT (by omega) h1
  obtain ⟨z1, z2, z3, c1, c2, c3, c4, c5⟩ := between 40 41 T s1 _ hT (by omega) h1
  obtain ⟨q1, q2, q3, d1, d2, d3, d4, d5⟩ := between 39 39 T s1 _ hT (by omega) h1
  have a5' := a5.out
  have b5' := b5.out
  have c5' := c5.out
  have d5' := d5.out
  refine ⟨x1, x2, x3, y1, y2, y3, z1, z2, z3, q1, q2, q3, ⟨a1, a2, a3⟩, ⟨b1, b2, b3⟩, ⟨c1, c2, c3⟩, ⟨d1, d2, d3⟩, two_as hV hT (fun w => ?_), two_as hV hT (fun w => ?_), two_as hV hT (fun w => ?_), two_as hV hT (fun w => ?_)⟩
  · exact kdest_at x3 (by omega) ws _ (by omega) (by show _ = _; rw [a4.out, dest_esc_is ws _ h10]; rfl) w
  · exact ktitle_at y3 (by omega) ws _ (by omega) (by show _ = _; rw [b4.out]; have := title_esc_is (a := 34) (.inl rfl) ws s1.data.toList h10; rw [if_neg (by decide)] at this; rw [this]; rfl) w
  · exact ktitle_at z3 (by omega) ws _ (by omega) (by show _ = _; rw [c4.out]; have := title_esc_is (a := 40) (.inr (.inr rfl)) ws s1.data.toList h10; rw [if_pos rfl] at this; rw [this]; rfl) w
  · exact ktitle_at q3 (by omega) ws _ (by omega) (by show _ = _; rw [d4.out]; have := title_esc_is (a := 39) (.inr (.inl rfl)) ws s1.data.toList h10; rw [if_neg (by decide)] at this; rw [this]; rfl) w

namespace linkPlaces

set_option maxHeartbeats 4000000 in
set_option maxRecDepth 60000 in
theorem walk (s0 : ByteArray) (w0 : s0.size ≤ 140737488351232) (s1 : ByteArray) (w1 : s1.size ≤ 140737488351232) (w : World) :
    Calls Tryd.prog 7 #[.string s0, .string s1] w fun e w' => e = .returned (.bool true) ∧ Below w.heap.size w w' := by
  have HS := (show Hid _ from fun w => kshown_any w)
  have HE := (show Hid _ from fun w => kescaped_any s0 (by omega) 600 (by omega) w)
  have W1 := (show Hid _ from w1)
  clear w1
  go_enter Tryd.func7, Tryd.ntmps7
  go_wp2_with (first
    | (go_at_call 8; refine (HS.out _).mono ?_; rintro e u1 ⟨rfl, hb1⟩)
    | (go_at_call 20; refine (HE.out _).mono ?_; rintro e u2 ⟨ws, rfl, h10, hlen, hb2⟩; generalize hT : ByteArray.mk (ws.flatMap markB').toArray = T; generalize hV : ByteArray.mk ws.toArray = V; have hTz : T.size ≤ 601 := (by rw [← hT, size_list]; exact hlen); obtain ⟨x1, x2, x3, y1, y2, y3, z1, z2, z3, q1, q2, q3, ⟨a1, a2, a3⟩, ⟨b1, b2, b3⟩, ⟨c1, c2, c3⟩, ⟨d1, d2, d3⟩, K1, K2, K3, K4⟩ := places_facts ws h10 hlen s1 W1.out T V hT.symm hV.symm; clear hT hV h10 hlen)
    | (go_at_call 11; refine (K1.out _).mono ?_; rintro e u3 ⟨rfl, hb3⟩)
    | (go_at_call_of 13 (Value.string y3); refine (K2.out _).mono ?_; rintro e u4 ⟨rfl, hb4⟩)
    | (go_at_call_of 13 (Value.string z3); refine (K3.out _).mono ?_; rintro e u5 ⟨rfl, hb5⟩)
    | (go_at_call_of 13 (Value.string q3); refine (K4.out _).mono ?_; rintro e u6 ⟨rfl, hb6⟩))
  go_ret
  exact ⟨rfl, below_next (below_next (below_next (below_next (below_next hb1 hb2) hb3) hb4) hb5) hb6⟩

end linkPlaces
end Go.Proofs.YtadghfgjdfgopaaDoor
