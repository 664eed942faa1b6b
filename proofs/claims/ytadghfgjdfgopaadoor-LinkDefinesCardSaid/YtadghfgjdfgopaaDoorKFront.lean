/- LinkFront: what the walk leans on. -/
import Derived.Test.YtadghfgjdfgopaaDoorWPlaces
import Derived.Test.YtadghfgjdfgopaaDoorRunRef
set_option linter.unusedVariables false
namespace Go.Proofs.YtadghfgjdfgopaaDoor
open Go.RowKit

abbrev Told2 (f : FuncId) (x : ByteArray) (A : ByteArray) (i : Nat) : Prop := ∀ w, Calls Tryd.prog f #[.string x] w fun e w' => e = .returned (.tuple #[.string A, .int .i64 (i : Int)]) ∧ Below w.heap.size w w'

theorem ext_front {s : ByteArray} {p r : List UInt8} (h : s.data.toList = p ++ r) : s.extract 0 p.length = ⟨p.toArray⟩ := by
  rw [extract_eq, h]
  simp

theorem front_label (s0 s1 : ByteArray) (w0 : s0.size ≤ 140737488351232) (w1 : s1.size ≤ 140737488351232) :
    ∃ (A : ByteArray) (i : Nat), Hid (Told2 9 s0 A i) ∧ Hid (i ≤ s0.size) ∧ Hid (0 < i → 2 ≤ i ∧ ∃ x y, s0.extract 0 i = x ∧ (∀ w, (Op.stringOp .add x s1).run Tryd.prog w = .ok (.string y) w) ∧ Hid (Told2 9 y A i) ∧ s0.extract 1 (i - 1) = A) := by
  cases h : labelL s0.data.toList with
  | none => exact ⟨⟨#[]⟩, 0, (fun w => klabel_at s0 (by omega) [] 0 (by show _ = _; rw [h]; rfl) w), Nat.zero_le _, (fun x => absurd x (Nat.lt_irrefl _))⟩
  | some ui =>
    obtain ⟨u, i⟩ := ui
    obtain ⟨hi, _, _, r, hs, hy⟩ := label_is h
    have hl := congrArg List.length hs
    rw [len_data, List.length_append] at hl
    have hlp : (91 :: u ++ [93]).length = i := by simp; omega
    rw [hlp] at hl
    refine ⟨⟨u.toArray⟩, i, (fun w => klabel_at s0 (by omega) u i (by show _ = _; rw [h]; rfl) w), (show i ≤ s0.size by omega), fun _ => ⟨by omega, ?_⟩⟩
    have hx := ext_front hs
    rw [hlp] at hx
    obtain ⟨y, p1, e1⟩ := add_to (s0.extract 0 i) s1 (91 :: u ++ [93]) s1.data.toList hx (mk_data s1).symm (by rw [hlp, len_data]; omega)
    refine ⟨_, y, rfl, p1, fun w => klabel_at y (by rw [e1, size_list, List.length_append, hlp, len_data]; omega) u i (by show _ = _; rw [e1, list_data, hy]; rfl) w, ?_⟩
    rw [extract_eq, hs]
    congr 2
    rw [hi]
    simp

theorem front_dest (s0 s1 : ByteArray) (w0 : s0.size ≤ 140737488351232) (w1 : s1.size ≤ 140737488351232) :
    ∃ (A : ByteArray) (i : Nat), Hid (Told2 11 s0 A i) ∧ Hid (i ≤ s0.size) ∧ Hid (0 < i → ∃ x y z, s0.extract 0 i = x ∧ (∀ w, (Op.stringOp .add x (ByteArray.mk #[32])).run Tryd.prog w = .ok (.string y) w) ∧ (∀ w, (Op.stringOp .add y s1).run Tryd.prog w = .ok (.string z) w) ∧ Hid (Told2 11 z A i)) := by
  cases h : destL s0.data.toList with
  | none => exact ⟨⟨#[]⟩, 0, (fun w => kdest_at s0 (by omega) [] 0 (by omega) (by show _ = _; rw [h]; rfl) w), Nat.zero_le _, (fun x => absurd x (Nat.lt_irrefl _))⟩
  | some ui =>
    obtain ⟨d, i⟩ := ui
    obtain ⟨hi, q, r, hs, hq, hy⟩ := dest_is h
    have hl := congrArg List.length hs
    rw [len_data, List.length_append, hq] at hl
    refine ⟨⟨d.toArray⟩, i, (fun w => kdest_at s0 (by omega) d i (by omega) (by show _ = _; rw [h]; rfl) w), (show i ≤ s0.size by omega), fun _ => ?_⟩
    have hx := ext_front hs
    rw [hq] at hx
    obtain ⟨y, p1, e1⟩ := add_to (s0.extract 0 i) (ByteArray.mk #[32]) q [32] hx rfl (by rw [hq]; simp; omega)
    obtain ⟨z, p2, e2⟩ := add_to y s1 (q ++ [32]) s1.data.toList e1 (mk_data s1).symm (by rw [List.length_append, hq, len_data]; simp; omega)
    refine ⟨_, y, z, rfl, p1, p2, fun w => kdest_at z (by rw [e2, size_list, List.length_append, List.length_append, hq, len_data]; simp; omega) d i (by omega) (by show _ = _; rw [e2, list_data, List.append_assoc, hy ([32] ++ s1.data.toList) (.inr ⟨32, s1.data.toList, rfl, by decide⟩)]; rfl) w⟩

theorem front_title (s0 s1 : ByteArray) (w0 : s0.size ≤ 140737488351232) (w1 : s1.size ≤ 140737488351232) :
    ∃ (A : ByteArray) (i : Nat), Hid (Told2 13 s0 A i) ∧ Hid (i ≤ s0.size) ∧ Hid (0 < i → ∃ x y, s0.extract 0 i = x ∧ (∀ w, (Op.stringOp .add x s1).run Tryd.prog w = .ok (.string y) w) ∧ Hid (Told2 13 y A i)) := by
  cases h : titleL s0.data.toList with
  | none => exact ⟨⟨#[]⟩, 0, (fun w => ktitle_at s0 (by omega) [] 0 (by omega) (by show _ = _; rw [h]; rfl) w), Nat.zero_le _, (fun x => absurd x (Nat.lt_irrefl _))⟩
  | some ui =>
    obtain ⟨d, i⟩ := ui
    obtain ⟨hi, q, r, hs, hq, hy⟩ := title_is h
    have hl := congrArg List.length hs
    rw [len_data, List.length_append, hq] at hl
    refine ⟨⟨d.toArray⟩, i, (fun w => ktitle_at s0 (by omega) d i (by omega) (by show _ = _; rw [h]; rfl) w), (show i ≤ s0.size by omega), fun _ => ?_⟩
    have hx := ext_front hs
    rw [hq] at hx
    obtain ⟨y, p1, e1⟩ := add_to (s0.extract 0 i) s1 q s1.data.toList hx (mk_data s1).symm (by rw [hq, len_data]; omega)
    refine ⟨_, y, rfl, p1, fun w => ktitle_at y (by rw [e1, size_list, List.length_append, hq, len_data]; omega) d i (by omega) (by show _ = _; rw [e1, list_data, hy]; rfl) w⟩

abbrev Told4 (x G1 G2 G3 : ByteArray) (i : Nat) : Prop := ∀ w, Calls Tryd.prog 15 #[.string x] w fun e w' => e = .returned (.tuple #[.agg #[.string G1, .string G2, .string G3], .int .i64 (i : Int)]) ∧ Below w.heap.size w w'

theorem define_lab {l : List UInt8} {q : List UInt8 × List UInt8 × List UInt8} {r : List UInt8} (h : defineL l = some (q, r)) : ∃ u, q.1 = fold u ∧ u.length ≤ 999 := by
  obtain ⟨u, n, hd⟩ : ∃ u n, definedL l = (u, n) := ⟨_, _, rfl⟩
  by_cases hn : n = 0
  · subst hn
    rw [defined_zero hd] at h
    cases h
  · obtain ⟨_, hu, hc⟩ := defined_some hd hn
    rw [hc] at h
    cases hde : destL (gapL 0 (l.drop n)) with
    | none => rw [hde] at h; cases h
    | some dk =>
      obtain ⟨d, k⟩ := dk
      rw [hde] at h
      simp only at h
      cases ht : tailO ((gapL 0 (l.drop n)).drop k) with
      | none => rw [ht] at h; cases h
      | some xr =>
        rw [ht] at h
        cases h
        exact ⟨u, rfl, hu⟩

theorem front_define (s0 : ByteArray) (w0 : s0.size ≤ 140737488351232) :
    ∃ (G1 G2 G3 : ByteArray) (i : Nat), Hid (Told4 s0 G1 G2 G3 i) ∧ Hid (i ≤ s0.size) ∧ Hid (0 < i → ∃ x, s0.extract 0 i = x ∧ Hid (Told4 x G1 G2 G3 i) ∧ Hid (∀ w, Calls Tryd.prog 17 #[.string G1] w fun e w' => e = .returned (.string G1) ∧ Below w.heap.size w w') ∧ G1.toList.isEmpty = false) := by
  cases h : defineL s0.data.toList with
  | none => exact ⟨⟨#[]⟩, ⟨#[]⟩, ⟨#[]⟩, 0, (fun w => kdefine_at s0 (by omega) [] [] [] 0 (by show _ = _; unfold defR; rw [h]; rfl) w), Nat.zero_le _, (fun x => absurd x (Nat.lt_irrefl _))⟩
  | some qr =>
    obtain ⟨⟨a, b, c⟩, r⟩ := qr
    obtain ⟨p, u', hs, hp, e1, hf, hd⟩ := define_cut h
    obtain ⟨u, e2, hu⟩ := define_lab h
    have hl := congrArg List.length hs
    rw [len_data, List.length_append] at hl
    have e1' : a = fold u' := e1
    have e2' : a = fold u := e2
    have ha : a ≠ [] := by rw [e1']; exact hf
    refine ⟨⟨a.toArray⟩, ⟨b.toArray⟩, ⟨c.toArray⟩, p.length, (fun w => kdefine_at s0 (by omega) a b c p.length (by show _ = _; unfold defR; rw [h]; show ((a, b, c), _) = _; rw [len_data]; congr 1; omega) w), (show p.length ≤ s0.size by omega), fun _ => ?_⟩
    have hx := ext_front hs
    refine ⟨_, rfl, fun w => kdefine_at _ (by rw [hx, size_list]; omega) a b c p.length (by show _ = _; unfold defR; rw [hx, list_data, hd]; rfl) w, fun w => ?_, ?_⟩
    · have := run.reffold_any ⟨a.toArray⟩ w (by rw [size_list, e2']; have := fold_len u; omega)
      rw [list_data] at this
      have e3 : fold a = a := by rw [e2']; exact fold_fold u
      rw [e3] at this
      exact this
    · refine nil_text _ _ ?_
      cases a with
      | nil => exact absurd rfl ha
      | cons x t => rfl

end Go.Proofs.YtadghfgjdfgopaaDoor
