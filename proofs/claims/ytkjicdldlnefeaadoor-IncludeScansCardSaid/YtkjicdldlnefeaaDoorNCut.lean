/- strings.Cut at one byte; walked. -/
import Derived.Test.YtkjicdldlnefeaaDoorPlainInc
import Derived.Test.YtkjicdldlnefeaaDoorAName
import Derived.Test.YtkjicdldlnefeaaDoorShelf
set_option linter.unusedVariables false
namespace Go.Proofs.YtkjicdldlnefeaaDoor
open Go.RowKit

theorem nidx_at (c : UInt8) : ∀ (p t : List UInt8), c ∉ p → Lib.indexByte (p ++ c :: t) c = (p.length : Int)
  | [], t, _ => by simp [Lib.indexByte]
  | b :: p, t, h => by
    rw [List.mem_cons, not_or] at h
    rw [List.cons_append]
    unfold Lib.indexByte
    rw [nidx_at c p t h.2, if_neg (by simpa using fun e => h.1 (Eq.symm e)), if_neg (by simp)]
    simp
theorem nidx_neg (c : UInt8) : ∀ (l : List UInt8), c ∉ l → Lib.indexByte l c = -1
  | [], _ => rfl
  | b :: l, h => by
    rw [List.mem_cons, not_or] at h
    unfold Lib.indexByte
    rw [if_neg (by simpa using fun e => h.1 (Eq.symm e)), nidx_neg c l h.2]
    rfl
theorem below_drewA {B : Nat} {w0 w : World} (h : Below B w0 w) : Below B w0 w.drew := h.trans ⟨rfl, rfl, rfl, Nat.le_refl _, fun k hk => rfl⟩

theorem ncut_hit (c : UInt8) (p t : StrA) (hs : (p ++ c :: t).length ≤ 9223372036854775000) (hp : c ∉ p) (w : World) :
    Calls Tryd.prog 39 #[strA (p ++ c :: t), .string ⟨#[c]⟩] w fun e w' => e = .returned (.tuple #[strA p, strA t, .bool true]) ∧ Below w.heap.size w w' := by
  obtain ⟨s, hS⟩ : ∃ s : ByteArray, s = ⟨(p ++ c :: t).toArray⟩ := ⟨_, rfl⟩
  have h : s.data.toList = p ++ c :: t := by rw [hS, list_data]
  have HX := (show Hid _ from fun w => Tryd.stringslite_Index_one s c w)
  rw [h, nidx_at c p t hp] at HX
  have hz : s.size = p.length + 1 + t.length := by rw [← len_data, h]; simp; omega
  have x1 : s.extract 0 p.length = ⟨p.toArray⟩ := by rw [extract_eq, h]; simp
  have x2 : s.extract (p.length + 1) s.size = ⟨t.toArray⟩ := by rw [extract_end, h, ← List.drop_drop, List.drop_left]; rfl
  have hs2 : s.size ≤ 9223372036854775000 := by rw [← len_data, h]; exact hs
  have c1 : (0 : Int) ≤ (p.length : Int) := by omega
  have c2 : (p.length : Int) ≤ (s.size : Int) := by omega
  have c3 : (0 : Int) ≤ (p.length : Int) + 1 := by omega
  have c4 : (p.length : Int) + 1 ≤ (s.size : Int) := by omega
  show Calls Tryd.prog 39 #[.string ⟨(p ++ c :: t).toArray⟩, .string ⟨#[c]⟩] w _
  rw [← hS]
  clear hz h hp hS hs
  have X1 := (show Hid (s.extract 0 p.length = ⟨p.toArray⟩) from x1)
  have X2 := (show Hid (s.extract (p.length + 1) s.size = ⟨t.toArray⟩) from x2)
  clear x1 x2
  go_enter Tryd.func39, Tryd.ntmps39
  go_wp2_with (go_at_call 56; refine (HX.out _).mono ?_; rintro e w' ⟨rfl, hw'⟩; subst w')
  go_region
  go_wp2
  go_ret3
  refine ⟨Eq.trans (b := Ending.returned (.tuple #[.string (s.extract 0 p.length), .string (s.extract (p.length + 1) s.size), .bool true])) rfl ?_, below_drewA (Below.refl _ _)⟩
  rw [X1.out, X2.out]
theorem ncut_miss (c : UInt8) (s : StrA) (hp : c ∉ s) (w : World) :
    Calls Tryd.prog 39 #[strA s, .string ⟨#[c]⟩] w fun e w' => e = .returned (.tuple #[strA s, .string ⟨#[]⟩, .bool false]) ∧ Below w.heap.size w w' := by
  have HX := (show Hid _ from fun w => Tryd.stringslite_Index_one ⟨s.toArray⟩ c w)
  rw [list_data, nidx_neg _ _ hp] at HX
  clear hp
  go_enter Tryd.func39, Tryd.ntmps39
  go_wp2_with (go_at_call 56; refine (HX.out _).mono ?_; rintro e w' ⟨rfl, hw'⟩; subst w')
  go_ret3
  exact ⟨rfl, Below.refl _ _⟩
theorem ncut_any0 {c : UInt8} {s a b : StrA} {f : Bool} (h : ∀ w, Calls Tryd.prog 39 #[strA s, .string ⟨#[c]⟩] w fun e w' => e = .returned (.tuple #[strA a, strA b, .bool f]) ∧ Below w.heap.size w w') (w : World) :
    Calls Tryd.prog 23 #[strA s, .string ⟨#[c]⟩] w fun e w' => e = .returned (.tuple #[strA a, strA b, .bool f]) ∧ Below w.heap.size w w' := by
  have HX := (show Hid _ from h)
  clear h
  go_enter Tryd.func23, Tryd.ntmps23
  go_wp2_with (go_at_call 39; refine (HX.out _).mono ?_; rintro e w1 ⟨rfl, hb1⟩)
  go_ret3
  exact ⟨rfl, hb1⟩
theorem nsplit (c : UInt8) (l : List UInt8) : c ∉ l ∨ ∃ p t, l = p ++ c :: t ∧ c ∉ p := by
  induction l with
  | nil => exact .inl (by simp)
  | cons b l ih =>
    by_cases hb : b = c
    · subst hb
      exact .inr ⟨[], l, rfl, by simp⟩
    · rcases ih with h | ⟨p, t, rfl, hp⟩
      · exact .inl (by simp; exact ⟨fun e => hb e.symm, h⟩)
      · exact .inr ⟨b :: p, t, rfl, by simp; exact ⟨fun e => hb e.symm, hp⟩⟩
theorem ncut_any (c : UInt8) (s : StrA) (hs : s.length ≤ 9223372036854775000) (w : World) : Calls Tryd.prog 23 #[strA s, .string ⟨#[c]⟩] w fun e w' => e = .returned (.tuple #[strA (cutC c s).1, strA (cutC c s).2.1, .bool (cutC c s).2.2]) ∧ Below w.heap.size w w' := by
  have hne : ∀ (p : StrA), c ∉ p → ∀ d ∈ p, (d != c) = true := fun p hp d hd => by
    rw [bne_iff_ne]
    rintro rfl
    exact hp hd
  rcases nsplit c s with h | ⟨p, t, rfl, hp⟩
  · have e : s.takeWhile (· != c) = s := by
      have := tw_all s [] (hne s h)
      simpa using this
    have e1 : cutC c s = (s, [], false) := by unfold cutC; rw [e]; simp [h]
    rw [e1]
    exact ncut_any0 (a := s) (b := []) (fun w => ncut_miss c s h w) w
  · have e : (p ++ c :: t).takeWhile (· != c) = p := by
      rw [tw_all p (c :: t) (hne p hp)]
      simp
    have e1 : cutC c (p ++ c :: t) = (p, t, true) := by unfold cutC; rw [e]; simp
    rw [e1]
    exact ncut_any0 (a := p) (b := t) (fun w => ncut_hit c p t hs hp w) w
end Go.Proofs.YtkjicdldlnefeaaDoor
