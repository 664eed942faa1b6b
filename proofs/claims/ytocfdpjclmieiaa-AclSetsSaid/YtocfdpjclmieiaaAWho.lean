/- Cut at a slash; Who; walked. -/
import Derived.Test.YtocfdpjclmieiaaAName
import Derived.BigRegion
set_option linter.unusedVariables false
namespace Go.Proofs.Ytocfdpjclmieiaa
open Go.RowKit

theorem idx_at (c : UInt8) : ∀ (p t : List UInt8), c ∉ p → Lib.indexByte (p ++ c :: t) c = (p.length : Int)
  | [], t, _ => by simp [Lib.indexByte]
  | b :: p, t, h => by
    rw [List.mem_cons, not_or] at h
    rw [List.cons_append]
    unfold Lib.indexByte
    rw [idx_at c p t h.2, if_neg (by simpa using fun e => h.1 (Eq.symm e)), if_neg (by simp)]
    simp
theorem idx_neg (c : UInt8) : ∀ (l : List UInt8), c ∉ l → Lib.indexByte l c = -1
  | [], _ => rfl
  | b :: l, h => by
    rw [List.mem_cons, not_or] at h
    unfold Lib.indexByte
    rw [if_neg (by simpa using fun e => h.1 (Eq.symm e)), idx_neg c l h.2]
    rfl
theorem below_drewA {B : Nat} {w0 w : World} (h : Below B w0 w) : Below B w0 w.drew := h.trans ⟨rfl, rfl, rfl, Nat.le_refl _, fun k hk => rfl⟩

theorem acut_hit (p t : StrA) (hs : (p ++ 47 :: t).length ≤ 9223372036854775000) (hp : 47 ∉ p) (w : World) :
    Calls Try.prog 27 #[strA (p ++ 47 :: t), .string ⟨#[47]⟩] w fun e w' => e = .returned (.tuple #[strA p, strA t, .bool true]) ∧ Below w.heap.size w w' := by
  obtain ⟨s, hS⟩ : ∃ s : ByteArray, s = ⟨(p ++ 47 :: t).toArray⟩ := ⟨_, rfl⟩
  have h : s.data.toList = p ++ 47 :: t := by rw [hS, list_data]
  have HX := (show Hid _ from fun w => Try.stringslite_Index_one s 47 w)
  rw [h, idx_at 47 p t hp] at HX
  have hz : s.size = p.length + 1 + t.length := by rw [← len_data, h]; simp; omega
  have x1 : s.extract 0 p.length = ⟨p.toArray⟩ := by rw [extract_eq, h]; simp
  have x2 : s.extract (p.length + 1) s.size = ⟨t.toArray⟩ := by rw [extract_end, h, ← List.drop_drop, List.drop_left]; rfl
  have hs2 : s.size ≤ 9223372036854775000 := by rw [← len_data, h]; exact hs
  have c1 : (0 : Int) ≤ (p.length : Int) := by omega
  have c2 : (p.length : Int) ≤ (s.size : Int) := by omega
  have c3 : (0 : Int) ≤ (p.length : Int) + 1 := by omega
  have c4 : (p.length : Int) + 1 ≤ (s.size : Int) := by omega
  show Calls Try.prog 27 #[.string ⟨(p ++ 47 :: t).toArray⟩, .string ⟨#[47]⟩] w _
  rw [← hS]
  clear hz h hp hS hs
  have X1 := (show Hid (s.extract 0 p.length = ⟨p.toArray⟩) from x1)
  have X2 := (show Hid (s.extract (p.length + 1) s.size = ⟨t.toArray⟩) from x2)
  clear x1 x2
  go_enter Try.func27, Try.ntmps27
  go_wp2_with (go_at_call 33; refine (HX.out _).mono ?_; rintro e w' ⟨rfl, hw'⟩; subst w')
  go_region
  go_wp2
  go_ret3
  refine ⟨Eq.trans (b := Ending.returned (.tuple #[.string (s.extract 0 p.length), .string (s.extract (p.length + 1) s.size), .bool true])) rfl ?_, below_drewA (Below.refl _ _)⟩
  rw [X1.out, X2.out]
theorem acut_miss (s : StrA) (hp : 47 ∉ s) (w : World) :
    Calls Try.prog 27 #[strA s, .string ⟨#[47]⟩] w fun e w' => e = .returned (.tuple #[strA s, .string ⟨#[]⟩, .bool false]) ∧ Below w.heap.size w w' := by
  have HX := (show Hid _ from fun w => Try.stringslite_Index_one ⟨s.toArray⟩ 47 w)
  rw [list_data, idx_neg _ _ hp] at HX
  clear hp
  go_enter Try.func27, Try.ntmps27
  go_wp2_with (go_at_call 33; refine (HX.out _).mono ?_; rintro e w' ⟨rfl, hw'⟩; subst w')
  go_ret3
  exact ⟨rfl, Below.refl _ _⟩
theorem acut_any {s a b : StrA} {f : Bool} (h : ∀ w, Calls Try.prog 27 #[strA s, .string ⟨#[47]⟩] w fun e w' => e = .returned (.tuple #[strA a, strA b, .bool f]) ∧ Below w.heap.size w w') (w : World) :
    Calls Try.prog 18 #[strA s, .string ⟨#[47]⟩] w fun e w' => e = .returned (.tuple #[strA a, strA b, .bool f]) ∧ Below w.heap.size w w' := by
  have HX := (show Hid _ from h)
  clear h
  go_enter Try.func18, Try.ntmps18
  go_wp2_with (go_at_call 27; refine (HX.out _).mono ?_; rintro e w1 ⟨rfl, hb1⟩)
  go_ret3
  exact ⟨rfl, hb1⟩
theorem split_slash (l : List UInt8) : 47 ∉ l ∨ ∃ p t, l = p ++ 47 :: t ∧ 47 ∉ p := by
  induction l with
  | nil => exact .inl (by simp)
  | cons b l ih =>
    by_cases hb : b = 47
    · subst hb
      exact .inr ⟨[], l, rfl, by simp⟩
    · rcases ih with h | ⟨p, t, rfl, hp⟩
      · exact .inl (by simp; exact ⟨fun e => hb e.symm, h⟩)
      · exact .inr ⟨b :: p, t, rfl, by simp; exact ⟨fun e => hb e.symm, hp⟩⟩
/-- What Cut tells of a text: ahead of the first slash, behind it. -/
def cutA (s : StrA) : StrA × StrA := (s.takeWhile (· != 47), (s.drop (s.takeWhile (· != 47)).length).drop 1)
theorem cut_is (s : StrA) (hs : s.length ≤ 9223372036854775000) (w : World) : ∃ f, Calls Try.prog 18 #[strA s, .string ⟨#[47]⟩] w fun e w' => e = .returned (.tuple #[strA (cutA s).1, strA (cutA s).2, .bool f]) ∧ Below w.heap.size w w' := by
  have hne : ∀ (p : StrA), 47 ∉ p → ∀ c ∈ p, (c != (47 : UInt8)) = true := fun p hp c hc => by
    rw [bne_iff_ne]
    rintro rfl
    exact hp hc
  rcases split_slash s with h | ⟨p, t, rfl, hp⟩
  · have e : s.takeWhile (· != 47) = s := by
      have := tw_all s [] (hne s h)
      simpa using this
    have e1 : cutA s = (s, []) := by unfold cutA; rw [e]; simp
    rw [e1]
    exact ⟨false, acut_any (a := s) (b := []) (fun w => acut_miss s h w) w⟩
  · have e : (p ++ 47 :: t).takeWhile (· != 47) = p := by
      rw [tw_all p (47 :: t) (hne p hp)]
      simp
    have e1 : cutA (p ++ 47 :: t) = (p, t) := by unfold cutA; rw [e]; simp
    rw [e1]
    exact ⟨true, acut_any (a := p) (b := t) (fun w => acut_hit p t hs hp w) w⟩

def whoT (s : StrA) : StrA × StrA × Bool := match whoA s with
  | some (t, o) => (t, o, true)
  | none => ([], [], false)
theorem whoT_is (s : StrA) : whoT s = if nameA (cutA s).1 = true ∧ nameA (cutA s).2 = true then ((cutA s).1, (cutA s).2, true) else ([], [], false) := by
  unfold whoT whoA cutA
  simp only
  split
  · rename_i h
    split at h
    · rename_i hc
      cases h
      rw [if_pos hc]
    · cases h
  · rename_i h
    split at h
    · cases h
    · rename_i hc
      rw [if_neg hc]
set_option maxHeartbeats 4000000 in
theorem awho_any (s : StrA) (hs : s.length ≤ 9223372036854775000) (w : World) : Calls Try.prog 6 #[strA s] w fun e w' => e = .returned (.tuple #[strA (whoT s).1, strA (whoT s).2.1, .bool (whoT s).2.2]) ∧ Below w.heap.size w w' := by
  obtain ⟨f, hc⟩ := cut_is s hs w
  have HC : Hid (Calls Try.prog 18 #[strA s, .string ⟨#[47]⟩] w fun e w' => e = .returned (.tuple #[strA (cutA s).1, strA (cutA s).2, .bool f]) ∧ Below w.heap.size w w') := hc
  have HW := (show Hid (whoT s = if nameA (cutA s).1 = true ∧ nameA (cutA s).2 = true then ((cutA s).1, (cutA s).2, true) else ([], [], false)) from whoT_is s)
  clear hc hs
  generalize cutA s = ab at *
  obtain ⟨a, b⟩ := ab
  simp only at HC HW
  have H1 : Hid (∀ u, Calls Try.prog 19 #[strA a] u fun e w' => e = .returned (.bool (nameA a)) ∧ w' = u) := fun u => aname_any a u
  have H2 : Hid (∀ u, Calls Try.prog 19 #[strA b] u fun e w' => e = .returned (.bool (nameA b)) ∧ w' = u) := fun u => aname_any b u
  generalize whoT s = R at *
  generalize nameA a = n1 at *
  generalize nameA b = n2 at *
  cases n1
  · have hR : R = ([], [], false) := by rw [HW.out]; simp
    subst hR
    clear HW
    go_enter Try.func6, Try.ntmps6
    go_wp2_with (first | (go_at_call 18; refine Calls.mono HC.out ?_; rintro e u1 ⟨rfl, hb1⟩; have HB1 := (show Hid (Below _ _ _) from hb1); clear hb1) | (go_at_call 19; refine Calls.mono (H1.out _) ?_; rintro e u2 ⟨rfl, hu⟩; subst hu))
    go_ret3
    exact ⟨rfl, HB1.out⟩
  · cases n2
    · have hR : R = ([], [], false) := by rw [HW.out]; simp
      subst hR
      clear HW
      go_enter Try.func6, Try.ntmps6
      go_wp2_with (first | (go_at_call 18; refine Calls.mono HC.out ?_; rintro e u1 ⟨rfl, hb1⟩; have HB1 := (show Hid (Below _ _ _) from hb1); clear hb1) | (have := u2; go_at_call 19; refine Calls.mono (H2.out _) ?_; clear this; rintro e u3 ⟨rfl, hu⟩; subst hu) | (go_at_call 19; refine Calls.mono (H1.out _) ?_; rintro e u2 ⟨rfl, hu⟩; subst hu))
      go_ret3
      exact ⟨rfl, HB1.out⟩
    · have hR : R = (a, b, true) := by rw [HW.out]; simp
      subst hR
      clear HW
      go_enter Try.func6, Try.ntmps6
      go_wp2_with (first | (go_at_call 18; refine Calls.mono HC.out ?_; rintro e u1 ⟨rfl, hb1⟩; have HB1 := (show Hid (Below _ _ _) from hb1); clear hb1) | (have := u2; go_at_call 19; refine Calls.mono (H2.out _) ?_; clear this; rintro e u3 ⟨rfl, hu⟩; subst hu) | (go_at_call 19; refine Calls.mono (H1.out _) ?_; rintro e u2 ⟨rfl, hu⟩; subst hu))
      go_ret3
      exact ⟨rfl, HB1.out⟩
end Go.Proofs.Ytocfdpjclmieiaa
