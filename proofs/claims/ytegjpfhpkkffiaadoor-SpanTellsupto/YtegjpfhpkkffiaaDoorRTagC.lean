/- The document's answer for span: Tag, where it closes, and where it is none; walked. -/
import Derived.Test.YtegjpfhpkkffiaaDoorRBegins
set_option linter.unusedVariables false
namespace Go.Proofs.YtegjpfhpkkffiaaDoor
open Go.RowKit

set_option maxHeartbeats 4000000 in
/-- Texts that end a tag. -/
theorem rtag_close (s : ByteArray) (hs : s.size ≤ 9223372036854775000) (c : UInt8) (l : List UInt8) (hl : s.data.toList = 60 :: 47 :: c :: l) (w : World) :
    Calls Tryd.prog 15 #[.string s] w fun e w' => e = .returned (.int .i64 (endN s ((nameL (c :: l)).bind fun r => closeL (gapL 0 r)) : Int)) ∧ w' = w := by
  have hz : s.size = l.length + 3 := by rw [← len_data, hl]; rfl
  have h3 : ¬ (s.size : Int) < 3 := by omega
  have h3b : (3 : Int) ≤ (s.size : Int) := by omega
  have hb0 : s[0]'(by omega) = 60 := by have := (Suf.head hl).byte (by rw [pos_of (p := []) hl]; show 0 < s.size; omega); simpa [pos_of (p := []) hl] using this
  have hb1 : s[1]'(by omega) = 47 := by have := (Suf.head hl).tail.byte (by rw [pos_of (p := [60]) hl]; show 1 < s.size; omega); simpa [pos_of (p := [60]) hl] using this
  have h2 : (2 : Int) = (pos s (c :: l) : Int) := by rw [pos_of (p := [60, 47]) hl]; rfl
  have hsl : Suf s (c :: l) := ⟨[60, 47], hl⟩
  have hname := (show Hid _ from fun w => rname_any s hs (c :: l) hsl 2 h2 w)
  cases hn : nameL (c :: l) with
  | none =>
    have h4 : (pos s (c :: l) : Int) = 2 := h2.symm
    rw [hn] at hname
    have hname : Hid (∀ w, Calls Tryd.prog 34 #[.string s, .int .i64 2] w fun e w' => e = .returned (.int .i64 2) ∧ w' = w) := fun w => by have := hname.out w; rw [show ((pos s (Option.getD none (c :: l)) : Nat) : Int) = 2 from h4] at this; exact this
    clear h2 h4
    go_enter Tryd.func15, Tryd.ntmps15
    go_wp2_with (go_at_call 34; refine (hname.out _).mono ?_; rintro e w' ⟨rfl, rfl⟩)
    go_ret
    exact ⟨rfl, rfl⟩
  | some r =>
    rw [hn] at hname
    have hr : Suf s r := hsl.of (name_suf hn)
    have hne : ¬ (pos s r : Int) = 2 := by
      rw [h2]
      intro e
      have h4 := (hr.eq_iff hsl).1 e
      have h5 := name_lt hn
      rw [h4] at h5
      omega
    have hname : Hid (∀ w, Calls Tryd.prog 34 #[.string s, .int .i64 2] w fun e w' => e = .returned (.int .i64 (pos s r : Int)) ∧ w' = w) := fun w => hname.out w
    obtain ⟨g, hg⟩ : ∃ g, g = gapL 0 r := ⟨_, rfl⟩
    have hgs : Suf s g := by rw [hg]; exact hr.gap 0
    have hgap : Hid (∀ w, Calls Tryd.prog 35 #[.string s, .int .i64 (pos s r : Int)] w fun e w' => e = .returned (.int .i64 (pos s g : Int)) ∧ w' = w) := fun w => by rw [hg]; exact rgap_any s hs r hr _ rfl w
    show Calls _ _ _ _ fun e w' => e = .returned (.int .i64 (endN s (closeL (gapL 0 r)) : Int)) ∧ _
    rw [← hg]
    clear hn h2 hg
    cases g with
    | nil =>
      have hp : pos s [] = s.size := pos_nil s
      go_enter Tryd.func15, Tryd.ntmps15
      go_wp2_with (first
        | (go_at_call 34; refine (hname.out _).mono ?_; rintro e w1 ⟨rfl, hw⟩; subst w1)
        | (go_at_call 35; refine (hgap.out _).mono ?_; rintro e w1 ⟨rfl, hw⟩; subst w1))
      go_ret
      exact ⟨rfl, rfl⟩
    | cons b t =>
      have hlt := hgs.lt
      have hb := hgs.byte hlt
      have hle : (pos s (b :: t) : Int) + 1 ≤ (s.size : Int) := by omega
      have hsu := (show Hid _ from hgs.succ)
      by_cases h62 : b = 62
      · subst h62
        go_enter Tryd.func15, Tryd.ntmps15
        go_wp2_with (first
          | (go_at_call 34; refine (hname.out _).mono ?_; rintro e w1 ⟨rfl, hw⟩; subst w1)
          | (go_at_call 35; refine (hgap.out _).mono ?_; rintro e w1 ⟨rfl, hw⟩; subst w1))
        go_ret
        refine ⟨ret_int ?_, rfl⟩
        show _ = ((pos s t : Nat) : Int)
        rw [hsu.out]; omega
      · have q1 : ¬ (b.toNat : Int) = 62 := fun e => h62 (UInt8.toNat_inj.1 (by show b.toNat = 62; omega))
        have HN : Hid (closeL (b :: t) = none) := by show _ = _; simp [closeL, h62]
        go_enter Tryd.func15, Tryd.ntmps15
        go_wp2_with (first
          | (go_at_call 34; refine (hname.out _).mono ?_; rintro e w1 ⟨rfl, hw⟩; subst w1)
          | (go_at_call 35; refine (hgap.out _).mono ?_; rintro e w1 ⟨rfl, hw⟩; subst w1))
        go_ret
        exact ⟨ret_int (by rw [HN.out]; rfl), rfl⟩
end Go.Proofs.YtegjpfhpkkffiaaDoor
