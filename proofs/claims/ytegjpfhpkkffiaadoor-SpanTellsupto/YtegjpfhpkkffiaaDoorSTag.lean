/- Tags in package span: has, gap, name, quoted, value, attribute, tagEnd, closingTag, openingTag, Tag. -/
import Derived.Test.YtegjpfhpkkffiaaDoorSKinds
import Derived.Test.YtegjpfhpkkffiaaDoorSPlain
import Derived.Deep.QuietTactic
import Derived.BigQuiet
import Derived.Deep.RegionWith
set_option linter.unusedVariables false
namespace Go.Proofs.YtegjpfhpkkffiaaDoor
open Go.RowKit

theorem has_any (s : ByteArray) (l : List UInt8) (hl : Suf s l) (z : Int) (hz : z = (pos s l : Int)) (c : UInt8) (y : Int) (hy : y = (c.toNat : Int)) (w : World) :
    Calls Tryd.prog 24 #[.string s, .int .i64 z, .int .u8 y] w fun e w' => e = .returned (.bool (hdB l c)) ∧ w' = w := by
  subst hz
  subst hy
  cases l with
  | nil =>
    have hp : pos s [] = s.size := pos_nil s
    go_enter Tryd.func24, Tryd.ntmps24
    go_wp2
    go_ret
    exact ⟨rfl, rfl⟩
  | cons b t =>
    have hlt := hl.lt
    have hb := hl.byte hlt
    go_enter Tryd.func24, Tryd.ntmps24
    go_wp2
    go_ret
    refine ⟨ret_bool ?_, rfl⟩
    show _ = (b == c)
    rw [Bool.eq_iff_iff]
    simp only [beq_iff_eq]
    constructor
    · intro h; exact UInt8.toNat_inj.1 (by omega)
    · rintro rfl; rfl

theorem byte_cases (b : UInt8) : b = 32 ∨ b = 9 ∨ b = 10 ∨ (b.toNat ≠ 32 ∧ b.toNat ≠ 9 ∧ b.toNat ≠ 10 ∧ b ≠ 32 ∧ b ≠ 9 ∧ b ≠ 10) := by
  by_cases h1 : b = 32
  · exact .inl h1
  · by_cases h2 : b = 9
    · exact .inr (.inl h2)
    · by_cases h3 : b = 10
      · exact .inr (.inr (.inl h3))
      · exact .inr (.inr (.inr ⟨fun h => h1 (UInt8.toNat_inj.1 h), fun h => h2 (UInt8.toNat_inj.1 h), fun h => h3 (UInt8.toNat_inj.1 h), h1, h2, h3⟩))

set_option maxHeartbeats 2000000 in
theorem gap_any (s : ByteArray) (hs : s.size ≤ 9223372036854775000) (l : List UInt8) (hl : Suf s l) (z : Int) (hz : z = (pos s l : Int)) (w : World) :
    Calls Tryd.prog 56 #[.string s, .int .i64 z] w fun e w' => e = .returned (.int .i64 (pos s (gapL 0 l) : Int)) ∧ w' = w := by
  subst hz
  go_enter Tryd.func56, Tryd.ntmps56
  go_wp2
  go_loop [1, 5] (fun A F => ∃ (l' : List UInt8) (n : Nat) (f : Bool), A = .int .i64 (pos s l' : Int) ∧ F = .bool f ∧ Hid (f = decide (n = 1)) ∧ Hid (n ≤ 1) ∧ Hid (Suf s l') ∧ Hid (gapL n l' = gapL 0 l)) (fun A _ => s.size - (intOf A).toNat)
  case atStart => exact ⟨l, 0, false, rfl, rfl, rfl, Nat.zero_le _, hl, rfl⟩
  case round =>
    obtain ⟨l', n, f, rfl, rfl, hf, hn, h1, h2⟩ := hrel
    cases l' with
    | nil =>
      have hp : pos s [] = s.size := pos_nil s
      go_wp2
      go_ret
      exact ⟨ret_int (by rw [← h2.out]; simp only [gapL]; exact congrArg _ (pos_nil s).symm), rfl⟩
    | cons b t =>
      have hlt := h1.out.lt
      have hb := h1.out.byte hlt
      have hle : (pos s (b :: t) : Int) + 1 ≤ (s.size : Int) := by omega
      have hsu := (show Hid _ from h1.out.succ)
      rcases byte_cases b with rfl | rfl | rfl | ⟨n1, n2, n3, n4, n5, n6⟩
      · cases f
        all_goals
          go_wp2
          go_round
          case rel =>
            refine ⟨t, n, _, ?_, rfl, hf, hn, h1.out.tail, ?_⟩
            · rw [hsu.out]; go_num
            · show gapL n t = _
              rw [← h2.out]; simp [gapL]
          case measure => simp [intOf]; omega
      · cases f
        all_goals
          go_wp2
          go_round
          case rel =>
            refine ⟨t, n, _, ?_, rfl, hf, hn, h1.out.tail, ?_⟩
            · rw [hsu.out]; go_num
            · show gapL n t = _
              rw [← h2.out]; simp [gapL]
          case measure => simp [intOf]; omega
      · cases f
        · have hn0 : n = 0 := by have h3 := hf.out; have h4 := hn.out; simp at h3; omega
          subst hn0
          go_wp2
          go_round
          case rel =>
            refine ⟨t, 1, true, ?_, rfl, rfl, Nat.le_refl _, h1.out.tail, ?_⟩
            · rw [hsu.out]; go_num
            · show gapL 1 t = _
              rw [← h2.out]; simp [gapL]
          case measure => simp [intOf]; omega
        · have hn1 : n = 1 := by have h3 := hf.out; simpa using h3
          subst hn1
          go_wp2
          go_ret
          exact ⟨ret_int (by rw [← h2.out]; simp [gapL]), rfl⟩
      · have m1 : ¬ (b.toNat : Int) = 32 := by omega
        have m2 : ¬ (b.toNat : Int) = 9 := by omega
        have m3 : ¬ (b.toNat : Int) = 10 := by omega
        have m4 : ((b.toNat : Int) != 32) = true := by simpa using m1
        have m5 : ((b.toNat : Int) != 9) = true := by simpa using m2
        cases f
        all_goals
          go_wp2
          go_ret
          exact ⟨ret_int (by rw [← h2.out]; simp [gapL, n4, n5, n6]), rfl⟩

end Go.Proofs.YtegjpfhpkkffiaaDoor
