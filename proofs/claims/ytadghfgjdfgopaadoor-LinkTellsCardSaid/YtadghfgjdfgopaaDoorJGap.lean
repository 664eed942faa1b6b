/- The document's gap and line in layer 6; walked. -/
import Derived.Test.YtadghfgjdfgopaaDoorJTitle
set_option linter.unusedVariables false
namespace Go.Proofs.YtadghfgjdfgopaaDoor
open Go.RowKit

theorem byte_cases (b : UInt8) : b = 32 ∨ b = 9 ∨ b = 10 ∨ (b.toNat ≠ 32 ∧ b.toNat ≠ 9 ∧ b.toNat ≠ 10 ∧ b ≠ 32 ∧ b ≠ 9 ∧ b ≠ 10) := by
  by_cases h1 : b = 32
  · exact .inl h1
  · by_cases h2 : b = 9
    · exact .inr (.inl h2)
    · by_cases h3 : b = 10
      · exact .inr (.inr (.inl h3))
      · exact .inr (.inr (.inr ⟨fun h => h1 (UInt8.toNat_inj.1 h), fun h => h2 (UInt8.toNat_inj.1 h), fun h => h3 (UInt8.toNat_inj.1 h), h1, h2, h3⟩))

set_option maxHeartbeats 2000000 in
theorem jgap_any (s : ByteArray) (hs : s.size ≤ 9223372036854775000) (l : List UInt8) (hl : Suf s l) (z : Int) (hz : z = (pos s l : Int)) (w : World) :
    Calls Tryd.prog 35 #[.string s, .int .i64 z] w fun e w' => e = .returned (.int .i64 (pos s (gapL 0 l) : Int)) ∧ w' = w := by
  subst hz
  go_enter Tryd.func35, Tryd.ntmps35
  go_wp2
  go_loop [1, 5] (fun A F => ∃ (l' : List UInt8) (n : Nat), A = .int .i64 (pos s l' : Int) ∧ F = .int .i64 (n : Int) ∧ Hid (n ≤ 1) ∧ Hid (Suf s l') ∧ Hid (gapL n l' = gapL 0 l)) (fun A _ => s.size - (intOf A).toNat)
  case atStart => exact ⟨l, 0, rfl, rfl, Nat.zero_le _, hl, rfl⟩
  case round =>
    obtain ⟨l', n, rfl, rfl, hn, h1, h2⟩ := hrel
    cases l' with
    | nil =>
      have hp : pos s [] = s.size := pos_nil s
      go_wp2
      go_ret
      exact ⟨ret_int (by rw [← h2.out]; simp only [gapL]; exact congrArg _ (pos_nil s).symm), rfl⟩
    | cons b t =>
      have hlt := h1.out.lt
      have hb := h1.out.byte hlt
      have hle : (pos s (b :: t) : Int) + 1 ≤ (s.size : Int) := by omega
      have hsu := (show Hid _ from h1.out.succ)
      rcases byte_cases b with rfl | rfl | rfl | ⟨n1, n2, n3, n4, n5, n6⟩
      · go_wp2
        go_round
        case rel =>
          refine ⟨t, n, ?_, rfl, hn, h1.out.tail, ?_⟩
          · rw [hsu.out]; go_num
          · show gapL n t = _
            rw [← h2.out]; simp [gapL]
        case measure => simp [intOf]; omega
      · go_wp2
        go_round
        case rel =>
          refine ⟨t, n, ?_, rfl, hn, h1.out.tail, ?_⟩
          · rw [hsu.out]; go_num
          · show gapL n t = _
            rw [← h2.out]; simp [gapL]
        case measure => simp [intOf]; omega
      · have hn' := hn.out
        by_cases hn0 : n = 0
        · subst hn0
          go_wp2
          go_round
          case rel =>
            refine ⟨t, 1, ?_, ?_, Nat.le_refl _, h1.out.tail, ?_⟩
            · rw [hsu.out]; go_num
            · go_num
            · show gapL 1 t = _
              rw [← h2.out]; simp [gapL]
          case measure => simp [intOf]; omega
        · have hn1 : n = 1 := by omega
          subst hn1
          clear hn0
          go_wp2
          go_ret
          exact ⟨ret_int (by rw [← h2.out]; simp [gapL]), rfl⟩
      · have m1 : ¬ (b.toNat : Int) = 32 := by omega
        have m2 : ¬ (b.toNat : Int) = 9 := by omega
        have m3 : ¬ (b.toNat : Int) = 10 := by omega
        have m4 : ((b.toNat : Int) == 32) = false := by simpa using m1
        have m5 : ((b.toNat : Int) == 9) = false := by simpa using m2
        have m6 : ((b.toNat : Int) == 10) = false := by simpa using m3
        go_wp2
        go_ret
        exact ⟨ret_int (by rw [← h2.out]; simp [gapL, n4, n5, n6]), rfl⟩

def lineZ (s : ByteArray) (l : List UInt8) : Int := match lineL l with
  | some r => (pos s r : Int)
  | none => -1

set_option maxHeartbeats 2000000 in
theorem jline_any (s : ByteArray) (hs : s.size ≤ 9223372036854775000) (l : List UInt8) (hl : Suf s l) (z : Int) (hz : z = (pos s l : Int)) (w : World) :
    Calls Tryd.prog 36 #[.string s, .int .i64 z] w fun e w' => e = .returned (.int .i64 (lineZ s l)) ∧ w' = w := by
  subst hz
  go_enter Tryd.func36, Tryd.ntmps36
  go_wp2
  go_loop [1] (fun A => ∃ l' : List UInt8, A = .int .i64 (pos s l' : Int) ∧ Hid (Suf s l') ∧ Hid (lineL l' = lineL l)) (fun A => s.size - (intOf A).toNat)
  case atStart => exact ⟨l, rfl, hl, rfl⟩
  case round =>
    obtain ⟨l', rfl, h1, h2⟩ := hrel
    cases l' with
    | nil =>
      have hp : pos s [] = s.size := pos_nil s
      go_wp2
      go_ret
      refine ⟨ret_int ?_, rfl⟩
      unfold lineZ
      rw [← h2.out]
      exact congrArg _ (pos_nil s).symm
    | cons b t =>
      have hlt := h1.out.lt
      have hb := h1.out.byte hlt
      have hle : (pos s (b :: t) : Int) + 1 ≤ (s.size : Int) := by omega
      have hne : ((pos s (b :: t) : Int) == (s.size : Int)) = false := by rw [beq_eq_false_iff_ne]; omega
      have hsu := (show Hid _ from h1.out.succ)
      rcases byte_cases b with rfl | rfl | rfl | ⟨n1, n2, n3, n4, n5, n6⟩
      · go_wp2
        go_round
        case rel =>
          refine ⟨t, ?_, h1.out.tail, ?_⟩
          · rw [hsu.out]; go_num
          · show lineL t = _
            rw [← h2.out]; simp [lineL]
        case measure => simp [intOf]; omega
      · go_wp2
        go_round
        case rel =>
          refine ⟨t, ?_, h1.out.tail, ?_⟩
          · rw [hsu.out]; go_num
          · show lineL t = _
            rw [← h2.out]; simp [lineL]
        case measure => simp [intOf]; omega
      · go_wp2
        go_ret
        refine ⟨ret_int ?_, rfl⟩
        unfold lineZ
        rw [← h2.out]
        have : lineL (10 :: t) = some t := by simp [lineL]
        rw [this]
        show _ = (pos s t : Int)
        rw [hsu.out]
        push_cast
        rfl
      · have m1 : ¬ (b.toNat : Int) = 32 := by omega
        have m2 : ¬ (b.toNat : Int) = 9 := by omega
        have m3 : ¬ (b.toNat : Int) = 10 := by omega
        have m4 : ((b.toNat : Int) == 32) = false := by simpa using m1
        have m5 : ((b.toNat : Int) == 9) = false := by simpa using m2
        have m6 : ((b.toNat : Int) == 10) = false := by simpa using m3
        go_wp2
        go_ret
        refine ⟨ret_int ?_, rfl⟩
        unfold lineZ
        rw [← h2.out]
        have : lineL (b :: t) = none := by simp [lineL, n4, n5, n6]
        rw [this]

end Go.Proofs.YtadghfgjdfgopaaDoor
