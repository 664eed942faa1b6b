/- The document's answer for span: gap, name, walked. -/
import Derived.Test.YtegjpfhpkkffiaaDoorRKinds
set_option linter.unusedVariables false
namespace Go.Proofs.YtegjpfhpkkffiaaDoor
open Go.RowKit

set_option maxHeartbeats 2000000 in
theorem rgap_any (s : ByteArray) (hs : s.size ≤ 9223372036854775000) (l : List UInt8) (hl : Suf s l) (z : Int) (hz : z = (pos s l : Int)) (w : World) :
    Calls Tryd.prog 35 #[.string s, .int .i64 z] w fun e w' => e = .returned (.int .i64 (pos s (gapL 0 l) : Int)) ∧ w' = w := by
  subst hz
  go_enter Tryd.func35, Tryd.ntmps35
  go_wp2
  go_loop [1, 5] (fun A F => ∃ (l' : List UInt8) (n : Nat), A = .int .i64 (pos s l' : Int) ∧ F = .int .i64 (n : Int) ∧ n ≤ 1 ∧ Hid (Suf s l') ∧ Hid (gapL n l' = gapL 0 l)) (fun A _ => s.size - (intOf A).toNat)
  case atStart => exact ⟨l, 0, rfl, rfl, Nat.zero_le _, hl, rfl⟩
  case round =>
    obtain ⟨l', n, rfl, rfl, hn, h1, h2⟩ := hrel
    cases l' with
    | nil =>
      have hp : pos s [] = s.size := pos_nil s
      go_wp2
      go_ret
      exact ⟨ret_int (by rw [← h2.out]; simp only [gapL]; exact congrArg _ (pos_nil s).symm), rfl⟩
    | cons b t =>
      have hlt := h1.out.lt
      have hb := h1.out.byte hlt
      have hle : (pos s (b :: t) : Int) + 1 ≤ (s.size : Int) := by omega
      have hsu := (show Hid _ from h1.out.succ)
      rcases byte_cases b with rfl | rfl | rfl | ⟨n1, n2, n3, n4, n5, n6⟩
      · go_wp2
        go_round
        case rel =>
          refine ⟨t, n, ?_, rfl, hn, h1.out.tail, ?_⟩
          · rw [hsu.out]; go_num
          · show gapL n t = _
            rw [← h2.out]; simp [gapL]
        case measure => simp [intOf]; omega
      · go_wp2
        go_round
        case rel =>
          refine ⟨t, n, ?_, rfl, hn, h1.out.tail, ?_⟩
          · rw [hsu.out]; go_num
          · show gapL n t = _
            rw [← h2.out]; simp [gapL]
        case measure => simp [intOf]; omega
      · have hn2 : n = 0 ∨ n = 1 := by omega
        rcases hn2 with rfl | rfl
        · go_wp2
          go_round
          case rel =>
            refine ⟨t, 1, ?_, rfl, by omega, h1.out.tail, ?_⟩
            · rw [hsu.out]; go_num
            · show gapL 1 t = _
              rw [← h2.out]; simp [gapL]
          case measure => simp [intOf]; omega
        · go_wp2
          go_ret
          exact ⟨ret_int (by rw [← h2.out]; simp [gapL]), rfl⟩
      · have m1 : ¬ (b.toNat : Int) = 32 := by omega
        have m2 : ¬ (b.toNat : Int) = 9 := by omega
        have m3 : ¬ (b.toNat : Int) = 10 := by omega
        have m4 : ((b.toNat : Int) == 32) = false := by rw [beq_eq_false_iff_ne]; exact m1
        have m5 : ((b.toNat : Int) == 9) = false := by rw [beq_eq_false_iff_ne]; exact m2
        have m6 : ((b.toNat : Int) == 10) = false := by rw [beq_eq_false_iff_ne]; exact m3
        go_wp2
        all_goals
          go_ret
          exact ⟨ret_int (by rw [← h2.out]; simp [gapL, n4, n5, n6]), rfl⟩

theorem nameC_N (c : UInt8) : nameC c = (letN c.toNat || digN c.toNat || decide (c.toNat = 45)) := by
  have he := eqN c 45 (by omega)
  rw [← he]
  rfl

set_option maxHeartbeats 2000000 in
theorem rname_any (s : ByteArray) (hs : s.size ≤ 9223372036854775000) (l : List UInt8) (hl : Suf s l) (z : Int) (hz : z = (pos s l : Int)) (w : World) :
    Calls Tryd.prog 34 #[.string s, .int .i64 z] w fun e w' => e = .returned (.int .i64 (pos s ((nameL l).getD l) : Int)) ∧ w' = w := by
  cases l with
  | nil =>
    have hp : pos s [] = s.size := pos_nil s
    rw [hp] at hz
    subst hz
    go_enter Tryd.func34, Tryd.ntmps34
    go_wp2
    go_ret
    exact ⟨ret_int rfl, rfl⟩
  | cons b0 t0 =>
    subst hz
    have hlt0 := hl.lt
    have hb0 := hl.byte hlt0
    have hne : ¬ (s.size : Int) ≤ (pos s (b0 :: t0) : Int) := by omega
    have hne2 : decide ((s.size : Int) ≤ (pos s (b0 :: t0) : Int)) = false := by simpa using hne
    have HN : Hid (nameL (b0 :: t0) = if letN b0.toNat = true then some (t0.dropWhile nameC) else none) := rfl
    cases hlet : letN b0.toNat
    · go_enter Tryd.func34, Tryd.ntmps34
      go_wp2_with (go_at_call 28; refine (rletter_any _ _).mono ?_; rintro e w' ⟨rfl, rfl⟩)
      go_ret
      refine ⟨ret_int ?_, rfl⟩
      rw [HN.out, hlet]
      rfl
    · have HR : Hid (pos s ((nameL (b0 :: t0)).getD (b0 :: t0)) = pos s ((b0 :: t0).dropWhile nameC)) := by
        show _ = _
        rw [HN.out, hlet, List.dropWhile_cons, if_pos (let_name hlet)]
        rfl
      have HS0 : Hid (Suf s (b0 :: t0)) := hl
      go_enter Tryd.func34, Tryd.ntmps34
      go_wp2_with (go_at_call 28; refine (rletter_any _ _).mono ?_; rintro e w' ⟨rfl, rfl⟩)
      go_loop [1] (fun A => ∃ l' : List UInt8, A = .int .i64 (pos s l' : Int) ∧ Hid (Suf s l') ∧ Hid (l'.dropWhile nameC = (b0 :: t0).dropWhile nameC)) (fun A => s.size - (intOf A).toNat)
      case atStart => exact ⟨b0 :: t0, rfl, HS0.out, rfl⟩
      case round =>
        obtain ⟨l', rfl, h1, h2⟩ := hrel
        cases l' with
        | nil =>
          have hp : pos s [] = s.size := pos_nil s
          go_wp2
          go_ret
          refine ⟨ret_int ?_, rfl⟩
          rw [HR.out, ← h2.out]
          exact congrArg _ (pos_nil s).symm
        | cons b t =>
          have hlt := h1.out.lt
          have hb := h1.out.byte hlt
          have hle : (pos s (b :: t) : Int) + 1 ≤ (s.size : Int) := by omega
          have hsu := (show Hid _ from h1.out.succ)
          have HC : Hid (nameC b = (letN b.toNat || digN b.toNat || decide (b.toNat = 45))) := nameC_N b
          have hcase : (letN b.toNat = true) ∨ (letN b.toNat = false ∧ digN b.toNat = true) ∨ (letN b.toNat = false ∧ digN b.toNat = false ∧ b.toNat = 45) ∨ (letN b.toNat = false ∧ digN b.toNat = false ∧ b.toNat ≠ 45) := by
            cases letN b.toNat <;> cases digN b.toNat <;> simp <;> omega
          rcases hcase with c1 | ⟨c1, c2⟩ | ⟨c1, c2, c3⟩ | ⟨c1, c2, c3⟩
          · have HY : Hid (nameC b = true) := by show _ = _; rw [HC.out, c1]; rfl
            go_wp2_with (first | (go_at_call 28; refine (rletter_any _ _).mono ?_; rintro e w1 ⟨rfl, hw⟩; subst w1) | (go_at_call 29; refine (rdigit_any _ _).mono ?_; rintro e w1 ⟨rfl, hw⟩; subst w1))
            go_round
            case rel =>
              refine ⟨t, ?_, h1.out.tail, ?_⟩
              · rw [hsu.out]; go_num
              · show _ = _
                rw [← h2.out, List.dropWhile_cons, if_pos HY.out]
            case measure => simp [intOf]; omega
          · have HY : Hid (nameC b = true) := by show _ = _; rw [HC.out, c1, c2]; rfl
            go_wp2_with (first | (go_at_call 28; refine (rletter_any _ _).mono ?_; rintro e w1 ⟨rfl, hw⟩; subst w1) | (go_at_call 29; refine (rdigit_any _ _).mono ?_; rintro e w1 ⟨rfl, hw⟩; subst w1))
            go_round
            case rel =>
              refine ⟨t, ?_, h1.out.tail, ?_⟩
              · rw [hsu.out]; go_num
              · show _ = _
                rw [← h2.out, List.dropWhile_cons, if_pos HY.out]
            case measure => simp [intOf]; omega
          · have HY : Hid (nameC b = true) := by show _ = _; rw [HC.out, c1, c2, decide_eq_true c3]; rfl
            have q : (b.toNat : Int) = 45 := by omega
            go_wp2_with (first | (go_at_call 28; refine (rletter_any _ _).mono ?_; rintro e w1 ⟨rfl, hw⟩; subst w1) | (go_at_call 29; refine (rdigit_any _ _).mono ?_; rintro e w1 ⟨rfl, hw⟩; subst w1))
            go_round
            case rel =>
              refine ⟨t, ?_, h1.out.tail, ?_⟩
              · rw [hsu.out]; go_num
              · show _ = _
                rw [← h2.out, List.dropWhile_cons, if_pos HY.out]
            case measure => simp [intOf]; omega
          · have HY : Hid (nameC b = false) := by show _ = _; rw [HC.out, c1, c2, decide_eq_false c3]; rfl
            have q : ¬ (b.toNat : Int) = 45 := by omega
            have q2 : ((b.toNat : Int) == 45) = false := by rw [beq_eq_false_iff_ne]; exact q
            go_wp2_with (first | (go_at_call 28; refine (rletter_any _ _).mono ?_; rintro e w1 ⟨rfl, hw⟩; subst w1) | (go_at_call 29; refine (rdigit_any _ _).mono ?_; rintro e w1 ⟨rfl, hw⟩; subst w1))
            go_ret
            refine ⟨ret_int ?_, rfl⟩
            rw [HR.out, ← h2.out, List.dropWhile_cons, if_neg (by rw [HY.out]; decide)]

end Go.Proofs.YtegjpfhpkkffiaaDoor
