/- The document's Define in layer 6, way by way; walked. -/
import Derived.Test.YtadghfgjdfgopaaDoorJGap
set_option linter.unusedVariables false
namespace Go.Proofs.YtadghfgjdfgopaaDoor
open Go.RowKit

theorem three_end {n : Nat} {l : List UInt8} (h : n = 0 ∨ l = [] ∨ ∃ b t, l = b :: t ∧ b ≠ 32) : threeL n l = l := by
  rcases h with rfl | rfl | ⟨b, t, rfl, hb⟩
  · rfl
  · cases n <;> rfl
  · cases n with
    | zero => rfl
    | succ n => simp only [threeL]; rw [if_neg hb]
theorem three_more {n : Nat} (h : 0 < n) (t : List UInt8) : threeL n (32 :: t) = threeL (n - 1) t := by
  cases n with
  | zero => omega
  | succ n => simp [threeL]

theorem lt_below {w0 w : World} {o : Obj} (h : Below (w0.alloc o).heap.size (w0.alloc o) w) : w0.heap.size < w.heap.size := by
  have := h.size
  simp at this
  omega

theorem agg_val {a b c x y z : ByteArray} {n m : Int} (h : a = x ∧ b = y ∧ c = z ∧ n = m) : Ending.returned (.tuple #[.agg #[.string a, .string b, .string c], .int .i64 n]) = .returned (.tuple #[.agg #[.string x, .string y, .string z], .int .i64 m]) := by
  obtain ⟨rfl, rfl, rfl, rfl⟩ := h
  rfl

abbrev C2 (f : FuncId) (x : ByteArray) (A : ByteArray) (n : Nat) : Prop := ∀ w, Calls Tryd.prog f #[.string x] w fun e w' => e = .returned (.tuple #[.string A, .int .i64 (n : Int)]) ∧ Below w.heap.size w w'
abbrev CZ (f : FuncId) (s : ByteArray) (i : Nat) (z : Int) : Prop := ∀ w, Calls Tryd.prog f #[.string s, .int .i64 (i : Int)] w fun e w' => e = .returned (.int .i64 z) ∧ w' = w

set_option maxHeartbeats 8000000 in
set_option maxRecDepth 60000 in
theorem jdef_A (s : ByteArray) (hs : s.size ≤ 140737488351232) (T : List UInt8) (hT : Hid (threeL 3 s.data.toList = T)) (U q0 : ByteArray) (hq0 : s.extract (pos s T) s.size = q0) (HL : Hid (C2 10 q0 U 0)) (A1 A2 A3 : ByteArray) (Z : Int) (hZ : Hid (A1 = ⟨#[]⟩ ∧ A2 = ⟨#[]⟩ ∧ A3 = ⟨#[]⟩ ∧ Z = 0)) (w : World) :
    Calls Tryd.prog 16 #[.string s] w fun e w' => e = .returned (.tuple #[.agg #[.string A1, .string A2, .string A3], .int .i64 Z]) ∧ Below w.heap.size w w' := by
  have HW : Hid (Suf s s.data.toList) := Suf.whole s
  have HP : Hid (pos s s.data.toList = 0) := pos_whole s
  go_enter Tryd.func16, Tryd.ntmps16
  go_wp2
  go_loopw [4] (fun A wr => ∃ l' : List UInt8, A = .int .i64 (pos s l' : Int) ∧ Hid (wr = w.alloc (.cells #[.string ⟨#[]⟩, .string ⟨#[]⟩, .string ⟨#[]⟩] 26)) ∧ Hid (pos s l' ≤ 3) ∧ Hid (Suf s l') ∧ Hid (threeL 3 s.data.toList = threeL (3 - pos s l') l')) (fun A _ => s.size - (intOf A).toNat)
  case atStart => exact ⟨s.data.toList, by rw [HP.out]; rfl, rfl, by rw [HP.out]; exact Nat.zero_le _, HW.out, by rw [HP.out]; exact rfl⟩
  case round =>
    obtain ⟨l', rfl, hwr, hp3, h1, h2⟩ := hrel
    have hwr' := hwr.out
    subst hwr'
    have hp3' := hp3.out
    have hpl := pos_le s l'
    by_cases hgo : pos s l' < 3 ∧ ∃ t, l' = 32 :: t
    · obtain ⟨h3, t, rfl⟩ := hgo
      have hlt := h1.out.lt
      have hbb := h1.out.byte hlt
      have g1 : (pos s (32 :: t) : Int) < 3 := by omega
      have hle : (pos s (32 :: t) : Int) + 1 ≤ (s.size : Int) := by omega
      have HN := (show Hid _ from h1.out.succ)
      go_wp2
      go_roundw
      case rel =>
        refine ⟨t, ?_, by first | exact trivial | rfl, ?_, h1.out.tail, ?_⟩
        · rw [HN.out]; go_num
        · show pos s t ≤ 3; rw [HN.out]; omega
        · show _ = _
          rw [h2.out, three_more (by omega), HN.out]
          congr 1
      case measure => simp [intOf]; omega
    · have hex : 3 - pos s l' = 0 ∨ l' = [] ∨ ∃ b t, l' = b :: t ∧ b ≠ 32 := by
        by_cases h3 : pos s l' < 3
        · right
          cases l' with
          | nil => exact .inl rfl
          | cons b t =>
            right
            refine ⟨b, t, rfl, fun e => hgo ⟨h3, t, by rw [e]⟩⟩
        · left; omega
      have hTl : T = l' := by rw [← hT.out, h2.out, three_end hex]
      subst hTl
      have hways : (¬ (pos s T : Int) < 3) ∨ ((pos s T : Int) < 3 ∧ T = []) ∨ ((pos s T : Int) < 3 ∧ ∃ b t, T = b :: t ∧ b ≠ 32) := by
        by_cases h3 : pos s T < 3
        · rcases hex with h | h | h
          · omega
          · exact .inr (.inl ⟨by omega, h⟩)
          · exact .inr (.inr ⟨by omega, h⟩)
        · exact .inl (by omega)
      clear hgo hex
      have hway2 : (¬ (pos s T : Int) < 3) ∨ ((pos s T : Int) < 3 ∧ ¬ (pos s T : Int) < (s.size : Int)) ∨ (∃ (b : UInt8) (hlt : pos s T < s.size), (pos s T : Int) < 3 ∧ s[pos s T] = b ∧ ((b.toNat : Int) == 32) = false) := by
        rcases hways with h | ⟨h, h'⟩ | ⟨h, b, t, h', hb⟩
        · exact .inl h
        · refine .inr (.inl ⟨h, ?_⟩)
          rw [h', pos_nil]
          omega
        · subst h'
          refine .inr (.inr ⟨b, h1.out.lt, h, h1.out.byte h1.out.lt, ?_⟩)
          rw [beq_eq_false_iff_ne]
          intro x
          exact hb (UInt8.toNat_inj.1 (by show _ = 32; omega))
      clear hways
      have HPT := (show Hid _ from hp3')
      clear hp3'
      generalize pos s T = pT at *
      rcases hway2 with g1 | ⟨g1, g2⟩ | ⟨b0, g0, g1, g2, g3⟩
      all_goals try (exfalso; omega)
      all_goals
        go_wp2_with (first
          | (go_at_call 10; refine (HL.out _).mono ?_; rintro e w1 ⟨rfl, hb1⟩; have hB := (Blk3.new w 26 (.string ⟨#[]⟩) (.string ⟨#[]⟩) (.string ⟨#[]⟩)).below hb1; have f0 := hB.f 0; have f1 := hB.f 1; have f2 := hB.f 2; have c0 := hB.c0; have c1 := hB.c1; have c2 := hB.c2))
        (try simp only [Exit.inBlock, Exit.then])
        have hB3 := ((hB.s0 (.string ⟨#[]⟩)).s1 (.string ⟨#[]⟩)).s2 (.string ⟨#[]⟩)
        have d0 := hB3.c0
        have d1 := hB3.c1
        have d2 := hB3.c2
        refine bodyPost_ret (v := .tuple #[.agg #[(.string ⟨#[]⟩), (.string ⟨#[]⟩), (.string ⟨#[]⟩)], .int .i64 (0)]) ?_ rfl ⟨?_, ?_⟩
        · rw [results_cell_tmp rfl]
          go_simp
        · exact agg_val ⟨hZ.out.1.symm, hZ.out.2.1.symm, hZ.out.2.2.1.symm, hZ.out.2.2.2.symm⟩
        · exact below_set (below_set (below_set (def_below hb1) (Nat.le_refl _)) (Nat.le_refl _)) (Nat.le_refl _)
set_option maxHeartbeats 8000000 in
set_option maxRecDepth 60000 in
theorem jdef_B (s : ByteArray) (hs : s.size ≤ 140737488351232) (T : List UInt8) (hT : Hid (threeL 3 s.data.toList = T)) (U q0 : ByteArray) (n : Nat) (hq0 : s.extract (pos s T) s.size = q0) (HL : Hid (C2 10 q0 U n)) (hn : ((n : Int) == 0) = false) (E1 : (pos s T : Int) + (n : Int) = (s.size : Int)) (A1 A2 A3 : ByteArray) (Z : Int) (hZ : Hid (A1 = ⟨#[]⟩ ∧ A2 = ⟨#[]⟩ ∧ A3 = ⟨#[]⟩ ∧ Z = 0)) (w : World) :
    Calls Tryd.prog 16 #[.string s] w fun e w' => e = .returned (.tuple #[.agg #[.string A1, .string A2, .string A3], .int .i64 Z]) ∧ Below w.heap.size w w' := by
  have HW : Hid (Suf s s.data.toList) := Suf.whole s
  have HP : Hid (pos s s.data.toList = 0) := pos_whole s
  go_enter Tryd.func16, Tryd.ntmps16
  go_wp2
  go_loopw [4] (fun A wr => ∃ l' : List UInt8, A = .int .i64 (pos s l' : Int) ∧ Hid (wr = w.alloc (.cells #[.string ⟨#[]⟩, .string ⟨#[]⟩, .string ⟨#[]⟩] 26)) ∧ Hid (pos s l' ≤ 3) ∧ Hid (Suf s l') ∧ Hid (threeL 3 s.data.toList = threeL (3 - pos s l') l')) (fun A _ => s.size - (intOf A).toNat)
  case atStart => exact ⟨s.data.toList, by rw [HP.out]; rfl, rfl, by rw [HP.out]; exact Nat.zero_le _, HW.out, by rw [HP.out]; exact rfl⟩
  case round =>
    obtain ⟨l', rfl, hwr, hp3, h1, h2⟩ := hrel
    have hwr' := hwr.out
    subst hwr'
    have hp3' := hp3.out
    have hpl := pos_le s l'
    by_cases hgo : pos s l' < 3 ∧ ∃ t, l' = 32 :: t
    · obtain ⟨h3, t, rfl⟩ := hgo
      have hlt := h1.out.lt
      have hbb := h1.out.byte hlt
      have g1 : (pos s (32 :: t) : Int) < 3 := by omega
      have hle : (pos s (32 :: t) : Int) + 1 ≤ (s.size : Int) := by omega
      have HN := (show Hid _ from h1.out.succ)
      go_wp2
      go_roundw
      case rel =>
        refine ⟨t, ?_, by first | exact trivial | rfl, ?_, h1.out.tail, ?_⟩
        · rw [HN.out]; go_num
        · show pos s t ≤ 3; rw [HN.out]; omega
        · show _ = _
          rw [h2.out, three_more (by omega), HN.out]
          congr 1
      case measure => simp [intOf]; omega
    · have hex : 3 - pos s l' = 0 ∨ l' = [] ∨ ∃ b t, l' = b :: t ∧ b ≠ 32 := by
        by_cases h3 : pos s l' < 3
        · right
          cases l' with
          | nil => exact .inl rfl
          | cons b t =>
            right
            refine ⟨b, t, rfl, fun e => hgo ⟨h3, t, by rw [e]⟩⟩
        · left; omega
      have hTl : T = l' := by rw [← hT.out, h2.out, three_end hex]
      subst hTl
      have hways : (¬ (pos s T : Int) < 3) ∨ ((pos s T : Int) < 3 ∧ T = []) ∨ ((pos s T : Int) < 3 ∧ ∃ b t, T = b :: t ∧ b ≠ 32) := by
        by_cases h3 : pos s T < 3
        · rcases hex with h | h | h
          · omega
          · exact .inr (.inl ⟨by omega, h⟩)
          · exact .inr (.inr ⟨by omega, h⟩)
        · exact .inl (by omega)
      clear hgo hex
      have hway2 : (¬ (pos s T : Int) < 3) ∨ ((pos s T : Int) < 3 ∧ ¬ (pos s T : Int) < (s.size : Int)) ∨ (∃ (b : UInt8) (hlt : pos s T < s.size), (pos s T : Int) < 3 ∧ s[pos s T] = b ∧ ((b.toNat : Int) == 32) = false) := by
        rcases hways with h | ⟨h, h'⟩ | ⟨h, b, t, h', hb⟩
        · exact .inl h
        · refine .inr (.inl ⟨h, ?_⟩)
          rw [h', pos_nil]
          omega
        · subst h'
          refine .inr (.inr ⟨b, h1.out.lt, h, h1.out.byte h1.out.lt, ?_⟩)
          rw [beq_eq_false_iff_ne]
          intro x
          exact hb (UInt8.toNat_inj.1 (by show _ = 32; omega))
      clear hways
      have HPT := (show Hid _ from hp3')
      clear hp3'
      generalize pos s T = pT at *
      rcases hway2 with g1 | ⟨g1, g2⟩ | ⟨b0, g0, g1, g2, g3⟩
      all_goals try (exfalso; omega)
      all_goals
        go_wp2_with (first
          | (go_at_call 10; refine (HL.out _).mono ?_; rintro e w1 ⟨rfl, hb1⟩; have hB := (Blk3.new w 26 (.string ⟨#[]⟩) (.string ⟨#[]⟩) (.string ⟨#[]⟩)).below hb1; have f0 := hB.f 0; have f1 := hB.f 1; have f2 := hB.f 2; have c0 := hB.c0; have c1 := hB.c1; have c2 := hB.c2))
        (try simp only [Exit.inBlock, Exit.then])
        have hB3 := ((hB.s0 (.string ⟨#[]⟩)).s1 (.string ⟨#[]⟩)).s2 (.string ⟨#[]⟩)
        have d0 := hB3.c0
        have d1 := hB3.c1
        have d2 := hB3.c2
        refine bodyPost_ret (v := .tuple #[.agg #[(.string ⟨#[]⟩), (.string ⟨#[]⟩), (.string ⟨#[]⟩)], .int .i64 (0)]) ?_ rfl ⟨?_, ?_⟩
        · rw [results_cell_tmp rfl]
          go_simp
        · exact agg_val ⟨hZ.out.1.symm, hZ.out.2.1.symm, hZ.out.2.2.1.symm, hZ.out.2.2.2.symm⟩
        · exact below_set (below_set (below_set (def_below hb1) (Nat.le_refl _)) (Nat.le_refl _)) (Nat.le_refl _)
set_option maxHeartbeats 8000000 in
set_option maxRecDepth 60000 in
theorem jdef_C (s : ByteArray) (hs : s.size ≤ 140737488351232) (T : List UInt8) (hT : Hid (threeL 3 s.data.toList = T)) (U q0 : ByteArray) (n : Nat) (hq0 : s.extract (pos s T) s.size = q0) (HL : Hid (C2 10 q0 U n)) (hn : ((n : Int) == 0) = false) (i1 : Nat) (E1 : (pos s T : Int) + (n : Int) = (i1 : Int)) (hi1 : i1 < s.size) (b : UInt8) (hb : s[i1] = b) (hb2 : ((b.toNat : Int) == 58) = false) (A1 A2 A3 : ByteArray) (Z : Int) (hZ : Hid (A1 = ⟨#[]⟩ ∧ A2 = ⟨#[]⟩ ∧ A3 = ⟨#[]⟩ ∧ Z = 0)) (w : World) :
    Calls Tryd.prog 16 #[.string s] w fun e w' => e = .returned (.tuple #[.agg #[.string A1, .string A2, .string A3], .int .i64 Z]) ∧ Below w.heap.size w w' := by
  have HW : Hid (Suf s s.data.toList) := Suf.whole s
  have HP : Hid (pos s s.data.toList = 0) := pos_whole s
  have hb3 : ((b.toNat : Int) != 58) = true := by simpa using hb2
  have hi2 : ((i1 : Int) == (s.size : Int)) = false := by rw [beq_eq_false_iff_ne]; omega
  go_enter Tryd.func16, Tryd.ntmps16
  go_wp2
  go_loopw [4] (fun A wr => ∃ l' : List UInt8, A = .int .i64 (pos s l' : Int) ∧ Hid (wr = w.alloc (.cells #[.string ⟨#[]⟩, .string ⟨#[]⟩, .string ⟨#[]⟩] 26)) ∧ Hid (pos s l' ≤ 3) ∧ Hid (Suf s l') ∧ Hid (threeL 3 s.data.toList = threeL (3 - pos s l') l')) (fun A _ => s.size - (intOf A).toNat)
  case atStart => exact ⟨s.data.toList, by rw [HP.out]; rfl, rfl, by rw [HP.out]; exact Nat.zero_le _, HW.out, by rw [HP.out]; exact rfl⟩
  case round =>
    obtain ⟨l', rfl, hwr, hp3, h1, h2⟩ := hrel
    have hwr' := hwr.out
    subst hwr'
    have hp3' := hp3.out
    have hpl := pos_le s l'
    by_cases hgo : pos s l' < 3 ∧ ∃ t, l' = 32 :: t
    · obtain ⟨h3, t, rfl⟩ := hgo
      have hlt := h1.out.lt
      have hbb := h1.out.byte hlt
      have g1 : (pos s (32 :: t) : Int) < 3 := by omega
      have hle : (pos s (32 :: t) : Int) + 1 ≤ (s.size : Int) := by omega
      have HN := (show Hid _ from h1.out.succ)
      go_wp2
      go_roundw
      case rel =>
        refine ⟨t, ?_, by first | exact trivial | rfl, ?_, h1.out.tail, ?_⟩
        · rw [HN.out]; go_num
        · show pos s t ≤ 3; rw [HN.out]; omega
        · show _ = _
          rw [h2.out, three_more (by omega), HN.out]
          congr 1
      case measure => simp [intOf]; omega
    · have hex : 3 - pos s l' = 0 ∨ l' = [] ∨ ∃ b t, l' = b :: t ∧ b ≠ 32 := by
        by_cases h3 : pos s l' < 3
        · right
          cases l' with
          | nil => exact .inl rfl
          | cons b t =>
            right
            refine ⟨b, t, rfl, fun e => hgo ⟨h3, t, by rw [e]⟩⟩
        · left; omega
      have hTl : T = l' := by rw [← hT.out, h2.out, three_end hex]
      subst hTl
      have hways : (¬ (pos s T : Int) < 3) ∨ ((pos s T : Int) < 3 ∧ T = []) ∨ ((pos s T : Int) < 3 ∧ ∃ b t, T = b :: t ∧ b ≠ 32) := by
        by_cases h3 : pos s T < 3
        · rcases hex with h | h | h
          · omega
          · exact .inr (.inl ⟨by omega, h⟩)
          · exact .inr (.inr ⟨by omega, h⟩)
        · exact .inl (by omega)
      clear hgo hex
      have hway2 : (¬ (pos s T : Int) < 3) ∨ ((pos s T : Int) < 3 ∧ ¬ (pos s T : Int) < (s.size : Int)) ∨ (∃ (b : UInt8) (hlt : pos s T < s.size), (pos s T : Int) < 3 ∧ s[pos s T] = b ∧ ((b.toNat : Int) == 32) = false) := by
        rcases hways with h | ⟨h, h'⟩ | ⟨h, b, t, h', hb⟩
        · exact .inl h
        · refine .inr (.inl ⟨h, ?_⟩)
          rw [h', pos_nil]
          omega
        · subst h'
          refine .inr (.inr ⟨b, h1.out.lt, h, h1.out.byte h1.out.lt, ?_⟩)
          rw [beq_eq_false_iff_ne]
          intro x
          exact hb (UInt8.toNat_inj.1 (by show _ = 32; omega))
      clear hways
      have HPT := (show Hid _ from hp3')
      clear hp3'
      generalize pos s T = pT at *
      rcases hway2 with g1 | ⟨g1, g2⟩ | ⟨b0, g0, g1, g2, g3⟩
      all_goals try (exfalso; omega)
      all_goals
        go_wp2_with (first
          | (go_at_call 10; refine (HL.out _).mono ?_; rintro e w1 ⟨rfl, hb1⟩; have hB := (Blk3.new w 26 (.string ⟨#[]⟩) (.string ⟨#[]⟩) (.string ⟨#[]⟩)).below hb1; have f0 := hB.f 0; have f1 := hB.f 1; have f2 := hB.f 2; have c0 := hB.c0; have c1 := hB.c1; have c2 := hB.c2))
        (try simp only [Exit.inBlock, Exit.then])
        have hB3 := ((hB.s0 (.string ⟨#[]⟩)).s1 (.string ⟨#[]⟩)).s2 (.string ⟨#[]⟩)
        have d0 := hB3.c0
        have d1 := hB3.c1
        have d2 := hB3.c2
        refine bodyPost_ret (v := .tuple #[.agg #[(.string ⟨#[]⟩), (.string ⟨#[]⟩), (.string ⟨#[]⟩)], .int .i64 (0)]) ?_ rfl ⟨?_, ?_⟩
        · rw [results_cell_tmp rfl]
          go_simp
        · exact agg_val ⟨hZ.out.1.symm, hZ.out.2.1.symm, hZ.out.2.2.1.symm, hZ.out.2.2.2.symm⟩
        · exact below_set (below_set (below_set (def_below hb1) (Nat.le_refl _)) (Nat.le_refl _)) (Nat.le_refl _)
set_option maxHeartbeats 8000000 in
set_option maxRecDepth 60000 in
theorem jdef_D0 (s : ByteArray) (hs : s.size ≤ 140737488351232) (T : List UInt8) (hT : Hid (threeL 3 s.data.toList = T)) (U q0 : ByteArray) (n : Nat) (hq0 : s.extract (pos s T) s.size = q0) (HL : Hid (C2 10 q0 U n)) (hn : ((n : Int) == 0) = false) (i1 : Nat) (E1 : (pos s T : Int) + (n : Int) = (i1 : Int)) (hi1 : i1 < s.size) (hb : s[i1] = 58) (i2 : Nat) (E2 : (i1 : Int) + 1 = (i2 : Int)) (pg : Nat) (HG1 : Hid (CZ 35 s i2 (pg : Int))) (hpg : (pg : Int) ≤ (s.size : Int)) (q1 : ByteArray) (hq1 : s.extract pg s.size = q1) (D : ByteArray) (HDe : Hid (C2 12 q1 D 0)) (A1 A2 A3 : ByteArray) (Z : Int) (hZ : Hid (A1 = ⟨#[]⟩ ∧ A2 = ⟨#[]⟩ ∧ A3 = ⟨#[]⟩ ∧ Z = 0)) (w : World) :
    Calls Tryd.prog 16 #[.string s] w fun e w' => e = .returned (.tuple #[.agg #[.string A1, .string A2, .string A3], .int .i64 Z]) ∧ Below w.heap.size w w' := by
  have HW : Hid (Suf s s.data.toList) := Suf.whole s
  have HP : Hid (pos s s.data.toList = 0) := pos_whole s
  have hi2 : ((i1 : Int) == (s.size : Int)) = false := by rw [beq_eq_false_iff_ne]; omega
  go_enter Tryd.func16, Tryd.ntmps16
  go_wp2
  go_loopw [4] (fun A wr => ∃ l' : List UInt8, A = .int .i64 (pos s l' : Int) ∧ Hid (wr = w.alloc (.cells #[.string ⟨#[]⟩, .string ⟨#[]⟩, .string ⟨#[]⟩] 26)) ∧ Hid (pos s l' ≤ 3) ∧ Hid (Suf s l') ∧ Hid (threeL 3 s.data.toList = threeL (3 - pos s l') l')) (fun A _ => s.size - (intOf A).toNat)
  case atStart => exact ⟨s.data.toList, by rw [HP.out]; rfl, rfl, by rw [HP.out]; exact Nat.zero_le _, HW.out, by rw [HP.out]; exact rfl⟩
  case round =>
    obtain ⟨l', rfl, hwr, hp3, h1, h2⟩ := hrel
    have hwr' := hwr.out
    subst hwr'
    have hp3' := hp3.out
    have hpl := pos_le s l'
    by_cases hgo : pos s l' < 3 ∧ ∃ t, l' = 32 :: t
    · obtain ⟨h3, t, rfl⟩ := hgo
      have hlt := h1.out.lt
      have hbb := h1.out.byte hlt
      have g1 : (pos s (32 :: t) : Int) < 3 := by omega
      have hle : (pos s (32 :: t) : Int) + 1 ≤ (s.size : Int) := by omega
      have HN := (show Hid _ from h1.out.succ)
      go_wp2
      go_roundw
      case rel =>
        refine ⟨t, ?_, by first | exact trivial | rfl, ?_, h1.out.tail, ?_⟩
        · rw [HN.out]; go_num
        · show pos s t ≤ 3; rw [HN.out]; omega
        · show _ = _
          rw [h2.out, three_more (by omega), HN.out]
          congr 1
      case measure => simp [intOf]; omega
    · have hex : 3 - pos s l' = 0 ∨ l' = [] ∨ ∃ b t, l' = b :: t ∧ b ≠ 32 := by
        by_cases h3 : pos s l' < 3
        · right
          cases l' with
          | nil => exact .inl rfl
          | cons b t =>
            right
            refine ⟨b, t, rfl, fun e => hgo ⟨h3, t, by rw [e]⟩⟩
        · left; omega
      have hTl : T = l' := by rw [← hT.out, h2.out, three_end hex]
      subst hTl
      have hways : (¬ (pos s T : Int) < 3) ∨ ((pos s T : Int) < 3 ∧ T = []) ∨ ((pos s T : Int) < 3 ∧ ∃ b t, T = b :: t ∧ b ≠ 32) := by
        by_cases h3 : pos s T < 3
        · rcases hex with h | h | h
          · omega
          · exact .inr (.inl ⟨by omega, h⟩)
          · exact .inr (.inr ⟨by omega, h⟩)
        · exact .inl (by omega)
      clear hgo hex
      have hway2 : (¬ (pos s T : Int) < 3) ∨ ((pos s T : Int) < 3 ∧ ¬ (pos s T : Int) < (s.size : Int)) ∨ (∃ (b : UInt8) (hlt : pos s T < s.size), (pos s T : Int) < 3 ∧ s[pos s T] = b ∧ ((b.toNat : Int) == 32) = false) := by
        rcases hways with h | ⟨h, h'⟩ | ⟨h, b, t, h', hb⟩
        · exact .inl h
        · refine .inr (.inl ⟨h, ?_⟩)
          rw [h', pos_nil]
          omega
        · subst h'
          refine .inr (.inr ⟨b, h1.out.lt, h, h1.out.byte h1.out.lt, ?_⟩)
          rw [beq_eq_false_iff_ne]
          intro x
          exact hb (UInt8.toNat_inj.1 (by show _ = 32; omega))
      clear hways
      have HPT := (show Hid _ from hp3')
      clear hp3'
      generalize pos s T = pT at *
      rcases hway2 with g1 | ⟨g1, g2⟩ | ⟨b0, g0, g1, g2, g3⟩
      all_goals try (exfalso; omega)
      all_goals
        go_wp2_with (first
          | (go_at_call 10; refine (HL.out _).mono ?_; rintro e w1 ⟨rfl, hb1⟩)
          | (go_at_call_of 35 (Value.int .i64 (i2 : Int)); refine (HG1.out _).mono ?_; rintro e w' ⟨rfl, hw'⟩; subst w')
          | (go_at_call 12; refine (HDe.out _).mono ?_; rintro e w2 ⟨rfl, hb2⟩; have hB := ((Blk3.new w 26 (.string ⟨#[]⟩) (.string ⟨#[]⟩) (.string ⟨#[]⟩)).below hb1).below hb2; have f0 := hB.f 0; have f1 := hB.f 1; have f2 := hB.f 2; have c0 := hB.c0; have c1 := hB.c1; have c2 := hB.c2))
        (try simp only [Exit.inBlock, Exit.then])
        have hB3 := ((hB.s0 (.string ⟨#[]⟩)).s1 (.string ⟨#[]⟩)).s2 (.string ⟨#[]⟩)
        have d0 := hB3.c0
        have d1 := hB3.c1
        have d2 := hB3.c2
        refine bodyPost_ret (v := .tuple #[.agg #[(.string ⟨#[]⟩), (.string ⟨#[]⟩), (.string ⟨#[]⟩)], .int .i64 (0)]) ?_ rfl ⟨?_, ?_⟩
        · rw [results_cell_tmp rfl]
          go_simp
        · exact agg_val ⟨hZ.out.1.symm, hZ.out.2.1.symm, hZ.out.2.2.1.symm, hZ.out.2.2.2.symm⟩
        · exact below_set (below_set (below_set (below_next (def_below hb1) hb2) (Nat.le_refl _)) (Nat.le_refl _)) (Nat.le_refl _)

end Go.Proofs.YtadghfgjdfgopaaDoor
