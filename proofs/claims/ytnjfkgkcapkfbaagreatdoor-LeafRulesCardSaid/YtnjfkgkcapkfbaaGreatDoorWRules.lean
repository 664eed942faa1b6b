/- LeafRules: three signs or more are a rule, wherever gaps stand; walked. -/
import Derived.Test.YtnjfkgkcapkfbaaGreatDoorLMany
import Derived.BigRegion
set_option linter.unusedVariables false
namespace Go.Proofs.YtnjfkgkcapkfbaaGreatDoor
open Go.RowKit

/-- k signs c with gaps between and behind. -/
def RuleRow (c : UInt8) (k : Nat) (l : List UInt8) : Prop := l.count c = k ∧ (l.all fun x => x == c || gapB x) = true ∧ (0 < k → l.head? = some c) ∧ (k = 0 → l = []) ∧ l.length ≤ 5 * k

theorem ruleRow_more {c : UInt8} (hc : gapB c = false) {k : Nat} {l : List UInt8} (h : RuleRow c k l) {a b : Nat} (ha : a ≤ 3) (hb : b ≤ 1) : RuleRow c (k + 1) (l ++ [c] ++ List.replicate a 32 ++ List.replicate b 9) := by
  obtain ⟨h1, h2, h3, h4, h5⟩ := h
  have e1 : (32 : UInt8) ≠ c := by rintro rfl; cases hc
  have e2 : (9 : UInt8) ≠ c := by rintro rfl; cases hc
  refine ⟨?_, ?_, ?_, ?_, ?_⟩
  · rw [List.count_append, List.count_append, List.count_append, h1, List.count_replicate, List.count_replicate, if_neg (by simpa using e1), if_neg (by simpa using e2)]
    simp
  · rw [List.all_append, List.all_append, List.all_append, h2]
    have : ∀ n : Nat, ∀ x : UInt8, (x == c || gapB x) = true → (List.replicate n x).all (fun x => x == c || gapB x) = true := by
      intro n x hx
      rw [List.all_replicate]
      split
      · rfl
      · exact hx
    rw [this a 32 (by simp [gapB]), this b 9 (by simp [gapB])]
    simp
  · intro _
    cases l with
    | nil => rfl
    | cons x t =>
      rcases Nat.eq_zero_or_pos k with h0 | h0
      · exact absurd (h4 h0) (by simp)
      · exact h3 h0
  · intro h; omega
  · simp; omega

theorem rule_row {c : UInt8} (hc : c = 42 ∨ c = 45 ∨ c = 95) {k : Nat} {l : List UInt8} (h : RuleRow c k l) : ruleL l = decide (3 ≤ k) := by
  obtain ⟨h1, h2, h3, h4, h5⟩ := h
  rcases Nat.eq_zero_or_pos k with h0 | h0
  · rw [h4 h0, h0]; rfl
  · cases l with
    | nil => have := h3 h0; cases this
    | cons b t =>
      have hb : b = c := Option.some.inj (h3 h0)
      subst hb
      show ((b == 42 || b == 45 || b == 95) && decide (3 ≤ (b :: t).count b) && (b :: t).all fun x => x == b || gapB x) = _
      rw [h1, h2, Bool.and_true]
      rcases hc with rfl | rfl | rfl <;> simp

theorem rule_letter {l : List UInt8} (h : 97 ∈ l) : ruleL l = false := by
  cases hr : ruleL l
  · rfl
  · cases l with
    | nil => cases h
    | cons b t =>
      have hr : ((b == 42 || b == 45 || b == 95) && decide (3 ≤ (b :: t).count b) && (b :: t).all fun x => x == b || gapB x) = true := hr
      rw [Bool.and_eq_true, Bool.and_eq_true] at hr
      have h1 := List.all_eq_true.1 hr.2 97 h
      have h2 := hr.1.1
      simp only [Bool.or_eq_true, beq_iff_eq] at h1 h2
      rcases h1 with h1 | h1
      · subst h1
        rcases h2 with (h2 | h2) | h2 <;> cases h2
      · cases h1

theorem pick3 (l : List Value) (P : Nat → ByteArray → Prop) (hl : ∀ j, j < l.length → ∃ V, l[j]? = some (.string V) ∧ P j V) (m : Nat) (hm : m < l.length) : ∃ V, l[m] = .string V ∧ P m V := by
  obtain ⟨V, h1, h2⟩ := hl m hm
  rw [List.getElem?_eq_getElem hm] at h1
  exact ⟨V, Option.some.inj h1, h2⟩

/-- A place in a text of so many bytes, out of any number. -/
theorem fold_at (a : Int) (h0 : -9223372036854775808 ≤ a) (n : Nat) : ∃ t : Nat, t ≤ n ∧ ((0 ≤ a ∧ a.tmod ((n : Int) + 1) = (t : Int)) ∨ (a < 0 ∧ -9223372036854775808 ≤ a ∧ (-(a + 1)).tmod ((n : Int) + 1) = (t : Int))) := by
  by_cases h : 0 ≤ a
  · have h1 := Int.emod_nonneg a (show ((n : Int) + 1) ≠ 0 by omega)
    have h2 := Int.emod_lt_of_pos a (show (0 : Int) < (n : Int) + 1 by omega)
    exact ⟨(a % ((n : Int) + 1)).toNat, by omega, .inl ⟨h, by rw [Int.tmod_eq_emod_of_nonneg h, Int.toNat_of_nonneg h1]⟩⟩
  · have h1 := Int.emod_nonneg (-(a + 1)) (show ((n : Int) + 1) ≠ 0 by omega)
    have h2 := Int.emod_lt_of_pos (-(a + 1)) (show (0 : Int) < (n : Int) + 1 by omega)
    exact ⟨((-(a + 1)) % ((n : Int) + 1)).toNat, by omega, .inr ⟨by omega, h0, by rw [Int.tmod_eq_emod_of_nonneg (by omega), Int.toNat_of_nonneg h1]⟩⟩

theorem ladd_off (b off i : Nat) : (⟨b, off, none⟩ : Addr).add i = ⟨b, off + i, none⟩ := by unfold Addr.add; split <;> simp_all

set_option maxHeartbeats 8000000 in
set_option maxRecDepth 8000 in
theorem leafRules.walk (a0 : Int) (h0 : -9223372036854775808 ≤ a0 ∧ a0 ≤ 9223372036854775807) (a1 : Option Addr) (b1 o1 len1 cap1 : Nat) (num1 : Nat → Int) (a2 : Int) (h2 : -9223372036854775808 ≤ a2 ∧ a2 ≤ 9223372036854775807) (w : World) (e11 : 0 < len1 → a1 = some ⟨b1, o1, none⟩) (e12 : ∀ i, i < len1 → w.cell? ⟨b1, o1 + i, none⟩ = some (.int .i64 (num1 i))) (e13 : len1 ≤ maxLen) (e14 : ∀ i, -9223372036854775808 ≤ num1 i ∧ num1 i ≤ 9223372036854775807) :
    Calls Tryz.prog 7 #[.int .i64 a0, .slice a1 len1 cap1, .int .i64 a2] w fun e w' => e = .returned (.bool true) ∧ Below w.heap.size w w' := by
  unfold maxLen at e13
  have hblt : 0 < len1 → b1 < w.heap.size := fun h => World.block_lt_of_cell? w ⟨b1, o1 + 0, none⟩ (e12 0 h)
  have E11 := (show Hid _ from e11)
  have E12 := (show Hid _ from e12)
  have HBL := (show Hid _ from hblt)
  clear e11 e12 hblt e14
  obtain ⟨x, hx1, hx⟩ := and_bits 1 (by omega) a0
  obtain ⟨y, hy1, hy⟩ := and_bits 1 (by omega) (a0 / 2)
  have hx : bits .and .i64 a0 1 = (x : Int) := hx
  have hy : bits .and .i64 (a0 / 2) 1 = (y : Int) := hy
  obtain ⟨m, hm, hm2⟩ : ∃ m : Nat, (x : Int) + (y : Int) = (m : Int) ∧ m ≤ 2 := ⟨x + y, by omega, by omega⟩
  obtain ⟨C, cC, c, hC, hc⟩ := pick3 [.string ⟨#[42]⟩, .string ⟨#[45]⟩, .string ⟨#[95]⟩] (fun _ V => ∃ c : UInt8, V = ⟨#[c]⟩ ∧ (c = 42 ∨ c = 45 ∨ c = 95)) (by
    intro j hj
    have : j = 0 ∨ j = 1 ∨ j = 2 := by simp at hj; omega
    rcases this with rfl | rfl | rfl
    · exact ⟨_, rfl, 42, rfl, .inl rfl⟩
    · exact ⟨_, rfl, 45, rfl, .inr (.inl rfl)⟩
    · exact ⟨_, rfl, 95, rfl, .inr (.inr rfl)⟩) m (by simp; omega)
  have HCELL : Hid (∀ wq : World, (wq.alloc (.cells #[.string ⟨#[42]⟩, .string ⟨#[45]⟩, .string ⟨#[95]⟩] 9)).cell? ⟨wq.heap.size, m, none⟩ = some (.string C)) := fun wq => by
    have := lit_cells wq [.string ⟨#[42]⟩, .string ⟨#[45]⟩, .string ⟨#[95]⟩] 9 m (.string C) (by rw [List.getElem?_eq_getElem (by simp; omega), cC])
    rwa [ladd_off, Nat.zero_add] at this
  have hm3 : (m : Int) < 3 := by omega
  have hCs : C.size = 1 := by rw [hC]; rfl
  clear cC
  have HC := (show Hid _ from hC)
  have HCC := (show Hid _ from hc)
  have hgc : Hid (gapB c = false) := by show _ = _; rcases hc with rfl | rfl | rfl <;> rfl
  clear hC hc
  go_enter Tryz.func7, Tryz.ntmps7
  go_wp2_with (go_at_call 9; refine (lshown_any _).mono ?_; rintro e w1 ⟨rfl, hb1⟩; have hcc := HCELL.out w1)
  have hb2 := hb1.alloc hb1.size (.cells #[.string ⟨#[42]⟩, .string ⟨#[45]⟩, .string ⟨#[95]⟩] 9)
  clear hcc hb1
  generalize w1.alloc (.cells #[.string ⟨#[42]⟩, .string ⟨#[45]⟩, .string ⟨#[95]⟩] 9) = w2 at *
  go_loopw [9, 10, 11] (fun S n i wr => ∃ (k : Nat) (B : ByteArray), S = .string B ∧ n = .int .i64 (k : Int) ∧ i = .int .i64 (k : Int) ∧ k ≤ len1 ∧ k ≤ 50 ∧ Hid (RuleRow c k B.data.toList) ∧ Below w.heap.size w wr) (fun _ _ i _ => 50 - (intOf i).toNat)
  case atStart => exact ⟨0, ⟨#[]⟩, rfl, rfl, rfl, by omega, by omega, ⟨rfl, rfl, fun h => by omega, fun _ => rfl, by simp⟩, hb2⟩
  case round =>
    obtain ⟨k, B, rfl, rfl, rfl, hk1, hk2, HR, hbw⟩ := hrel
    clear hb2
    have hBs : B.size ≤ 250 := by have := HR.out.2.2.2.2; rw [len_data] at this; omega
    by_cases hlt : k < len1 ∧ k < 50
    · obtain ⟨h1, h2⟩ := hlt
      have hao' := E11.out (by omega)
      subst hao'
      have hck : wr.cell? ⟨b1, o1 + k, none⟩ = some (.int .i64 (num1 k)) := (hbw.cell (p := ⟨b1, o1 + k, none⟩) (HBL.out (by omega))).trans (E12.out k h1)
      obtain ⟨p, hp3, hp⟩ := and_bits 3 (by omega) (num1 k)
      obtain ⟨q, hq1, hq⟩ := and_bits 1 (by omega) (num1 k / 4)
      have hp : bits .and .i64 (num1 k) 3 = (p : Int) := hp
      have hq : bits .and .i64 (num1 k / 4) 1 = (q : Int) := hq
      have g1 : (k : Int) < (len1 : Int) := by omega
      have g2 : (k : Int) < 50 := by omega
      obtain ⟨P, hP⟩ : ∃ P : ByteArray, P = repB p 32 := ⟨_, rfl⟩
      have hPs : P.size = p := by rw [hP, repB_size]
      obtain ⟨Q, hQ⟩ : ∃ Q : ByteArray, Q = repB q 9 := ⟨_, rfl⟩
      have hQs : Q.size = q := by rw [hQ, repB_size]
      have M1 : Hid (∀ w, Calls Tryz.prog 17 #[.string ⟨#[32]⟩, .int .i64 (p : Int)] w fun e w' => e = .returned (.string P) ∧ w' = w) := fun w => by rw [hP]; exact many_any 32 p (by omega) w
      have M2 : Hid (∀ w, Calls Tryz.prog 17 #[.string ⟨#[9]⟩, .int .i64 (q : Int)] w fun e w' => e = .returned (.string Q) ∧ w' = w) := fun w => by rw [hQ]; exact many_any 9 q (by omega) w
      have HR' : Hid (RuleRow c (k + 1) (B ++ C ++ P ++ Q).data.toList) := by
        have := ruleRow_more hgc.out HR.out hp3 hq1
        rwa [show (B ++ C ++ P ++ Q).data.toList = B.data.toList ++ [c] ++ List.replicate p 32 ++ List.replicate q 9 by rw [ByteArray.data_append, ByteArray.data_append, ByteArray.data_append, Array.toList_append, Array.toList_append, Array.toList_append, HC.out, hP, hQ, repB_data, repB_data]]
      have x1 : ∀ w, (Op.stringOp .add B C).run Tryz.prog w = .ok (.string (B ++ C)) w := fun w => run_string_add_sum (w := w) B C (by omega)
      have y1 : (B ++ C).size = B.size + 1 := by rw [ByteArray.size_append, hCs]
      have x2 : ∀ w, (Op.stringOp .add (B ++ C) P).run Tryz.prog w = .ok (.string (B ++ C ++ P)) w := fun w => run_string_add_sum (w := w) _ P (by omega)
      have y2 : (B ++ C ++ P).size = B.size + 1 + p := by rw [ByteArray.size_append, y1, hPs]
      have x3 : ∀ w, (Op.stringOp .add (B ++ C ++ P) Q).run Tryz.prog w = .ok (.string (B ++ C ++ P ++ Q)) w := fun w => run_string_add_sum (w := w) _ Q (by omega)
      clear hP hQ HR
      go_wp2
      go_quiet (first
        | (go_at_call_of 17 (Value.string ⟨#[32]⟩); exact Calls.quiet_of_same (M1.out _))
        | (go_at_call_of 17 (Value.string ⟨#[9]⟩); exact Calls.quiet_of_same (M2.out _)))
      go_wp2
      go_roundw
      case rel => exact ⟨k + 1, B ++ C ++ P ++ Q, rfl, by go_num, by go_num, by omega, by omega, HR', below_drewN hbw _⟩
      case measure => simp [intOf]; omega
    · have hge : len1 ≤ k ∨ (k < len1 ∧ 50 ≤ k) := by omega
      clear hlt
      have hB5 : (B.size : Int) ≤ 250 := by omega
      obtain ⟨t, htB, htf⟩ := fold_at a2 h2.1 B.size
      have hne : ¬ ((B.size : Int) + 1) = 0 := by omega
      have q0 : (0 : Int) ≤ (t : Int) := by omega
      have q1 : (t : Int) ≤ (B.size : Int) := by omega
      have R2 : Hid (∀ u : BelW w, Calls Tryz.prog 10 #[.string (B.extract 0 t ++ ByteArray.mk #[97] ++ B.extract t B.size)] u.wo fun e w' => e = .returned (.bool false) ∧ ∃ u' : BelW w, w' = u'.wo) := bq (fun w => by
        have := lrule_any (B.extract 0 t ++ ByteArray.mk #[97] ++ B.extract t B.size) (by rw [ByteArray.size_append, ByteArray.size_append, ByteArray.size_extract, ByteArray.size_extract]; show _ + 1 + _ ≤ _; omega) w
        rw [rule_letter (by simp)] at this
        exact this)
      have z1 : (B.extract 0 t).size = t := by rw [ByteArray.size_extract]; omega
      have z2 : (B.extract t B.size).size = B.size - t := by rw [ByteArray.size_extract]; omega
      have x1 : ∀ w, (Op.stringOp .add (B.extract 0 t) (ByteArray.mk #[97])).run Tryz.prog w = .ok (.string (B.extract 0 t ++ ByteArray.mk #[97])) w := fun w => run_string_add_sum (w := w) _ _ (by rw [z1]; show t + 1 ≤ _; omega)
      have z3 : (B.extract 0 t ++ ByteArray.mk #[97]).size = t + 1 := by rw [ByteArray.size_append, z1]; rfl
      have x2 : ∀ w, (Op.stringOp .add (B.extract 0 t ++ ByteArray.mk #[97]) (B.extract t B.size)).run Tryz.prog w = .ok (.string (B.extract 0 t ++ ByteArray.mk #[97] ++ B.extract t B.size)) w := fun w => run_string_add_sum (w := w) _ _ (by rw [z3, z2]; omega)
      have o1 : ∀ w', (Instr.slice 9 (.string B) none (some (.int .i64 (t : Int))) none).run Tryz.prog w' = .ok (.string (B.extract 0 t)) w' := fun w' => by
        rw [run_slice_string_to_if w' 9 B .i64 (t : Int) Tryz.underlying9, if_pos (by omega), Int.toNat_natCast]
      have o2 : ∀ w', (Instr.slice 9 (.string B) (some (.int .i64 (t : Int))) none none).run Tryz.prog w' = .ok (.string (B.extract t B.size)) w' := fun w' => by
        rw [run_slice_string_from_if w' 9 B .i64 (t : Int) Tryz.underlying9, if_pos (by omega), Int.toNat_natCast]
      have HRL := (show Hid _ from rule_row HCC.out HR.out)
      clear z1 z2 z3 HR
      by_cases h3 : 3 ≤ k
      · have q3 : (3 : Int) ≤ (k : Int) := by omega
        have R1 : Hid (∀ u : BelW w, Calls Tryz.prog 10 #[.string B] u.wo fun e w' => e = .returned (.bool true) ∧ ∃ u' : BelW w, w' = u'.wo) := bq (fun w => by
          have := lrule_any B (by omega) w
          rw [HRL.out, decide_eq_true h3] at this
          exact this)
        clear HRL h3
        rcases hge with hg | ⟨hg, hg2⟩ <;> rcases htf with ⟨f1, f2⟩ | ⟨f1, f2, f3⟩
        all_goals
          go_wp2
          refine region_class (fun w' => ∃ u : BelW w, w' = u.wo) (by kernel_rfl) (by kernel_rfl) ⟨BelW.of (below_drewK hbw), rfl⟩ ?_
          haveI : Nonempty (BelW w) := ⟨BelW.of hbw⟩
          repeat (go_big_quiet_step (first
            | (go_at_call_of 10 (Value.string B); exact R1.out _)
            | (go_at_call 10; exact R2.out _)))
          refine wpQuiet_nil ?_
          intro _ hw'
          obtain ⟨u, hu⟩ := hw'
          subst hu
          have HU := (show Hid _ from u.is)
          go_wp2
          go_ret
          exact ⟨rfl, HU.out⟩
      · have q3 : ¬ (3 : Int) ≤ (k : Int) := by omega
        have q4 : decide ((3 : Int) ≤ (k : Int)) = false := decide_eq_false q3
        have hg : len1 ≤ k := by omega
        clear hge
        have R1 : Hid (∀ u : BelW w, Calls Tryz.prog 10 #[.string B] u.wo fun e w' => e = .returned (.bool false) ∧ ∃ u' : BelW w, w' = u'.wo) := bq (fun w => by
          have := lrule_any B (by omega) w
          rw [HRL.out, decide_eq_false h3] at this
          exact this)
        clear HRL h3
        rcases htf with ⟨f1, f2⟩ | ⟨f1, f2, f3⟩
        all_goals
          go_wp2
          refine region_class (fun w' => ∃ u : BelW w, w' = u.wo) (by kernel_rfl) (by kernel_rfl) ⟨BelW.of (below_drewK hbw), rfl⟩ ?_
          haveI : Nonempty (BelW w) := ⟨BelW.of hbw⟩
          repeat (go_big_quiet_step (first
            | (go_at_call_of 10 (Value.string B); exact R1.out _)
            | (go_at_call 10; exact R2.out _)))
          refine wpQuiet_nil ?_
          intro _ hw'
          obtain ⟨u, hu⟩ := hw'
          subst hu
          have HU := (show Hid _ from u.is)
          go_wp2
          go_ret
          exact ⟨rfl, HU.out⟩

end Go.Proofs.YtnjfkgkcapkfbaaGreatDoor
