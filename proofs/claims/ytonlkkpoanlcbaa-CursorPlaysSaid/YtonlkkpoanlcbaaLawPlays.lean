/- CursorPlays: for every line, every kinds and every numbers, a place in a line goes on as the document says; no condition. -/
import Derived.Test.YtonlkkpoanlcbaaCPair
import Derived.ProofKit
import Derived.OpenShut
import Derived.ShutString
import Derived.ChangeOld
import Derived.Below
import Derived.JoinedCond
import Derived.SizedLaws
set_option linter.unusedVariables false
namespace Go.Proofs.Ytonlkkpoanlcbaa.cursorPlays
open Go.ChangeShapes Go.WideShapes Go.ChangeAt Go.RowKit
open Go.ChangeMaps (open_string shut_string)

theorem own : ownKnob Try.prog.godebug = none := by kernel_rfl
theorem laidOut : laidOutB Try.prog = true := by kernel_rfl

set_option maxHeartbeats 8000000 in
set_option maxRecDepth 100000 in
theorem walk (s0 : ByteArray) (ws0 : s0.size ≤ 140737488351232) (a1 : Option Addr) (b1 o1 len1 cap1 : Nat) (num1 : Nat → Int) (a2 : Option Addr) (b2 o2 len2 cap2 : Nat) (num2 : Nat → Int) (w : World) (e11 : 0 < len1 → a1 = some ⟨b1, o1, none⟩) (e12 : ∀ i, i < len1 → w.cell? ⟨b1, o1 + i, none⟩ = some (.int .i64 (num1 i))) (e13 : len1 ≤ maxLen) (e14 : ∀ i, -9223372036854775808 ≤ num1 i ∧ num1 i ≤ 9223372036854775807)
    (e21 : 0 < len2 → a2 = some ⟨b2, o2, none⟩) (e22 : ∀ i, i < len2 → w.cell? ⟨b2, o2 + i, none⟩ = some (.int .i64 (num2 i))) (e23 : len2 ≤ maxLen) (e24 : ∀ i, -9223372036854775808 ≤ num2 i ∧ num2 i ≤ 9223372036854775807) :
    Calls Try.prog 3 #[.string s0, .slice a1 len1 cap1, .slice a2 len2 cap2] w fun e w' => e = .returned (.bool true) ∧ Below w.heap.size w w' := by
  unfold maxLen at e13 e23
  have hblt1 : 0 < len1 → b1 < w.heap.size := fun h => World.block_lt_of_cell? w ⟨b1, o1 + 0, none⟩ (e12 0 h)
  have hblt2 : 0 < len2 → b2 < w.heap.size := fun h => World.block_lt_of_cell? w ⟨b2, o2 + 0, none⟩ (e22 0 h)
  obtain ⟨t, ht, ht2⟩ : ∃ t : ByteArray, (if 3000 < s0.size then s0.extract 0 3000 else s0) = t ∧ t.size ≤ 3000 := by
    refine ⟨_, rfl, ?_⟩
    split
    · rw [ByteArray.size_extract]; omega
    · omega
  have HN := (show Hid (∀ w', Calls Try.prog 8 #[.string t] w' fun e w2 => ∃ b, e = .returned (cptr b) ∧ w'.heap.size ≤ b ∧ Cur w2 b (t.data.toList, 0, 0) ∧ Below w'.heap.size w' w2) from fun w' => new_at t w' (by omega))
  rcases Nat.lt_or_ge 3000 s0.size with hbig | hbig
  · rw [if_pos hbig] at ht
    have hb' : (3000 : Int) < (s0.size : Int) := by omega
    go_enter Try.func3, Try.ntmps3
    go_wp2_with (go_at_call 7; refine (shown_any _).mono ?_; rintro e w1 ⟨rfl, hb1⟩)
    go_wp2_with (go_at_call 8; refine (HN.out _).mono ?_)
    rintro e w2 ⟨a, rfl, la, ca, hb2⟩
    obtain ⟨b, hb⟩ : ∃ b, w2.heap.size = b := ⟨_, rfl⟩
    have HP0 := (show Hid (Pair w (w2.alloc (.cells #[.string t, .int .i64 0, .int .i64 0] 28)) a b (t.data.toList, 0, 0) (t.data.toList, 0, 0)) from Pair.mk hb1 (by omega) la ca hb2 hb)
    clear hb1 la ca hb2 HN
    go_wp2
    go_loopw [10] (fun i wr => ∃ (k : Nat) (σ : Pl), i = .int .i64 (k : Int) ∧ k ≤ len1 + 1 ∧ k ≤ len2 + 1 ∧ k ≤ 61 ∧ Hid (Pair w wr a b σ σ)) (fun i _ => 61 - (intOf i).toNat)
    case atStart => exact ⟨0, _, rfl, by omega, by omega, by omega, HP0⟩
    case round =>
      clear HP0
      obtain ⟨k, σ, rfl, hk1, hk2, hk3, HP⟩ := hrel
      by_cases hlt : k ≤ len1 ∧ k ≤ len2 ∧ k ≤ 60
      · obtain ⟨h1, h2, h3⟩ := hlt
        have g1 : (k : Int) ≤ (len1 : Int) := by omega
        have g2 : (k : Int) ≤ (len2 : Int) := by omega
        have g3 : decide ((k : Int) ≤ 60) = true := by simp; omega
        have d1 : decide ((k : Int) ≤ (len1 : Int)) = true := by simpa using h1
        have d2 : decide ((k : Int) ≤ (len2 : Int)) = true := by simpa using h2
        match k with
        | 0 =>
          obtain ⟨τ, hτ⟩ : ∃ τ, σ = τ := ⟨_, rfl⟩
          subst hτ
          go_wp2
          have Q1 := (show Hid (∀ u : PairW w a b σ, Calls Try.prog 13 #[cptr a] u.wo fun e w2 => e = .returned (.int .i64 (σ.2.2 : Int)) ∧ ∃ u2 : PairW w a b σ, w2 = u2.wo) from fun u => pq_same (column_any u.is.ca))
          have Q2 := (show Hid (∀ u : PairW w a b σ, Calls Try.prog 14 #[cptr a] u.wo fun e w2 => e = .returned (.int .i64 (indR σ : Int)) ∧ ∃ u2 : PairW w a b σ, w2 = u2.wo) from fun u => pq_same (indent_any u.is.ca))
          have Q3 := (show Hid (∀ u : PairW w a b σ, Calls Try.prog 15 #[cptr b] u.wo fun e w2 => e = .returned (.int .i64 (indR σ : Int)) ∧ ∃ u2 : PairW w a b σ, w2 = u2.wo) from fun u => pq_more (rindent_any u.is.cb))
          have Q4 := (show Hid (∀ u : PairW w a b σ, Calls Try.prog 16 #[cptr a] u.wo fun e w2 => e = .returned (.bool (beh σ.1).isEmpty) ∧ ∃ u2 : PairW w a b σ, w2 = u2.wo) from fun u => pq_drew (blank_any u.is.ca))
          have Q5 := (show Hid (∀ u : PairW w a b σ, Calls Try.prog 17 #[cptr b] u.wo fun e w2 => e = .returned (.bool (beh σ.1).isEmpty) ∧ ∃ u2 : PairW w a b σ, w2 = u2.wo) from fun u => pq_same (rblank_any u.is.cb))
          have Q6 := (show Hid (∀ u : PairW w a b σ, Calls Try.prog 18 #[cptr a] u.wo fun e w2 => e = .returned (.int .u8 (((beh σ.1).headD 0).toNat : Int)) ∧ ∃ u2 : PairW w a b σ, w2 = u2.wo) from fun u => pq_same (next_any u.is.ca))
          have Q7 := (show Hid (∀ u : PairW w a b σ, Calls Try.prog 19 #[cptr b] u.wo fun e w2 => e = .returned (.int .u8 (((beh σ.1).headD 0).toNat : Int)) ∧ ∃ u2 : PairW w a b σ, w2 = u2.wo) from fun u => pq_same (rnext_any u.is.cb))
          have Q8 := (show Hid (∀ u : PairW w a b σ, Calls Try.prog 20 #[cptr a] u.wo fun e w2 => e = .returned (.string ⟨(restR σ).toArray⟩) ∧ ∃ u2 : PairW w a b σ, w2 = u2.wo) from fun u => pq_drew (rest_any u.is.ca))
          have Q9 := (show Hid (∀ u : PairW w a b σ, Calls Try.prog 21 #[cptr b] u.wo fun e w2 => e = .returned (.string ⟨(restR σ).toArray⟩) ∧ ∃ u2 : PairW w a b σ, w2 = u2.wo) from fun u => pq_same (rrest_any u.is.cb))
          have QA := (show Hid (∀ u : PairW w a b σ, Calls Try.prog 22 #[cptr a] u.wo fun e w2 => e = .returned (.string ⟨(beh σ.1).toArray⟩) ∧ ∃ u2 : PairW w a b σ, w2 = u2.wo) from fun u => pq_drew (behind_any u.is.ca))
          have QB := (show Hid (∀ u : PairW w a b σ, Calls Try.prog 23 #[cptr b] u.wo fun e w2 => e = .returned (.string ⟨(beh σ.1).toArray⟩) ∧ ∃ u2 : PairW w a b σ, w2 = u2.wo) from fun u => pq_same (rbehind_any u.is.cb))
          have hcell := (show ∀ u : PairW w a b σ, u.wo.cell? ⟨b, 2, none⟩ = some (.int .i64 (σ.2.2 : Int)) from pair_col)
          generalize σ.2.2 = c at *
          generalize indR σ = I at *
          generalize (beh σ.1).isEmpty = B at *
          generalize ((beh σ.1).headD 0).toNat = X at *
          generalize (ByteArray.mk (restR σ).toArray) = R at *
          generalize (ByteArray.mk (beh σ.1).toArray) = H at *
          refine region_class (fun w' => ∃ u : PairW w a b σ, w' = u.wo) (by kernel_rfl) (by kernel_rfl) ⟨PairW.of (HP.out.drewN 1), rfl⟩ ?_
          haveI : Nonempty (PairW w a b σ) := ⟨PairW.of HP.out⟩
          repeat (go_big_quiet_step (first
            | (go_at_call 13; exact Q1.out _)
            | (go_at_call 14; exact Q2.out _)
            | (go_at_call 15; exact Q3.out _)
            | (go_at_call 16; exact Q4.out _)
            | (go_at_call 17; exact Q5.out _)
            | (go_at_call 18; exact Q6.out _)
            | (go_at_call 19; exact Q7.out _)
            | (go_at_call 20; exact Q8.out _)
            | (go_at_call 21; exact Q9.out _)
            | (go_at_call 22; exact QA.out _)
            | (go_at_call 23; exact QB.out _)))
          refine wpQuiet_nil ?_
          intro _ hw'
          obtain ⟨u, hu⟩ := hw'
          subst hu
          have HU := (show Hid (Pair w u.wo a b σ σ) from u.is)
          go_wp2
          go_roundw
          case rel => exact ⟨1, σ, by go_num, by omega, by omega, by omega, HU⟩
          case measure => simp [intOf] <;> omega

        | j + 1 =>
          have hj1 : j < len1 := by omega
          have hj2 : j < len2 := by omega
          have hj1' : (j : Int) < (len1 : Int) := by omega
          have hj2' : (j : Int) < (len2 : Int) := by omega
          have ha1 := e11 (by omega)
          have ha2 := e21 (by omega)
          subst ha1 ha2
          have hck1 : wr.cell? ⟨b1, o1 + j, none⟩ = some (.int .i64 (num1 j)) := (HP.out.below.cell (p := ⟨b1, o1 + j, none⟩) (hblt1 (by omega))).trans (e12 j hj1)
          have hck2 : wr.cell? ⟨b2, o2 + j, none⟩ = some (.int .i64 (num2 j)) := (HP.out.below.cell (p := ⟨b2, o2 + j, none⟩) (hblt2 (by omega))).trans (e22 j hj2)
          have hn9 := (e24 j).2
          generalize num2 j = n at *
          generalize num1 j = kd at *
          clear e11 e12 e13 e14 e21 e22 e23 e24 hblt1 hblt2
          by_cases hkd1 : kd = 1
          · subst hkd1
            obtain ⟨τ, hτ⟩ : ∃ τ, skipR n.toNat σ = τ := ⟨_, rfl⟩
            obtain ⟨V, hV⟩ : ∃ V : Int, ((skipR n.toNat σ).2.2 : Int) - (σ.2.2 : Int) = V := ⟨_, rfl⟩
            have HSk := (show Hid (∀ w', Pair w w' a b σ σ → Calls Try.prog 9 #[cptr a, .int .i64 n] w' fun e w3 => e = .returned (.int .i64 V) ∧ Pair w w3 a b τ σ) from fun w' h => (skip_any h.ca n hn9).mono fun e w3 ⟨he, hc, ho⟩ => ⟨by rw [he, hV], by rw [hτ] at hc; exact h.oth_a hc ho⟩)
            have HRk := (show Hid (∀ w', Pair w w' a b τ σ → Calls Try.prog 10 #[cptr b, .int .i64 n] w' fun e w3 => e = .returned (.int .i64 V) ∧ Pair w w3 a b τ τ) from fun w' h => (rskip_any h.cb n hn9).mono fun e w3 ⟨he, hc, ho⟩ => ⟨by rw [he, hV], by rw [hτ] at hc; exact h.oth_b hc ho⟩)
            clear hτ hV
            go_wp2_with (first
              | (go_at_call 9; refine (HSk.out _ HP.out).mono ?_; rintro e w3 ⟨rfl, hp3⟩; have HP3 := (show Hid (Pair w w3 a b τ σ) from hp3); clear hp3)
              | (go_at_call 10; refine (HRk.out _ HP3.out).mono ?_; rintro e w4 ⟨rfl, hp4⟩; have HP4 := (show Hid (Pair w w4 a b τ τ) from hp4); clear hp4))
            clear HP HP3 HSk HRk hck1 hck2
            have Q1 := (show Hid (∀ u : PairW w a b τ, Calls Try.prog 13 #[cptr a] u.wo fun e w2 => e = .returned (.int .i64 (τ.2.2 : Int)) ∧ ∃ u2 : PairW w a b τ, w2 = u2.wo) from fun u => pq_same (column_any u.is.ca))
            have Q2 := (show Hid (∀ u : PairW w a b τ, Calls Try.prog 14 #[cptr a] u.wo fun e w2 => e = .returned (.int .i64 (indR τ : Int)) ∧ ∃ u2 : PairW w a b τ, w2 = u2.wo) from fun u => pq_same (indent_any u.is.ca))
            have Q3 := (show Hid (∀ u : PairW w a b τ, Calls Try.prog 15 #[cptr b] u.wo fun e w2 => e = .returned (.int .i64 (indR τ : Int)) ∧ ∃ u2 : PairW w a b τ, w2 = u2.wo) from fun u => pq_more (rindent_any u.is.cb))
            have Q4 := (show Hid (∀ u : PairW w a b τ, Calls Try.prog 16 #[cptr a] u.wo fun e w2 => e = .returned (.bool (beh τ.1).isEmpty) ∧ ∃ u2 : PairW w a b τ, w2 = u2.wo) from fun u => pq_drew (blank_any u.is.ca))
            have Q5 := (show Hid (∀ u : PairW w a b τ, Calls Try.prog 17 #[cptr b] u.wo fun e w2 => e = .returned (.bool (beh τ.1).isEmpty) ∧ ∃ u2 : PairW w a b τ, w2 = u2.wo) from fun u => pq_same (rblank_any u.is.cb))
            have Q6 := (show Hid (∀ u : PairW w a b τ, Calls Try.prog 18 #[cptr a] u.wo fun e w2 => e = .returned (.int .u8 (((beh τ.1).headD 0).toNat : Int)) ∧ ∃ u2 : PairW w a b τ, w2 = u2.wo) from fun u => pq_same (next_any u.is.ca))
            have Q7 := (show Hid (∀ u : PairW w a b τ, Calls Try.prog 19 #[cptr b] u.wo fun e w2 => e = .returned (.int .u8 (((beh τ.1).headD 0).toNat : Int)) ∧ ∃ u2 : PairW w a b τ, w2 = u2.wo) from fun u => pq_same (rnext_any u.is.cb))
            have Q8 := (show Hid (∀ u : PairW w a b τ, Calls Try.prog 20 #[cptr a] u.wo fun e w2 => e = .returned (.string ⟨(restR τ).toArray⟩) ∧ ∃ u2 : PairW w a b τ, w2 = u2.wo) from fun u => pq_drew (rest_any u.is.ca))
            have Q9 := (show Hid (∀ u : PairW w a b τ, Calls Try.prog 21 #[cptr b] u.wo fun e w2 => e = .returned (.string ⟨(restR τ).toArray⟩) ∧ ∃ u2 : PairW w a b τ, w2 = u2.wo) from fun u => pq_same (rrest_any u.is.cb))
            have QA := (show Hid (∀ u : PairW w a b τ, Calls Try.prog 22 #[cptr a] u.wo fun e w2 => e = .returned (.string ⟨(beh τ.1).toArray⟩) ∧ ∃ u2 : PairW w a b τ, w2 = u2.wo) from fun u => pq_drew (behind_any u.is.ca))
            have QB := (show Hid (∀ u : PairW w a b τ, Calls Try.prog 23 #[cptr b] u.wo fun e w2 => e = .returned (.string ⟨(beh τ.1).toArray⟩) ∧ ∃ u2 : PairW w a b τ, w2 = u2.wo) from fun u => pq_same (rbehind_any u.is.cb))
            have hcell := (show ∀ u : PairW w a b τ, u.wo.cell? ⟨b, 2, none⟩ = some (.int .i64 (τ.2.2 : Int)) from pair_col)
            generalize τ.2.2 = c at *
            generalize indR τ = I at *
            generalize (beh τ.1).isEmpty = B at *
            generalize ((beh τ.1).headD 0).toNat = X at *
            generalize (ByteArray.mk (restR τ).toArray) = R at *
            generalize (ByteArray.mk (beh τ.1).toArray) = H at *
            refine region_class (fun w' => ∃ u : PairW w a b τ, w' = u.wo) (by kernel_rfl) (by kernel_rfl) ⟨PairW.of (HP4.out.drewN 1), rfl⟩ ?_
            haveI : Nonempty (PairW w a b τ) := ⟨PairW.of HP4.out⟩
            repeat (go_big_quiet_step (first
              | (go_at_call 13; exact Q1.out _)
              | (go_at_call 14; exact Q2.out _)
              | (go_at_call 15; exact Q3.out _)
              | (go_at_call 16; exact Q4.out _)
              | (go_at_call 17; exact Q5.out _)
              | (go_at_call 18; exact Q6.out _)
              | (go_at_call 19; exact Q7.out _)
              | (go_at_call 20; exact Q8.out _)
              | (go_at_call 21; exact Q9.out _)
              | (go_at_call 22; exact QA.out _)
              | (go_at_call 23; exact QB.out _)))
            refine wpQuiet_nil ?_
            intro _ hw'
            obtain ⟨u, hu⟩ := hw'
            subst hu
            have HU := (show Hid (Pair w u.wo a b τ τ) from u.is)
            go_wp2
            go_roundw
            case rel => exact ⟨j + 2, τ, by go_num, by omega, by omega, by omega, HU⟩
            case measure => simp [intOf] <;> omega

          · by_cases hkd2 : kd = 2
            · subst hkd2
              obtain ⟨τ, hτ⟩ : ∃ τ, moveR n.toNat σ = τ := ⟨_, rfl⟩
              have HSk := (show Hid (∀ w', Pair w w' a b σ σ → Calls Try.prog 11 #[cptr a, .int .i64 n] w' fun e w3 => e = .returned (.tuple #[]) ∧ Pair w w3 a b τ σ) from fun w' h => (move_any h.ca n hn9).mono fun e w3 ⟨he, hc, ho⟩ => ⟨he, by rw [hτ] at hc; exact h.oth_a hc ho⟩)
              have HRk := (show Hid (∀ w', Pair w w' a b τ σ → Calls Try.prog 12 #[cptr b, .int .i64 n] w' fun e w3 => e = .returned (.tuple #[]) ∧ Pair w w3 a b τ τ) from fun w' h => (rmove_any h.cb n hn9).mono fun e w3 ⟨he, hc, ho⟩ => ⟨he, by rw [hτ] at hc; exact h.oth_b hc ho⟩)
              clear hτ
              go_wp2_with (first
                | (go_at_call 11; refine (HSk.out _ HP.out).mono ?_; rintro e w3 ⟨rfl, hp3⟩; have HP3 := (show Hid (Pair w w3 a b τ σ) from hp3); clear hp3)
                | (go_at_call 12; refine (HRk.out _ HP3.out).mono ?_; rintro e w4 ⟨rfl, hp4⟩; have HP4 := (show Hid (Pair w w4 a b τ τ) from hp4); clear hp4))
              clear HP HP3 HSk HRk hck1 hck2
              have Q1 := (show Hid (∀ u : PairW w a b τ, Calls Try.prog 13 #[cptr a] u.wo fun e w2 => e = .returned (.int .i64 (τ.2.2 : Int)) ∧ ∃ u2 : PairW w a b τ, w2 = u2.wo) from fun u => pq_same (column_any u.is.ca))
              have Q2 := (show Hid (∀ u : PairW w a b τ, Calls Try.prog 14 #[cptr a] u.wo fun e w2 => e = .returned (.int .i64 (indR τ : Int)) ∧ ∃ u2 : PairW w a b τ, w2 = u2.wo) from fun u => pq_same (indent_any u.is.ca))
              have Q3 := (show Hid (∀ u : PairW w a b τ, Calls Try.prog 15 #[cptr b] u.wo fun e w2 => e = .returned (.int .i64 (indR τ : Int)) ∧ ∃ u2 : PairW w a b τ, w2 = u2.wo) from fun u => pq_more (rindent_any u.is.cb))
              have Q4 := (show Hid (∀ u : PairW w a b τ, Calls Try.prog 16 #[cptr a] u.wo fun e w2 => e = .returned (.bool (beh τ.1).isEmpty) ∧ ∃ u2 : PairW w a b τ, w2 = u2.wo) from fun u => pq_drew (blank_any u.is.ca))
              have Q5 := (show Hid (∀ u : PairW w a b τ, Calls Try.prog 17 #[cptr b] u.wo fun e w2 => e = .returned (.bool (beh τ.1).isEmpty) ∧ ∃ u2 : PairW w a b τ, w2 = u2.wo) from fun u => pq_same (rblank_any u.is.cb))
              have Q6 := (show Hid (∀ u : PairW w a b τ, Calls Try.prog 18 #[cptr a] u.wo fun e w2 => e = .returned (.int .u8 (((beh τ.1).headD 0).toNat : Int)) ∧ ∃ u2 : PairW w a b τ, w2 = u2.wo) from fun u => pq_same (next_any u.is.ca))
              have Q7 := (show Hid (∀ u : PairW w a b τ, Calls Try.prog 19 #[cptr b] u.wo fun e w2 => e = .returned (.int .u8 (((beh τ.1).headD 0).toNat : Int)) ∧ ∃ u2 : PairW w a b τ, w2 = u2.wo) from fun u => pq_same (rnext_any u.is.cb))
              have Q8 := (show Hid (∀ u : PairW w a b τ, Calls Try.prog 20 #[cptr a] u.wo fun e w2 => e = .returned (.string ⟨(restR τ).toArray⟩) ∧ ∃ u2 : PairW w a b τ, w2 = u2.wo) from fun u => pq_drew (rest_any u.is.ca))
              have Q9 := (show Hid (∀ u : PairW w a b τ, Calls Try.prog 21 #[cptr b] u.wo fun e w2 => e = .returned (.string ⟨(restR τ).toArray⟩) ∧ ∃ u2 : PairW w a b τ, w2 = u2.wo) from fun u => pq_same (rrest_any u.is.cb))
              have QA := (show Hid (∀ u : PairW w a b τ, Calls Try.prog 22 #[cptr a] u.wo fun e w2 => e = .returned (.string ⟨(beh τ.1).toArray⟩) ∧ ∃ u2 : PairW w a b τ, w2 = u2.wo) from fun u => pq_drew (behind_any u.is.ca))
              have QB := (show Hid (∀ u : PairW w a b τ, Calls Try.prog 23 #[cptr b] u.wo fun e w2 => e = .returned (.string ⟨(beh τ.1).toArray⟩) ∧ ∃ u2 : PairW w a b τ, w2 = u2.wo) from fun u => pq_same (rbehind_any u.is.cb))
              have hcell := (show ∀ u : PairW w a b τ, u.wo.cell? ⟨b, 2, none⟩ = some (.int .i64 (τ.2.2 : Int)) from pair_col)
              generalize τ.2.2 = c at *
              generalize indR τ = I at *
              generalize (beh τ.1).isEmpty = B at *
              generalize ((beh τ.1).headD 0).toNat = X at *
              generalize (ByteArray.mk (restR τ).toArray) = R at *
              generalize (ByteArray.mk (beh τ.1).toArray) = H at *
              refine region_class (fun w' => ∃ u : PairW w a b τ, w' = u.wo) (by kernel_rfl) (by kernel_rfl) ⟨PairW.of (HP4.out.drewN 1), rfl⟩ ?_
              haveI : Nonempty (PairW w a b τ) := ⟨PairW.of HP4.out⟩
              repeat (go_big_quiet_step (first
                | (go_at_call 13; exact Q1.out _)
                | (go_at_call 14; exact Q2.out _)
                | (go_at_call 15; exact Q3.out _)
                | (go_at_call 16; exact Q4.out _)
                | (go_at_call 17; exact Q5.out _)
                | (go_at_call 18; exact Q6.out _)
                | (go_at_call 19; exact Q7.out _)
                | (go_at_call 20; exact Q8.out _)
                | (go_at_call 21; exact Q9.out _)
                | (go_at_call 22; exact QA.out _)
                | (go_at_call 23; exact QB.out _)))
              refine wpQuiet_nil ?_
              intro _ hw'
              obtain ⟨u, hu⟩ := hw'
              subst hu
              have HU := (show Hid (Pair w u.wo a b τ τ) from u.is)
              go_wp2
              go_roundw
              case rel => exact ⟨j + 2, τ, by go_num, by omega, by omega, by omega, HU⟩
              case measure => simp [intOf] <;> omega

            · have q1 : (kd == 1) = false := by simpa using hkd1
              have q2 : (kd == 2) = false := by simpa using hkd2
              clear hkd1 hkd2
              go_wp2
              have Q1 := (show Hid (∀ u : PairW w a b σ, Calls Try.prog 13 #[cptr a] u.wo fun e w2 => e = .returned (.int .i64 (σ.2.2 : Int)) ∧ ∃ u2 : PairW w a b σ, w2 = u2.wo) from fun u => pq_same (column_any u.is.ca))
              have Q2 := (show Hid (∀ u : PairW w a b σ, Calls Try.prog 14 #[cptr a] u.wo fun e w2 => e = .returned (.int .i64 (indR σ : Int)) ∧ ∃ u2 : PairW w a b σ, w2 = u2.wo) from fun u => pq_same (indent_any u.is.ca))
              have Q3 := (show Hid (∀ u : PairW w a b σ, Calls Try.prog 15 #[cptr b] u.wo fun e w2 => e = .returned (.int .i64 (indR σ : Int)) ∧ ∃ u2 : PairW w a b σ, w2 = u2.wo) from fun u => pq_more (rindent_any u.is.cb))
              have Q4 := (show Hid (∀ u : PairW w a b σ, Calls Try.prog 16 #[cptr a] u.wo fun e w2 => e = .returned (.bool (beh σ.1).isEmpty) ∧ ∃ u2 : PairW w a b σ, w2 = u2.wo) from fun u => pq_drew (blank_any u.is.ca))
              have Q5 := (show Hid (∀ u : PairW w a b σ, Calls Try.prog 17 #[cptr b] u.wo fun e w2 => e = .returned (.bool (beh σ.1).isEmpty) ∧ ∃ u2 : PairW w a b σ, w2 = u2.wo) from fun u => pq_same (rblank_any u.is.cb))
              have Q6 := (show Hid (∀ u : PairW w a b σ, Calls Try.prog 18 #[cptr a] u.wo fun e w2 => e = .returned (.int .u8 (((beh σ.1).headD 0).toNat : Int)) ∧ ∃ u2 : PairW w a b σ, w2 = u2.wo) from fun u => pq_same (next_any u.is.ca))
              have Q7 := (show Hid (∀ u : PairW w a b σ, Calls Try.prog 19 #[cptr b] u.wo fun e w2 => e = .returned (.int .u8 (((beh σ.1).headD 0).toNat : Int)) ∧ ∃ u2 : PairW w a b σ, w2 = u2.wo) from fun u => pq_same (rnext_any u.is.cb))
              have Q8 := (show Hid (∀ u : PairW w a b σ, Calls Try.prog 20 #[cptr a] u.wo fun e w2 => e = .returned (.string ⟨(restR σ).toArray⟩) ∧ ∃ u2 : PairW w a b σ, w2 = u2.wo) from fun u => pq_drew (rest_any u.is.ca))
              have Q9 := (show Hid (∀ u : PairW w a b σ, Calls Try.prog 21 #[cptr b] u.wo fun e w2 => e = .returned (.string ⟨(restR σ).toArray⟩) ∧ ∃ u2 : PairW w a b σ, w2 = u2.wo) from fun u => pq_same (rrest_any u.is.cb))
              have QA := (show Hid (∀ u : PairW w a b σ, Calls Try.prog 22 #[cptr a] u.wo fun e w2 => e = .returned (.string ⟨(beh σ.1).toArray⟩) ∧ ∃ u2 : PairW w a b σ, w2 = u2.wo) from fun u => pq_drew (behind_any u.is.ca))
              have QB := (show Hid (∀ u : PairW w a b σ, Calls Try.prog 23 #[cptr b] u.wo fun e w2 => e = .returned (.string ⟨(beh σ.1).toArray⟩) ∧ ∃ u2 : PairW w a b σ, w2 = u2.wo) from fun u => pq_same (rbehind_any u.is.cb))
              have hcell := (show ∀ u : PairW w a b σ, u.wo.cell? ⟨b, 2, none⟩ = some (.int .i64 (σ.2.2 : Int)) from pair_col)
              generalize σ.2.2 = c at *
              generalize indR σ = I at *
              generalize (beh σ.1).isEmpty = B at *
              generalize ((beh σ.1).headD 0).toNat = X at *
              generalize (ByteArray.mk (restR σ).toArray) = R at *
              generalize (ByteArray.mk (beh σ.1).toArray) = H at *
              refine region_class (fun w' => ∃ u : PairW w a b σ, w' = u.wo) (by kernel_rfl) (by kernel_rfl) ⟨PairW.of (HP.out.drewN 1), rfl⟩ ?_
              haveI : Nonempty (PairW w a b σ) := ⟨PairW.of HP.out⟩
              repeat (go_big_quiet_step (first
                | (go_at_call 13; exact Q1.out _)
                | (go_at_call 14; exact Q2.out _)
                | (go_at_call 15; exact Q3.out _)
                | (go_at_call 16; exact Q4.out _)
                | (go_at_call 17; exact Q5.out _)
                | (go_at_call 18; exact Q6.out _)
                | (go_at_call 19; exact Q7.out _)
                | (go_at_call 20; exact Q8.out _)
                | (go_at_call 21; exact Q9.out _)
                | (go_at_call 22; exact QA.out _)
                | (go_at_call 23; exact QB.out _)))
              refine wpQuiet_nil ?_
              intro _ hw'
              obtain ⟨u, hu⟩ := hw'
              subst hu
              have HU := (show Hid (Pair w u.wo a b σ σ) from u.is)
              go_wp2
              go_roundw
              case rel => exact ⟨j + 2, σ, by go_num, by omega, by omega, by omega, HU⟩
              case measure => simp [intOf] <;> omega

      · clear e11 e12 e13 e14 e21 e22 e23 e24 hblt1 hblt2
        go_wp2
        all_goals go_ret
        all_goals exact ⟨rfl, HP.out.below⟩
  · rw [if_neg (by omega)] at ht
    have hb' : ¬ ((3000 : Int) < (s0.size : Int)) := by omega
    subst ht
    go_enter Try.func3, Try.ntmps3
    go_wp2_with (go_at_call 7; refine (shown_any _).mono ?_; rintro e w1 ⟨rfl, hb1⟩)
    go_wp2_with (go_at_call 8; refine (HN.out _).mono ?_)
    rintro e w2 ⟨a, rfl, la, ca, hb2⟩
    obtain ⟨b, hb⟩ : ∃ b, w2.heap.size = b := ⟨_, rfl⟩
    have HP0 := (show Hid (Pair w (w2.alloc (.cells #[.string s0, .int .i64 0, .int .i64 0] 28)) a b (s0.data.toList, 0, 0) (s0.data.toList, 0, 0)) from Pair.mk hb1 (by omega) la ca hb2 hb)
    clear hb1 la ca hb2 HN
    go_wp2
    go_loopw [10] (fun i wr => ∃ (k : Nat) (σ : Pl), i = .int .i64 (k : Int) ∧ k ≤ len1 + 1 ∧ k ≤ len2 + 1 ∧ k ≤ 61 ∧ Hid (Pair w wr a b σ σ)) (fun i _ => 61 - (intOf i).toNat)
    case atStart => exact ⟨0, _, rfl, by omega, by omega, by omega, HP0⟩
    case round =>
      clear HP0
      obtain ⟨k, σ, rfl, hk1, hk2, hk3, HP⟩ := hrel
      by_cases hlt : k ≤ len1 ∧ k ≤ len2 ∧ k ≤ 60
      · obtain ⟨h1, h2, h3⟩ := hlt
        have g1 : (k : Int) ≤ (len1 : Int) := by omega
        have g2 : (k : Int) ≤ (len2 : Int) := by omega
        have g3 : decide ((k : Int) ≤ 60) = true := by simp; omega
        have d1 : decide ((k : Int) ≤ (len1 : Int)) = true := by simpa using h1
        have d2 : decide ((k : Int) ≤ (len2 : Int)) = true := by simpa using h2
        match k with
        | 0 =>
          obtain ⟨τ, hτ⟩ : ∃ τ, σ = τ := ⟨_, rfl⟩
          subst hτ
          go_wp2
          have Q1 := (show Hid (∀ u : PairW w a b σ, Calls Try.prog 13 #[cptr a] u.wo fun e w2 => e = .returned (.int .i64 (σ.2.2 : Int)) ∧ ∃ u2 : PairW w a b σ, w2 = u2.wo) from fun u => pq_same (column_any u.is.ca))
          have Q2 := (show Hid (∀ u : PairW w a b σ, Calls Try.prog 14 #[cptr a] u.wo fun e w2 => e = .returned (.int .i64 (indR σ : Int)) ∧ ∃ u2 : PairW w a b σ, w2 = u2.wo) from fun u => pq_same (indent_any u.is.ca))
          have Q3 := (show Hid (∀ u : PairW w a b σ, Calls Try.prog 15 #[cptr b] u.wo fun e w2 => e = .returned (.int .i64 (indR σ : Int)) ∧ ∃ u2 : PairW w a b σ, w2 = u2.wo) from fun u => pq_more (rindent_any u.is.cb))
          have Q4 := (show Hid (∀ u : PairW w a b σ, Calls Try.prog 16 #[cptr a] u.wo fun e w2 => e = .returned (.bool (beh σ.1).isEmpty) ∧ ∃ u2 : PairW w a b σ, w2 = u2.wo) from fun u => pq_drew (blank_any u.is.ca))
          have Q5 := (show Hid (∀ u : PairW w a b σ, Calls Try.prog 17 #[cptr b] u.wo fun e w2 => e = .returned (.bool (beh σ.1).isEmpty) ∧ ∃ u2 : PairW w a b σ, w2 = u2.wo) from fun u => pq_same (rblank_any u.is.cb))
          have Q6 := (show Hid (∀ u : PairW w a b σ, Calls Try.prog 18 #[cptr a] u.wo fun e w2 => e = .returned (.int .u8 (((beh σ.1).headD 0).toNat : Int)) ∧ ∃ u2 : PairW w a b σ, w2 = u2.wo) from fun u => pq_same (next_any u.is.ca))
          have Q7 := (show Hid (∀ u : PairW w a b σ, Calls Try.prog 19 #[cptr b] u.wo fun e w2 => e = .returned (.int .u8 (((beh σ.1).headD 0).toNat : Int)) ∧ ∃ u2 : PairW w a b σ, w2 = u2.wo) from fun u => pq_same (rnext_any u.is.cb))
          have Q8 := (show Hid (∀ u : PairW w a b σ, Calls Try.prog 20 #[cptr a] u.wo fun e w2 => e = .returned (.string ⟨(restR σ).toArray⟩) ∧ ∃ u2 : PairW w a b σ, w2 = u2.wo) from fun u => pq_drew (rest_any u.is.ca))
          have Q9 := (show Hid (∀ u : PairW w a b σ, Calls Try.prog 21 #[cptr b] u.wo fun e w2 => e = .returned (.string ⟨(restR σ).toArray⟩) ∧ ∃ u2 : PairW w a b σ, w2 = u2.wo) from fun u => pq_same (rrest_any u.is.cb))
          have QA := (show Hid (∀ u : PairW w a b σ, Calls Try.prog 22 #[cptr a] u.wo fun e w2 => e = .returned (.string ⟨(beh σ.1).toArray⟩) ∧ ∃ u2 : PairW w a b σ, w2 = u2.wo) from fun u => pq_drew (behind_any u.is.ca))
          have QB := (show Hid (∀ u : PairW w a b σ, Calls Try.prog 23 #[cptr b] u.wo fun e w2 => e = .returned (.string ⟨(beh σ.1).toArray⟩) ∧ ∃ u2 : PairW w a b σ, w2 = u2.wo) from fun u => pq_same (rbehind_any u.is.cb))
          have hcell := (show ∀ u : PairW w a b σ, u.wo.cell? ⟨b, 2, none⟩ = some (.int .i64 (σ.2.2 : Int)) from pair_col)
          generalize σ.2.2 = c at *
          generalize indR σ = I at *
          generalize (beh σ.1).isEmpty = B at *
          generalize ((beh σ.1).headD 0).toNat = X at *
          generalize (ByteArray.mk (restR σ).toArray) = R at *
          generalize (ByteArray.mk (beh σ.1).toArray) = H at *
          refine region_class (fun w' => ∃ u : PairW w a b σ, w' = u.wo) (by kernel_rfl) (by kernel_rfl) ⟨PairW.of (HP.out.drewN 1), rfl⟩ ?_
          haveI : Nonempty (PairW w a b σ) := ⟨PairW.of HP.out⟩
          repeat (go_big_quiet_step (first
            | (go_at_call 13; exact Q1.out _)
            | (go_at_call 14; exact Q2.out _)
            | (go_at_call 15; exact Q3.out _)
            | (go_at_call 16; exact Q4.out _)
            | (go_at_call 17; exact Q5.out _)
            | (go_at_call 18; exact Q6.out _)
            | (go_at_call 19; exact Q7.out _)
            | (go_at_call 20; exact Q8.out _)
            | (go_at_call 21; exact Q9.out _)
            | (go_at_call 22; exact QA.out _)
            | (go_at_call 23; exact QB.out _)))
          refine wpQuiet_nil ?_
          intro _ hw'
          obtain ⟨u, hu⟩ := hw'
          subst hu
          have HU := (show Hid (Pair w u.wo a b σ σ) from u.is)
          go_wp2
          go_roundw
          case rel => exact ⟨1, σ, by go_num, by omega, by omega, by omega, HU⟩
          case measure => simp [intOf] <;> omega

        | j + 1 =>
          have hj1 : j < len1 := by omega
          have hj2 : j < len2 := by omega
          have hj1' : (j : Int) < (len1 : Int) := by omega
          have hj2' : (j : Int) < (len2 : Int) := by omega
          have ha1 := e11 (by omega)
          have ha2 := e21 (by omega)
          subst ha1 ha2
          have hck1 : wr.cell? ⟨b1, o1 + j, none⟩ = some (.int .i64 (num1 j)) := (HP.out.below.cell (p := ⟨b1, o1 + j, none⟩) (hblt1 (by omega))).trans (e12 j hj1)
          have hck2 : wr.cell? ⟨b2, o2 + j, none⟩ = some (.int .i64 (num2 j)) := (HP.out.below.cell (p := ⟨b2, o2 + j, none⟩) (hblt2 (by omega))).trans (e22 j hj2)
          have hn9 := (e24 j).2
          generalize num2 j = n at *
          generalize num1 j = kd at *
          clear e11 e12 e13 e14 e21 e22 e23 e24 hblt1 hblt2
          by_cases hkd1 : kd = 1
          · subst hkd1
            obtain ⟨τ, hτ⟩ : ∃ τ, skipR n.toNat σ = τ := ⟨_, rfl⟩
            obtain ⟨V, hV⟩ : ∃ V : Int, ((skipR n.toNat σ).2.2 : Int) - (σ.2.2 : Int) = V := ⟨_, rfl⟩
            have HSk := (show Hid (∀ w', Pair w w' a b σ σ → Calls Try.prog 9 #[cptr a, .int .i64 n] w' fun e w3 => e = .returned (.int .i64 V) ∧ Pair w w3 a b τ σ) from fun w' h => (skip_any h.ca n hn9).mono fun e w3 ⟨he, hc, ho⟩ => ⟨by rw [he, hV], by rw [hτ] at hc; exact h.oth_a hc ho⟩)
            have HRk := (show Hid (∀ w', Pair w w' a b τ σ → Calls Try.prog 10 #[cptr b, .int .i64 n] w' fun e w3 => e = .returned (.int .i64 V) ∧ Pair w w3 a b τ τ) from fun w' h => (rskip_any h.cb n hn9).mono fun e w3 ⟨he, hc, ho⟩ => ⟨by rw [he, hV], by rw [hτ] at hc; exact h.oth_b hc ho⟩)
            clear hτ hV
            go_wp2_with (first
              | (go_at_call 9; refine (HSk.out _ HP.out).mono ?_; rintro e w3 ⟨rfl, hp3⟩; have HP3 := (show Hid (Pair w w3 a b τ σ) from hp3); clear hp3)
              | (go_at_call 10; refine (HRk.out _ HP3.out).mono ?_; rintro e w4 ⟨rfl, hp4⟩; have HP4 := (show Hid (Pair w w4 a b τ τ) from hp4); clear hp4))
            clear HP HP3 HSk HRk hck1 hck2
            have Q1 := (show Hid (∀ u : PairW w a b τ, Calls Try.prog 13 #[cptr a] u.wo fun e w2 => e = .returned (.int .i64 (τ.2.2 : Int)) ∧ ∃ u2 : PairW w a b τ, w2 = u2.wo) from fun u => pq_same (column_any u.is.ca))
            have Q2 := (show Hid (∀ u : PairW w a b τ, Calls Try.prog 14 #[cptr a] u.wo fun e w2 => e = .returned (.int .i64 (indR τ : Int)) ∧ ∃ u2 : PairW w a b τ, w2 = u2.wo) from fun u => pq_same (indent_any u.is.ca))
            have Q3 := (show Hid (∀ u : PairW w a b τ, Calls Try.prog 15 #[cptr b] u.wo fun e w2 => e = .returned (.int .i64 (indR τ : Int)) ∧ ∃ u2 : PairW w a b τ, w2 = u2.wo) from fun u => pq_more (rindent_any u.is.cb))
            have Q4 := (show Hid (∀ u : PairW w a b τ, Calls Try.prog 16 #[cptr a] u.wo fun e w2 => e = .returned (.bool (beh τ.1).isEmpty) ∧ ∃ u2 : PairW w a b τ, w2 = u2.wo) from fun u => pq_drew (blank_any u.is.ca))
            have Q5 := (show Hid (∀ u : PairW w a b τ, Calls Try.prog 17 #[cptr b] u.wo fun e w2 => e = .returned (.bool (beh τ.1).isEmpty) ∧ ∃ u2 : PairW w a b τ, w2 = u2.wo) from fun u => pq_same (rblank_any u.is.cb))
            have Q6 := (show Hid (∀ u : PairW w a b τ, Calls Try.prog 18 #[cptr a] u.wo fun e w2 => e = .returned (.int .u8 (((beh τ.1).headD 0).toNat : Int)) ∧ ∃ u2 : PairW w a b τ, w2 = u2.wo) from fun u => pq_same (next_any u.is.ca))
            have Q7 := (show Hid (∀ u : PairW w a b τ, Calls Try.prog 19 #[cptr b] u.wo fun e w2 => e = .returned (.int .u8 (((beh τ.1).headD 0).toNat : Int)) ∧ ∃ u2 : PairW w a b τ, w2 = u2.wo) from fun u => pq_same (rnext_any u.is.cb))
            have Q8 := (show Hid (∀ u : PairW w a b τ, Calls Try.prog 20 #[cptr a] u.wo fun e w2 => e = .returned (.string ⟨(restR τ).toArray⟩) ∧ ∃ u2 : PairW w a b τ, w2 = u2.wo) from fun u => pq_drew (rest_any u.is.ca))
            have Q9 := (show Hid (∀ u : PairW w a b τ, Calls Try.prog 21 #[cptr b] u.wo fun e w2 => e = .returned (.string ⟨(restR τ).toArray⟩) ∧ ∃ u2 : PairW w a b τ, w2 = u2.wo) from fun u => pq_same (rrest_any u.is.cb))
            have QA := (show Hid (∀ u : PairW w a b τ, Calls Try.prog 22 #[cptr a] u.wo fun e w2 => e = .returned (.string ⟨(beh τ.1).toArray⟩) ∧ ∃ u2 : PairW w a b τ, w2 = u2.wo) from fun u => pq_drew (behind_any u.is.ca))
            have QB := (show Hid (∀ u : PairW w a b τ, Calls Try.prog 23 #[cptr b] u.wo fun e w2 => e = .returned (.string ⟨(beh τ.1).toArray⟩) ∧ ∃ u2 : PairW w a b τ, w2 = u2.wo) from fun u => pq_same (rbehind_any u.is.cb))
            have hcell := (show ∀ u : PairW w a b τ, u.wo.cell? ⟨b, 2, none⟩ = some (.int .i64 (τ.2.2 : Int)) from pair_col)
            generalize τ.2.2 = c at *
            generalize indR τ = I at *
            generalize (beh τ.1).isEmpty = B at *
            generalize ((beh τ.1).headD 0).toNat = X at *
            generalize (ByteArray.mk (restR τ).toArray) = R at *
            generalize (ByteArray.mk (beh τ.1).toArray) = H at *
            refine region_class (fun w' => ∃ u : PairW w a b τ, w' = u.wo) (by kernel_rfl) (by kernel_rfl) ⟨PairW.of (HP4.out.drewN 1), rfl⟩ ?_
            haveI : Nonempty (PairW w a b τ) := ⟨PairW.of HP4.out⟩
            repeat (go_big_quiet_step (first
              | (go_at_call 13; exact Q1.out _)
              | (go_at_call 14; exact Q2.out _)
              | (go_at_call 15; exact Q3.out _)
              | (go_at_call 16; exact Q4.out _)
              | (go_at_call 17; exact Q5.out _)
              | (go_at_call 18; exact Q6.out _)
              | (go_at_call 19; exact Q7.out _)
              | (go_at_call 20; exact Q8.out _)
              | (go_at_call 21; exact Q9.out _)
              | (go_at_call 22; exact QA.out _)
              | (go_at_call 23; exact QB.out _)))
            refine wpQuiet_nil ?_
            intro _ hw'
            obtain ⟨u, hu⟩ := hw'
            subst hu
            have HU := (show Hid (Pair w u.wo a b τ τ) from u.is)
            go_wp2
            go_roundw
            case rel => exact ⟨j + 2, τ, by go_num, by omega, by omega, by omega, HU⟩
            case measure => simp [intOf] <;> omega

          · by_cases hkd2 : kd = 2
            · subst hkd2
              obtain ⟨τ, hτ⟩ : ∃ τ, moveR n.toNat σ = τ := ⟨_, rfl⟩
              have HSk := (show Hid (∀ w', Pair w w' a b σ σ → Calls Try.prog 11 #[cptr a, .int .i64 n] w' fun e w3 => e = .returned (.tuple #[]) ∧ Pair w w3 a b τ σ) from fun w' h => (move_any h.ca n hn9).mono fun e w3 ⟨he, hc, ho⟩ => ⟨he, by rw [hτ] at hc; exact h.oth_a hc ho⟩)
              have HRk := (show Hid (∀ w', Pair w w' a b τ σ → Calls Try.prog 12 #[cptr b, .int .i64 n] w' fun e w3 => e = .returned (.tuple #[]) ∧ Pair w w3 a b τ τ) from fun w' h => (rmove_any h.cb n hn9).mono fun e w3 ⟨he, hc, ho⟩ => ⟨he, by rw [hτ] at hc; exact h.oth_b hc ho⟩)
              clear hτ
              go_wp2_with (first
                | (go_at_call 11; refine (HSk.out _ HP.out).mono ?_; rintro e w3 ⟨rfl, hp3⟩; have HP3 := (show Hid (Pair w w3 a b τ σ) from hp3); clear hp3)
                | (go_at_call 12; refine (HRk.out _ HP3.out).mono ?_; rintro e w4 ⟨rfl, hp4⟩; have HP4 := (show Hid (Pair w w4 a b τ τ) from hp4); clear hp4))
              clear HP HP3 HSk HRk hck1 hck2
              have Q1 := (show Hid (∀ u : PairW w a b τ, Calls Try.prog 13 #[cptr a] u.wo fun e w2 => e = .returned (.int .i64 (τ.2.2 : Int)) ∧ ∃ u2 : PairW w a b τ, w2 = u2.wo) from fun u => pq_same (column_any u.is.ca))
              have Q2 := (show Hid (∀ u : PairW w a b τ, Calls Try.prog 14 #[cptr a] u.wo fun e w2 => e = .returned (.int .i64 (indR τ : Int)) ∧ ∃ u2 : PairW w a b τ, w2 = u2.wo) from fun u => pq_same (indent_any u.is.ca))
              have Q3 := (show Hid (∀ u : PairW w a b τ, Calls Try.prog 15 #[cptr b] u.wo fun e w2 => e = .returned (.int .i64 (indR τ : Int)) ∧ ∃ u2 : PairW w a b τ, w2 = u2.wo) from fun u => pq_more (rindent_any u.is.cb))
              have Q4 := (show Hid (∀ u : PairW w a b τ, Calls Try.prog 16 #[cptr a] u.wo fun e w2 => e = .returned (.bool (beh τ.1).isEmpty) ∧ ∃ u2 : PairW w a b τ, w2 = u2.wo) from fun u => pq_drew (blank_any u.is.ca))
              have Q5 := (show Hid (∀ u : PairW w a b τ, Calls Try.prog 17 #[cptr b] u.wo fun e w2 => e = .returned (.bool (beh τ.1).isEmpty) ∧ ∃ u2 : PairW w a b τ, w2 = u2.wo) from fun u => pq_same (rblank_any u.is.cb))
              have Q6 := (show Hid (∀ u : PairW w a b τ, Calls Try.prog 18 #[cptr a] u.wo fun e w2 => e = .returned (.int .u8 (((beh τ.1).headD 0).toNat : Int)) ∧ ∃ u2 : PairW w a b τ, w2 = u2.wo) from fun u => pq_same (next_any u.is.ca))
              have Q7 := (show Hid (∀ u : PairW w a b τ, Calls Try.prog 19 #[cptr b] u.wo fun e w2 => e = .returned (.int .u8 (((beh τ.1).headD 0).toNat : Int)) ∧ ∃ u2 : PairW w a b τ, w2 = u2.wo) from fun u => pq_same (rnext_any u.is.cb))
              have Q8 := (show Hid (∀ u : PairW w a b τ, Calls Try.prog 20 #[cptr a] u.wo fun e w2 => e = .returned (.string ⟨(restR τ).toArray⟩) ∧ ∃ u2 : PairW w a b τ, w2 = u2.wo) from fun u => pq_drew (rest_any u.is.ca))
              have Q9 := (show Hid (∀ u : PairW w a b τ, Calls Try.prog 21 #[cptr b] u.wo fun e w2 => e = .returned (.string ⟨(restR τ).toArray⟩) ∧ ∃ u2 : PairW w a b τ, w2 = u2.wo) from fun u => pq_same (rrest_any u.is.cb))
              have QA := (show Hid (∀ u : PairW w a b τ, Calls Try.prog 22 #[cptr a] u.wo fun e w2 => e = .returned (.string ⟨(beh τ.1).toArray⟩) ∧ ∃ u2 : PairW w a b τ, w2 = u2.wo) from fun u => pq_drew (behind_any u.is.ca))
              have QB := (show Hid (∀ u : PairW w a b τ, Calls Try.prog 23 #[cptr b] u.wo fun e w2 => e = .returned (.string ⟨(beh τ.1).toArray⟩) ∧ ∃ u2 : PairW w a b τ, w2 = u2.wo) from fun u => pq_same (rbehind_any u.is.cb))
              have hcell := (show ∀ u : PairW w a b τ, u.wo.cell? ⟨b, 2, none⟩ = some (.int .i64 (τ.2.2 : Int)) from pair_col)
              generalize τ.2.2 = c at *
              generalize indR τ = I at *
              generalize (beh τ.1).isEmpty = B at *
              generalize ((beh τ.1).headD 0).toNat = X at *
              generalize (ByteArray.mk (restR τ).toArray) = R at *
              generalize (ByteArray.mk (beh τ.1).toArray) = H at *
              refine region_class (fun w' => ∃ u : PairW w a b τ, w' = u.wo) (by kernel_rfl) (by kernel_rfl) ⟨PairW.of (HP4.out.drewN 1), rfl⟩ ?_
              haveI : Nonempty (PairW w a b τ) := ⟨PairW.of HP4.out⟩
              repeat (go_big_quiet_step (first
                | (go_at_call 13; exact Q1.out _)
                | (go_at_call 14; exact Q2.out _)
                | (go_at_call 15; exact Q3.out _)
                | (go_at_call 16; exact Q4.out _)
                | (go_at_call 17; exact Q5.out _)
                | (go_at_call 18; exact Q6.out _)
                | (go_at_call 19; exact Q7.out _)
                | (go_at_call 20; exact Q8.out _)
                | (go_at_call 21; exact Q9.out _)
                | (go_at_call 22; exact QA.out _)
                | (go_at_call 23; exact QB.out _)))
              refine wpQuiet_nil ?_
              intro _ hw'
              obtain ⟨u, hu⟩ := hw'
              subst hu
              have HU := (show Hid (Pair w u.wo a b τ τ) from u.is)
              go_wp2
              go_roundw
              case rel => exact ⟨j + 2, τ, by go_num, by omega, by omega, by omega, HU⟩
              case measure => simp [intOf] <;> omega

            · have q1 : (kd == 1) = false := by simpa using hkd1
              have q2 : (kd == 2) = false := by simpa using hkd2
              clear hkd1 hkd2
              go_wp2
              have Q1 := (show Hid (∀ u : PairW w a b σ, Calls Try.prog 13 #[cptr a] u.wo fun e w2 => e = .returned (.int .i64 (σ.2.2 : Int)) ∧ ∃ u2 : PairW w a b σ, w2 = u2.wo) from fun u => pq_same (column_any u.is.ca))
              have Q2 := (show Hid (∀ u : PairW w a b σ, Calls Try.prog 14 #[cptr a] u.wo fun e w2 => e = .returned (.int .i64 (indR σ : Int)) ∧ ∃ u2 : PairW w a b σ, w2 = u2.wo) from fun u => pq_same (indent_any u.is.ca))
              have Q3 := (show Hid (∀ u : PairW w a b σ, Calls Try.prog 15 #[cptr b] u.wo fun e w2 => e = .returned (.int .i64 (indR σ : Int)) ∧ ∃ u2 : PairW w a b σ, w2 = u2.wo) from fun u => pq_more (rindent_any u.is.cb))
              have Q4 := (show Hid (∀ u : PairW w a b σ, Calls Try.prog 16 #[cptr a] u.wo fun e w2 => e = .returned (.bool (beh σ.1).isEmpty) ∧ ∃ u2 : PairW w a b σ, w2 = u2.wo) from fun u => pq_drew (blank_any u.is.ca))
              have Q5 := (show Hid (∀ u : PairW w a b σ, Calls Try.prog 17 #[cptr b] u.wo fun e w2 => e = .returned (.bool (beh σ.1).isEmpty) ∧ ∃ u2 : PairW w a b σ, w2 = u2.wo) from fun u => pq_same (rblank_any u.is.cb))
              have Q6 := (show Hid (∀ u : PairW w a b σ, Calls Try.prog 18 #[cptr a] u.wo fun e w2 => e = .returned (.int .u8 (((beh σ.1).headD 0).toNat : Int)) ∧ ∃ u2 : PairW w a b σ, w2 = u2.wo) from fun u => pq_same (next_any u.is.ca))
              have Q7 := (show Hid (∀ u : PairW w a b σ, Calls Try.prog 19 #[cptr b] u.wo fun e w2 => e = .returned (.int .u8 (((beh σ.1).headD 0).toNat : Int)) ∧ ∃ u2 : PairW w a b σ, w2 = u2.wo) from fun u => pq_same (rnext_any u.is.cb))
              have Q8 := (show Hid (∀ u : PairW w a b σ, Calls Try.prog 20 #[cptr a] u.wo fun e w2 => e = .returned (.string ⟨(restR σ).toArray⟩) ∧ ∃ u2 : PairW w a b σ, w2 = u2.wo) from fun u => pq_drew (rest_any u.is.ca))
              have Q9 := (show Hid (∀ u : PairW w a b σ, Calls Try.prog 21 #[cptr b] u.wo fun e w2 => e = .returned (.string ⟨(restR σ).toArray⟩) ∧ ∃ u2 : PairW w a b σ, w2 = u2.wo) from fun u => pq_same (rrest_any u.is.cb))
              have QA := (show Hid (∀ u : PairW w a b σ, Calls Try.prog 22 #[cptr a] u.wo fun e w2 => e = .returned (.string ⟨(beh σ.1).toArray⟩) ∧ ∃ u2 : PairW w a b σ, w2 = u2.wo) from fun u => pq_drew (behind_any u.is.ca))
              have QB := (show Hid (∀ u : PairW w a b σ, Calls Try.prog 23 #[cptr b] u.wo fun e w2 => e = .returned (.string ⟨(beh σ.1).toArray⟩) ∧ ∃ u2 : PairW w a b σ, w2 = u2.wo) from fun u => pq_same (rbehind_any u.is.cb))
              have hcell := (show ∀ u : PairW w a b σ, u.wo.cell? ⟨b, 2, none⟩ = some (.int .i64 (σ.2.2 : Int)) from pair_col)
              generalize σ.2.2 = c at *
              generalize indR σ = I at *
              generalize (beh σ.1).isEmpty = B at *
              generalize ((beh σ.1).headD 0).toNat = X at *
              generalize (ByteArray.mk (restR σ).toArray) = R at *
              generalize (ByteArray.mk (beh σ.1).toArray) = H at *
              refine region_class (fun w' => ∃ u : PairW w a b σ, w' = u.wo) (by kernel_rfl) (by kernel_rfl) ⟨PairW.of (HP.out.drewN 1), rfl⟩ ?_
              haveI : Nonempty (PairW w a b σ) := ⟨PairW.of HP.out⟩
              repeat (go_big_quiet_step (first
                | (go_at_call 13; exact Q1.out _)
                | (go_at_call 14; exact Q2.out _)
                | (go_at_call 15; exact Q3.out _)
                | (go_at_call 16; exact Q4.out _)
                | (go_at_call 17; exact Q5.out _)
                | (go_at_call 18; exact Q6.out _)
                | (go_at_call 19; exact Q7.out _)
                | (go_at_call 20; exact Q8.out _)
                | (go_at_call 21; exact Q9.out _)
                | (go_at_call 22; exact QA.out _)
                | (go_at_call 23; exact QB.out _)))
              refine wpQuiet_nil ?_
              intro _ hw'
              obtain ⟨u, hu⟩ := hw'
              subst hu
              have HU := (show Hid (Pair w u.wo a b σ σ) from u.is)
              go_wp2
              go_roundw
              case rel => exact ⟨j + 2, σ, by go_num, by omega, by omega, by omega, HU⟩
              case measure => simp [intOf] <;> omega

      · clear e11 e12 e13 e14 e21 e22 e23 e24 hblt1 hblt2
        go_wp2
        all_goals go_ret
        all_goals exact ⟨rfl, HP.out.below⟩

theorem int_range {n : Int} (h : (Lit.int .i64 n).wf = true) : -9223372036854775808 ≤ n ∧ n ≤ 9223372036854775807 := by
  simp only [Lit.wf, Bool.and_eq_true, decide_eq_true_eq] at h
  exact h

theorem add_off (b off i : Nat) : (⟨b, off, none⟩ : Addr).add i = ⟨b, off + i, none⟩ := by unfold Addr.add; split <;> simp_all

set_option maxRecDepth 100000 in
theorem lifted (os : Os) (started : os.Started) (H : Type) (enc : TypeId × Value → H) :
    ReturnsInHanded {} Try.checked os 3 .any (Rows.cursorPlaysSpec.pre6 enc Try.prog Try.f3 Rows.cursorPlaysRow.domain false) (Rows.cursorPlaysSpec.post enc Try.prog Try.f3 false true false false) := by
  refine returnsInHanded_of_change_sized (C := Try.checked) own started (by kernel_rfl) Try.func3
    (ChangeSpec.witness6 (enc := enc) (C := Try.checked) false ⟨#[], #[.string ⟨#[]⟩, .slice none 0 0, .slice none 0 0], []⟩ 8 (by kernel_rfl) (by kernel_rfl) (by kernel_rfl) (by kernel_rfl)) ?_
  intro W base args ds gs before hval0 hW hcnd hsz0 _
  have hsz1 : (DataW.weightsEach Try.prog (Try.f3.params.toList ++ []) (ds ++ gs)).all (· ≤ reachBytes) = true := hsz0
  clear hsz0
  have hval : ∀ (j : Nat) t v, Try.f3.params[j]? = some t → args[j]? = some v → Value.okWide Try.prog W .any base t v := hval0
  have hW' := hW
  obtain ⟨p, q, hA0, hV, rfl, hfz, hnd⟩ := hW
  have hA : DataW.TrodAll enc Try.prog W 0 (fun _ => true) true Try.f3.params.toList args.toList ds p := hA0
  rw [Try.params3] at hA hval hsz1
  obtain ⟨v0, vs0, d0, ds0, p0, q0, hargs, rfl, rfl, h0, r0⟩ := trodAll_cons hA
  obtain ⟨v1, vs1, d1, ds1, p1, q1, rfl, rfl, rfl, h1, r1⟩ := trodAll_cons r0
  obtain ⟨v2, vs2, d2, ds2, p2, q2, rfl, rfl, rfl, h2, r2⟩ := trodAll_cons r1
  obtain ⟨rfl, rfl, rfl⟩ := trodAll_nil r2
  obtain rfl : args = #[v0, v1, v2] := by cases args; simp_all
  obtain ⟨rfl, rfl⟩ := trodVars_none hV
  obtain ⟨s0, rfl, rfl, rfl, ws0⟩ := open_string Try.underlying9 (hval 0 9 v0 rfl rfl) h0
  have hz0 : s0.size ≤ 140737488351232 := by have := sized_string hsz1 (j := 0) (t := 9) (bytes := s0.data.toList) rfl rfl; rwa [len_data] at this
  obtain ⟨a1, len1, cap1, rfl⟩ := okWide_slice Try.underlying22 (hval 1 22 v1 rfl rfl)
  have k1 := h1
  have lt1 : ∀ x ∈ p1, x.block < W.heap.size := by obtain ⟨m, hm⟩ := k1; exact DataW.trod_lt m _ _ _ hm
  obtain ⟨b1, o1, num1, e11, e12, e13, e14⟩ : ∃ (be oe : Nat) (num : Nat → Int), (0 < len1 → a1 = some ⟨be, oe, none⟩) ∧ (∀ i, i < len1 → W.cell? ⟨be, oe + i, none⟩ = some (.int .i64 (num i))) ∧ len1 ≤ maxLen ∧ (∀ i, -9223372036854775808 ≤ num i ∧ num i ≤ 9223372036854775807) := by
    obtain ⟨fuel, hf⟩ := h1
    rcases open_ints Try.underlying22 Try.underlying3 (by kernel_rfl) hf with ⟨hcs, _⟩ | ⟨x, l, c, zs, hcs, _, hl, hm, hz, _, hcell, hwz⟩
    · simp [Value.cells] at hcs
      obtain ⟨rfl, rfl, rfl⟩ := hcs
      exact ⟨0, 0, fun _ => 0, fun h => by omega, fun i hi => by omega, by unfold maxLen; omega, fun i => by show (-9223372036854775808 : Int) ≤ 0 ∧ (0 : Int) ≤ 9223372036854775807; omega⟩
    · simp [Value.cells] at hcs
      obtain ⟨rfl, rfl, rfl⟩ := hcs
      have hz' : zs.length = cap1 := by simpa using hz
      have hr : ∀ i, -9223372036854775808 ≤ zs.getD i 0 ∧ zs.getD i 0 ≤ 9223372036854775807 := by
        intro i
        rw [List.getD_eq_getElem?_getD]
        cases hg : zs[i]? with
        | none => simp
        | some y => exact int_range (hwz y (List.mem_of_getElem? hg))
      by_cases h00 : len1 = 0
      · exact ⟨0, 0, fun i => zs.getD i 0, fun h => by omega, fun i hi => by omega, by omega, hr⟩
      · obtain ⟨b, off, spot⟩ := x
        have hc := hcell 0 (by omega)
        have hspot : spot = none := by simpa [Addr.add] using World.cell?_spot hc
        subst hspot
        refine ⟨b, off, fun i => zs.getD i 0, fun _ => rfl, fun i hi => ?_, by omega, hr⟩
        have := hcell i (by omega)
        rwa [add_off] at this
  obtain ⟨a2, len2, cap2, rfl⟩ := okWide_slice Try.underlying22 (hval 2 22 v2 rfl rfl)
  have k2 := h2
  have lt2 : ∀ x ∈ p2, x.block < W.heap.size := by obtain ⟨m, hm⟩ := k2; exact DataW.trod_lt m _ _ _ hm
  obtain ⟨b2, o2, num2, e21, e22, e23, e24⟩ : ∃ (be oe : Nat) (num : Nat → Int), (0 < len2 → a2 = some ⟨be, oe, none⟩) ∧ (∀ i, i < len2 → W.cell? ⟨be, oe + i, none⟩ = some (.int .i64 (num i))) ∧ len2 ≤ maxLen ∧ (∀ i, -9223372036854775808 ≤ num i ∧ num i ≤ 9223372036854775807) := by
    obtain ⟨fuel, hf⟩ := h2
    rcases open_ints Try.underlying22 Try.underlying3 (by kernel_rfl) hf with ⟨hcs, _⟩ | ⟨x, l, c, zs, hcs, _, hl, hm, hz, _, hcell, hwz⟩
    · simp [Value.cells] at hcs
      obtain ⟨rfl, rfl, rfl⟩ := hcs
      exact ⟨0, 0, fun _ => 0, fun h => by omega, fun i hi => by omega, by unfold maxLen; omega, fun i => by show (-9223372036854775808 : Int) ≤ 0 ∧ (0 : Int) ≤ 9223372036854775807; omega⟩
    · simp [Value.cells] at hcs
      obtain ⟨rfl, rfl, rfl⟩ := hcs
      have hz' : zs.length = cap2 := by simpa using hz
      have hr : ∀ i, -9223372036854775808 ≤ zs.getD i 0 ∧ zs.getD i 0 ≤ 9223372036854775807 := by
        intro i
        rw [List.getD_eq_getElem?_getD]
        cases hg : zs[i]? with
        | none => simp
        | some y => exact int_range (hwz y (List.mem_of_getElem? hg))
      by_cases h00 : len2 = 0
      · exact ⟨0, 0, fun i => zs.getD i 0, fun h => by omega, fun i hi => by omega, by omega, hr⟩
      · obtain ⟨b, off, spot⟩ := x
        have hc := hcell 0 (by omega)
        have hspot : spot = none := by simpa [Addr.add] using World.cell?_spot hc
        subst hspot
        refine ⟨b, off, fun i => zs.getD i 0, fun _ => rfl, fun i hi => ?_, by omega, hr⟩
        have := hcell i (by omega)
        rwa [add_off] at this
  clear hA0 hval0 hsz1
  simp only [List.append_nil] at hW'
  refine (walk s0 hz0 a1 b1 o1 len1 cap1 num1 a2 b2 o2 len2 cap2 num2 W e11 e12 e13 e14 e21 e22 e23 e24).mono fun e W' ⟨he, bel⟩ => ?_
  subst he
  exact ⟨_, rfl, _, _, _, [], _, [], hW', trodAll_mk1 (shut_bool Try.underlying4 _), (trodAll_cons_mk (shut_string Try.underlying9 ws0) (trodAll_cons_mk (Below.trod laidOut (by kernel_rfl) (of_decide_eq_true (by kernel_rfl)) k1 bel lt1) (trodAll_cons_mk (Below.trod laidOut (by kernel_rfl) (of_decide_eq_true (by kernel_rfl)) k2 bel lt2) trodAll_mk0))), rfl, bel.frame _, fun h => by cases h⟩

theorem over : Rows.cursorPlaysRow.holds Try.pinned (OpenSpec.ofChange Rows.cursorPlaysSpec) :=
  OpenClaim.holds_of_wide 3 Try.f3 rfl rfl rfl rfl rfl rfl rfl ⟨rfl, rfl, rfl, rfl, rfl⟩ rfl rfl rfl rfl rfl (by kernel_rfl) Try.func3 (by kernel_rfl)
    (of_decide_eq_true (by kernel_rfl)) (by unfold Func.isWrapper; first | (rw [if_pos (by decide +kernel)]; kernel_rfl) | (rw [if_neg (by decide +kernel)]; exact ⟨rfl, rfl⟩))
    (fun os started H enc _ => lifted os started H enc)

theorem proved : Rows.CursorPlaysSaid :=
  over
#print axioms proved
end Go.Proofs.Ytonlkkpoanlcbaa.cursorPlays
