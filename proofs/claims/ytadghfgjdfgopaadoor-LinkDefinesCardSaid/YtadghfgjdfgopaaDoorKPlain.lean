/- plain and six, of the laws of layer 6; walked. -/
import Derived.Test.YtadghfgjdfgopaaDoorKEsc
import Derived.Test.YtadghfgjdfgopaaDoorPlainLink6
set_option linter.unusedVariables false
namespace Go.Proofs.YtadghfgjdfgopaaDoor
open Go.RowKit
open Go.Proofs.YtadghfgjdfgopaaDoor.esc (OwnB own_push byteCells_one)

theorem pl_push {l : List UInt8} {c : UInt8} (h : ∀ x ∈ l, plC x) (hc : plC c) : ∀ x ∈ l ++ [c], plC x := by
  intro x hx
  rcases List.mem_append.1 hx with hx | hx
  · exact h x hx
  · rw [List.mem_singleton.1 hx]; exact hc

set_option maxHeartbeats 8000000 in
set_option maxRecDepth 8000 in
theorem kplain_any (s : ByteArray) (hs : (s.size : Int) ≤ 140737488351232) (most : Nat) (hm : most ≤ 2000) (w : World) :
    Calls Tryd.prog 18 #[.string s, .int .i64 (most : Int)] w fun e w' => ∃ l : List UInt8, e = .returned (.string ⟨l.toArray⟩) ∧ (∀ c ∈ l, plC c) ∧ l.length ≤ most ∧ Below w.heap.size w w' := by
  obtain ⟨i0, hi, hz0, hz1, hz2⟩ := info_parts info5
  go_enter Tryd.func18, Tryd.ntmps18
  go_wp2
  go_loopw [5, 6] (fun v i wr => ∃ (k : Nat) (l : List UInt8), i = .int .i64 (k : Int) ∧ k ≤ s.size ∧ l.length ≤ most ∧ OwnB wr w.heap.size v l ∧ Hid (∀ c ∈ l, plC c) ∧ Hid (Below w.heap.size w wr)) (fun _ i _ => s.size - (intOf i).toNat)
  case atStart => exact ⟨0, [], rfl, by omega, by simp, World.ownsRow_nil _ _ _ _, (fun c hc => absurd hc (by simp)), Below.refl _ _⟩
  case round =>
    obtain ⟨k, l, rfl, hk, hll, hown, hla, hbw⟩ := hrel
    have hsz := hbw.out.size
    by_cases hgo : k < s.size ∧ l.length < most
    · obtain ⟨hks, hlm⟩ := hgo
      have g1 : (k : Int) < (s.size : Int) := by omega
      have g2 : (l.length : Int) < (most : Int) := by omega
      obtain ⟨c, hc⟩ : ∃ c, s[k] = c := ⟨_, rfl⟩
      obtain ⟨ad, cp, rfl⟩ := kown_len hown
      have hcase : ((97 : Int) ≤ (c.toNat : Int) ∧ (c.toNat : Int) ≤ 122) ∨ (¬ (97 : Int) ≤ (c.toNat : Int) ∧ (48 : Int) ≤ (c.toNat : Int) ∧ (c.toNat : Int) ≤ 57) ∨ ((97 : Int) ≤ (c.toNat : Int) ∧ ¬ (c.toNat : Int) ≤ 122 ∧ ¬ (c.toNat : Int) ≤ 57 ∧ (48 : Int) ≤ (c.toNat : Int) ∧ (128 : Int) ≤ (c.toNat : Int)) ∨ ((97 : Int) ≤ (c.toNat : Int) ∧ ¬ (c.toNat : Int) ≤ 122 ∧ ¬ (c.toNat : Int) ≤ 57 ∧ (48 : Int) ≤ (c.toNat : Int) ∧ ¬ (128 : Int) ≤ (c.toNat : Int)) ∨ (¬ (97 : Int) ≤ (c.toNat : Int) ∧ ¬ (48 : Int) ≤ (c.toNat : Int) ∧ ¬ (128 : Int) ≤ (c.toNat : Int)) ∨ (¬ (97 : Int) ≤ (c.toNat : Int) ∧ (48 : Int) ≤ (c.toNat : Int) ∧ ¬ (c.toNat : Int) ≤ 57 ∧ ¬ (128 : Int) ≤ (c.toNat : Int)) := by omega
      rcases hcase with ⟨c1, c2⟩ | ⟨c1, c2, c3⟩ | ⟨c1, c2, c3, c4, c5⟩ | ⟨c1, c2, c3, c4, c5⟩ | ⟨c1, c2, c3⟩ | ⟨c1, c2, c3, c4⟩
      iterate 3
        · have HP : Hid (∀ x ∈ l ++ [c], plC x) := pl_push hla.out (by unfold plC; omega)
          go_wp2_with (at_builtin; refine wpList_append_own _ rfl _ _ 46 rfl w.heap.size 5 i0 (.int .u8 0) 1 1 Tryd.underlying46 hi hz0 hz1 hz2 rfl (by decide) _ _ _ rfl (hown.alloc _) ⟨wr.heap.size, 0, none⟩ 1 1 [.int .u8 (c.toNat : Int)] rfl rfl (lit_cells _ _ _) ?c2 ?c3 ?c4 ?c5 ?_)
          case c2 => first | rfl | (intro u hu; simp at hu; subst hu; rfl)
          case c3 => unfold maxLen; omega
          case c4 => omega
          case c5 => first | omega | (simp; omega)
          intro v' w2 hown' hgrow _
          have R1 := own_push (l := [c]) hown' rfl (byteCells_one _)
          have R2 := below_grown hbw.out hsz hown hgrow
          go_wp2
          go_roundw
          case rel => exact ⟨k + 1, l ++ [c], by go_num, by omega, by simp; omega, R1, HP.out, R2⟩
          case measure => simp [intOf]; omega
      all_goals
        go_wp2
        go_roundw
        case rel => exact ⟨k + 1, l, by go_num, by omega, hll, hown, hla.out, hbw.out⟩
        case measure => simp [intOf]; omega
    · have hcv := own_string hown
      obtain ⟨ad, cp, rfl⟩ := kown_len hown
      have hcase : (¬ (k : Int) < (s.size : Int)) ∨ ((k : Int) < (s.size : Int) ∧ ¬ (l.length : Int) < (most : Int)) := by omega
      rcases hcase with g1 | ⟨g1, g2⟩
      all_goals
        go_wp2
        go_ret
        exact ⟨l, rfl, hla.out, hll, hbw.out⟩

end Go.Proofs.YtadghfgjdfgopaaDoor
