/- plain, of the laws of layer 8; walked. -/
import Derived.Test.YtjdijlaoeoikhaaGreatDoorG10
import Derived.Test.YtjdijlaoeoikhaaGreatDoorG06
import Derived.Test.YtjdijlaoeoikhaaGreatDoorH01
set_option linter.unusedVariables false
namespace Go.Proofs.YtjdijlaoeoikhaaGreatDoor
open Go.RowKit
open Go.Proofs.YtjdijlaoeoikhaaGreatDoor.esc (OwnB own_push byteCells_one)

theorem pown_len {w : World} {B : Nat} {v : Value} {l : List UInt8} (h : OwnB w B v l) : ∃ a c, v = .slice a l.length c := by
  rcases h.2 with ⟨rfl, hn⟩ | ⟨g, cap, cur, rfl, _⟩
  · exact ⟨none, 0, by rw [hn]⟩
  · exact ⟨_, _, rfl⟩
theorem low_push {l : List UInt8} {c : UInt8} (h : ∀ x ∈ l, lowB x = true) (hc : lowB c = true) : ∀ x ∈ l ++ [c], lowB x = true := by
  intro x hx
  rcases List.mem_append.1 hx with hx | hx
  · exact h x hx
  · rw [List.mem_singleton.1 hx]; exact hc

set_option maxHeartbeats 8000000 in
set_option maxRecDepth 8000 in
theorem iplain_any (s : ByteArray) (hs : (s.size : Int) ≤ 9223372036854775807) (most : Nat) (hm : most ≤ 2000) (w : World) :
    Calls Tryz.prog 12 #[.string s, .int .i64 (most : Int)] w fun e w' => ∃ l : List UInt8, e = .returned (.string ⟨l.toArray⟩) ∧ (∀ c ∈ l, lowB c = true) ∧ l.length ≤ most ∧ Below w.heap.size w w' := by
  obtain ⟨i0, hi, hz0, hz1, hz2⟩ := info_parts info5
  go_enter Tryz.func12, Tryz.ntmps12
  go_wp2
  go_loopw [5, 6] (fun v i wr => ∃ (k : Nat) (l : List UInt8), i = .int .i64 (k : Int) ∧ k ≤ s.size ∧ l.length ≤ most ∧ OwnB wr w.heap.size v l ∧ Hid (∀ c ∈ l, lowB c = true) ∧ Hid (Below w.heap.size w wr)) (fun _ i _ => s.size - (intOf i).toNat)
  case atStart => exact ⟨0, [], rfl, by omega, by simp, World.ownsRow_nil _ _ _ _, (fun c hc => absurd hc (by simp)), Below.refl _ _⟩
  case round =>
    obtain ⟨k, l, rfl, hk, hll, hown, hla, hbw⟩ := hrel
    have hsz := hbw.out.size
    by_cases hgo : k < s.size ∧ l.length < most
    · obtain ⟨hks, hlm⟩ := hgo
      have g1 : (k : Int) < (s.size : Int) := by omega
      have g2 : (l.length : Int) < (most : Int) := by omega
      obtain ⟨c, hc⟩ : ∃ c, s[k] = c := ⟨_, rfl⟩
      obtain ⟨ad, cp, rfl⟩ := pown_len hown
      have hcase : ((97 : Int) ≤ (c.toNat : Int) ∧ (c.toNat : Int) ≤ 122) ∨ (¬ (97 : Int) ≤ (c.toNat : Int) ∧ (48 : Int) ≤ (c.toNat : Int) ∧ (c.toNat : Int) ≤ 57) ∨ ((97 : Int) ≤ (c.toNat : Int) ∧ ¬ (c.toNat : Int) ≤ 122 ∧ ¬ (c.toNat : Int) ≤ 57 ∧ (48 : Int) ≤ (c.toNat : Int)) ∨ (¬ (97 : Int) ≤ (c.toNat : Int) ∧ ¬ (48 : Int) ≤ (c.toNat : Int)) ∨ (¬ (97 : Int) ≤ (c.toNat : Int) ∧ (48 : Int) ≤ (c.toNat : Int) ∧ ¬ (c.toNat : Int) ≤ 57) := by omega
      rcases hcase with ⟨c1, c2⟩ | ⟨c1, c2, c3⟩ | ⟨c1, c2, c3, c4⟩ | ⟨c1, c2⟩ | ⟨c1, c2, c3⟩
      iterate 2
        · have HP : Hid (∀ x ∈ l ++ [c], lowB x = true) := low_push hla.out (by unfold lowB; rw [decide_eq_true_eq]; omega)
          go_wp2_with (at_builtin; refine wpList_append_own _ rfl _ _ 47 rfl w.heap.size 5 i0 (.int .u8 0) 1 1 Tryz.underlying47 hi hz0 hz1 hz2 rfl (by decide) _ _ _ rfl (hown.alloc _) ⟨wr.heap.size, 0, none⟩ 1 1 [.int .u8 (c.toNat : Int)] rfl rfl (lit_cells _ _ _) ?c2 ?c3 ?c4 ?c5 ?_)
          case c2 => first | rfl | (intro u hu; simp at hu; subst hu; rfl)
          case c3 => unfold maxLen; omega
          case c4 => omega
          case c5 => first | omega | (simp; omega)
          intro v' w2 hown' hgrow _
          have R1 := own_push (l := [c]) hown' rfl (byteCells_one _)
          have R2 := below_grown hbw.out hsz hown hgrow
          go_wp2
          go_roundw
          case rel => exact ⟨k + 1, l ++ [c], by go_num, by omega, by simp; omega, R1, HP.out, R2⟩
          case measure => simp [intOf]; omega
      all_goals
        go_wp2
        go_roundw
        case rel => exact ⟨k + 1, l, by go_num, by omega, hll, hown, hla.out, hbw.out⟩
        case measure => simp [intOf]; omega
    · have hcv := own_string hown
      obtain ⟨ad, cp, rfl⟩ := pown_len hown
      have hcase : (¬ (k : Int) < (s.size : Int)) ∨ ((k : Int) < (s.size : Int) ∧ ¬ (l.length : Int) < (most : Int)) := by omega
      rcases hcase with g1 | ⟨g1, g2⟩
      all_goals
        go_wp2
        go_ret
        exact ⟨l, rfl, hla.out, hll, hbw.out⟩

end Go.Proofs.YtjdijlaoeoikhaaGreatDoor
