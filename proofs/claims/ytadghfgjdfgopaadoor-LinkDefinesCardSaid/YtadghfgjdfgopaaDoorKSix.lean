/- six, of the laws of layer 6; walked. -/
import Derived.Test.YtadghfgjdfgopaaDoorKPlain
set_option linter.unusedVariables false
namespace Go.Proofs.YtadghfgjdfgopaaDoor
open Go.RowKit

theorem infoI : (Tryd.prog.info? 3).map (fun i => (i.zero, i.size, i.bytes)) = some (some (.int .i64 0), 1, 8) := by kernel_rfl

/-- Numbers that a call owns. -/
abbrev OwnI (w : World) (B : Nat) (v : Value) (l : List Int) : Prop := w.ownsRow B 3 1 v l.length (l.map (Value.int .i64))

theorem ownI_len {w : World} {B : Nat} {v : Value} {l : List Int} (h : OwnI w B v l) : ∃ a c, v = .slice a l.length c := by
  rcases h.2 with ⟨rfl, hn⟩ | ⟨g, cap, cur, rfl, _⟩
  · exact ⟨none, 0, by rw [hn]⟩
  · exact ⟨_, _, rfl⟩

theorem ownI_push {w : World} {B : Nat} {v : Value} {l : List Int} {z : Int} (h : w.ownsRow B 3 1 v (l.length + 1) (l.map (Value.int .i64) ++ [.int .i64 z])) : OwnI w B v (l ++ [z]) := by
  show w.ownsRow _ _ _ _ (l ++ [z]).length _
  rw [List.length_append, List.map_append]
  exact h

def Fits (l : List Int) : Prop := ∀ z ∈ l, 0 ≤ z ∧ z ≤ 9223372036854775807
theorem fits_push {l : List Int} {z : Int} (h : Fits l) (h0 : 0 ≤ z) (h1 : z ≤ 9223372036854775807) : Fits (l ++ [z]) := by
  intro x hx
  rcases List.mem_append.1 hx with hx | hx
  · exact h x hx
  · rw [List.mem_singleton.1 hx]; exact ⟨h0, h1⟩

def IsSix (w : World) (e : Ending) (w' : World) : Prop := ∃ (v : Value) (l : List Int), e = .returned v ∧ OwnI w' w.heap.size v l ∧ l.length = 6 ∧ Fits l ∧ Below w.heap.size w w'

set_option maxHeartbeats 8000000 in
set_option maxRecDepth 8000 in
theorem ksix_any (a : Option Addr) (b o len cap : Nat) (num : Nat → Int) (w : World) (e1 : Hid (0 < len → a = some ⟨b, o, none⟩)) (e2 : Hid (∀ i, i < len → w.cell? ⟨b, o + i, none⟩ = some (.int .i64 (num i)))) (e3 : len ≤ maxLen) (e4 : Hid (∀ i, -9223372036854775808 ≤ num i ∧ num i ≤ 9223372036854775807)) :
    Calls Tryd.prog 19 #[.slice a len cap] w fun e w' => IsSix w e w' := by
  unfold maxLen at e3
  obtain ⟨i0, hi, hz0, hz1, hz2⟩ := info_parts infoI
  have HBL : Hid (0 < len → b < w.heap.size) := fun h => World.block_lt_of_cell? w ⟨b, o + 0, none⟩ (e2.out 0 h)
  go_enter Tryd.func19, Tryd.ntmps19
  go_wp2
  go_loopw [3, 4] (fun v i wr => ∃ (k : Nat) (l : List Int), i = .int .i64 (k : Int) ∧ k ≤ 6 ∧ Hid (l.length = k) ∧ Hid (OwnI wr w.heap.size v l) ∧ Hid (Fits l) ∧ Hid (Below w.heap.size w wr)) (fun _ i _ => 6 - (intOf i).toNat)
  case atStart => exact ⟨0, [], rfl, by omega, rfl, World.ownsRow_nil _ _ _ _, (fun c hc => absurd hc (by simp)), Below.refl _ _⟩
  case round =>
    obtain ⟨k, l, rfl, hk, hl, hown, hf, hbw⟩ := hrel
    have hsz := hbw.out.size
    have hl' : l.length ≤ 6 := by have := hl.out; omega
    obtain ⟨ad, cp, rfl⟩ := ownI_len hown.out
    by_cases hgo : k < 6
    · have g1 : (k : Int) < 6 := by omega
      by_cases hin : k < len
      · have g2 : (k : Int) < (len : Int) := by omega
        have hao := e1.out (by omega)
        subst hao
        have hck : wr.cell? ⟨b, o + k, none⟩ = some (.int .i64 (num k)) := (hbw.out.cell (p := ⟨b, o + k, none⟩) (HBL.out (by omega))).trans (e2.out k hin)
        have hr := e4.out k
        obtain ⟨r1, r2⟩ := hr
        generalize num k = z at *
        by_cases hneg : z < 0
        · have y1 : 0 ≤ -(z + 1) := by omega
          have y2 : -(z + 1) ≤ 9223372036854775807 := by omega
          have HF : Hid (Fits (l ++ [-(z + 1)])) := fits_push hf.out y1 y2
          go_wp2_with (at_builtin; refine wpList_append_own _ rfl _ _ 32 rfl w.heap.size 3 i0 (.int .i64 0) 1 8 Tryd.underlying32 hi hz0 hz1 hz2 rfl (by decide) _ _ _ rfl (hown.out.alloc _) ⟨wr.heap.size, 0, none⟩ 1 1 [.int .i64 (-(z + 1))] rfl rfl (lit_cells _ _ _) ?c2 ?c3 ?c4 ?c5 ?_)
          case c2 => first | rfl | (intro u hu; simp at hu; subst hu; rfl)
          case c3 => unfold maxLen; omega
          case c4 => omega
          case c5 => first | omega | (simp; omega)
          intro v' w2 hown' hgrow _
          have R1 : Hid (OwnI w2 w.heap.size v' (l ++ [-(z + 1)])) := ownI_push hown'
          have R2 := (show Hid _ from below_grown hbw.out hsz hown.out hgrow)
          clear hown' hgrow
          go_wp2
          go_roundw
          case rel => exact ⟨k + 1, l ++ [-(z + 1)], by go_num, by omega, by show _ = _; rw [List.length_append, hl.out]; rfl, R1, HF, R2⟩
          case measure => simp [intOf]; omega
        · have hneg2 : decide (z < 0) = false := decide_eq_false hneg
          have HF : Hid (Fits (l ++ [z])) := fits_push hf.out (by omega) r2
          go_wp2_with (at_builtin; refine wpList_append_own _ rfl _ _ 32 rfl w.heap.size 3 i0 (.int .i64 0) 1 8 Tryd.underlying32 hi hz0 hz1 hz2 rfl (by decide) _ _ _ rfl (hown.out.alloc _) ⟨wr.heap.size, 0, none⟩ 1 1 [.int .i64 z] rfl rfl (lit_cells _ _ _) ?c2 ?c3 ?c4 ?c5 ?_)
          case c2 => first | rfl | (intro u hu; simp at hu; subst hu; rfl)
          case c3 => unfold maxLen; omega
          case c4 => omega
          case c5 => first | omega | (simp; omega)
          intro v' w2 hown' hgrow _
          have R1 : Hid (OwnI w2 w.heap.size v' (l ++ [z])) := ownI_push hown'
          have R2 := (show Hid _ from below_grown hbw.out hsz hown.out hgrow)
          clear hown' hgrow
          go_wp2
          go_roundw
          case rel => exact ⟨k + 1, l ++ [z], by go_num, by omega, by show _ = _; rw [List.length_append, hl.out]; rfl, R1, HF, R2⟩
          case measure => simp [intOf]; omega
      · have g2 : ¬ (k : Int) < (len : Int) := by omega
        have HF : Hid (Fits (l ++ [0])) := fits_push hf.out (by omega) (by omega)
        go_wp2_with (at_builtin; refine wpList_append_own _ rfl _ _ 32 rfl w.heap.size 3 i0 (.int .i64 0) 1 8 Tryd.underlying32 hi hz0 hz1 hz2 rfl (by decide) _ _ _ rfl (hown.out.alloc _) ⟨wr.heap.size, 0, none⟩ 1 1 [.int .i64 0] rfl rfl (lit_cells _ _ _) ?c2 ?c3 ?c4 ?c5 ?_)
        case c2 => first | rfl | (intro u hu; simp at hu; subst hu; rfl)
        case c3 => unfold maxLen; omega
        case c4 => omega
        case c5 => first | omega | (simp; omega)
        intro v' w2 hown' hgrow _
        have R1 : Hid (OwnI w2 w.heap.size v' (l ++ [0])) := ownI_push hown'
        have R2 := (show Hid _ from below_grown hbw.out hsz hown.out hgrow)
        clear hown' hgrow
        go_wp2
        go_roundw
        case rel => exact ⟨k + 1, l ++ [0], by go_num, by omega, by show _ = _; rw [List.length_append, hl.out]; rfl, R1, HF, R2⟩
        case measure => simp [intOf]; omega
    · have g1 : ¬ (k : Int) < 6 := by omega
      go_wp2
      go_ret
      exact ⟨_, l, rfl, hown.out, by have := hl.out; omega, hf.out, hbw.out⟩

end Go.Proofs.YtadghfgjdfgopaaDoor
