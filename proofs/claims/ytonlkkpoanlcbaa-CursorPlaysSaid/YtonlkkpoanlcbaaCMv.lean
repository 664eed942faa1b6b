/- What Move leaves, of any place in a line. -/
import Derived.Test.YtonlkkpoanlcbaaCSkip
set_option linter.unusedVariables false
namespace Go.Proofs.Ytonlkkpoanlcbaa
open Go.RowKit

/-- What a round of Move keeps. -/
def MoveRel (w : World) (b : Nat) (τ : Pl) (x : Int) (wr : World) : Prop := Oth b w wr ∧ ∃ l c, Cur wr b (l, 0, c) ∧ passR x.toNat l c = τ

theorem abs_zero {l l' : List UInt8} {c c' : Nat} {wi : Bool} (h : Abs l c wi (l', 0, c')) : wi = false ∧ l' = l ∧ c' = c := by
  rcases h with ⟨rfl, e⟩ | ⟨_, t, _, hc, e⟩
  · simp only [Prod.mk.injEq, true_and] at e
    exact ⟨rfl, e.1, e.2⟩
  · simp only [Prod.mk.injEq] at e
    omega

theorem move_pass {w wr w1 : World} {b p c m : Nat} {x : Int} {s : ByteArray} {τ : Pl} (hx : 0 < x) (ho : Oth b w wr) (hp : p < s.size) (h3 : s.size ≤ 1099511627776) (h4 : wt (s.data.toList.drop p, 0, c) ≤ 35184372088832) (hs : passR x.toNat (s.data.toList.drop p) c = τ) (hp1 : CurB w1 b s (p + 1) (c + wid s[p] c) false) (hp2 : Oth b (wr.drewN m) w1) : MoveRel w b τ (x - 1) w1 := by
  have hw := wid_pos s[p] c
  refine ⟨(ho.drewN m).trans hp2, s.data.toList.drop (p + 1), c + wid s[p] c, ⟨s, p + 1, c + wid s[p] c, false, hp1, by omega, h3, ?_, .inl ⟨rfl, rfl⟩⟩, ?_⟩
  · simp only [wt, List.length_drop, len_data] at h4 ⊢
    omega
  · rw [← hs, drop_cons s p hp]
    obtain ⟨j, hj⟩ : ∃ j, x.toNat = j + 1 := ⟨x.toNat - 1, by omega⟩
    rw [hj, show (x - 1).toNat = j by omega]
    rfl

set_option maxHeartbeats 2000000 in
theorem move_any {b : Nat} {σ : Pl} {w : World} (h : Cur w b σ) (n : Int) (hn : n ≤ 9223372036854775807) : Calls Try.prog 11 #[cptr b, .int .i64 n] w fun e w' => e = .returned (.tuple #[]) ∧ Cur w' b (moveR n.toNat σ) ∧ Oth b w w' := by
  have hin := indent_any h
  have hwt := h.wt
  have hil := ind_le σ
  have hsk := skip_any h (indR σ : Int) (by
    have : indR σ ≤ wt σ := by unfold wt; omega
    omega)
  rw [Int.toNat_natCast, skip_every σ _ (Nat.le_refl _)] at hsk
  obtain ⟨τ, hτ⟩ : ∃ τ, moveR n.toNat σ = τ := ⟨_, rfl⟩
  have HM : Hid (passR n.toNat (beh σ.1) (endC σ.1 (σ.2.2 + σ.2.1)) = τ) := hτ
  have HI : Hid (Calls Try.prog 14 #[cptr b] w fun e w' => e = .returned (.int .i64 (indR σ : Int)) ∧ w' = w) := hin
  have HSk : Hid (Calls Try.prog 9 #[cptr b, .int .i64 (indR σ : Int)] w fun e w' => e = .returned (.int .i64 ((endC σ.1 (σ.2.2 + σ.2.1) : Int) - (σ.2.2 : Int))) ∧ Cur w' b (beh σ.1, 0, endC σ.1 (σ.2.2 + σ.2.1)) ∧ Oth b w w') := hsk
  rw [hτ]
  clear hτ hin hsk hwt hil h
  go_enter Try.func11, Try.ntmps11
  go_wp2_with (first
    | (go_at_call 14; refine HI.out.mono ?_; rintro e w1 ⟨rfl, hw1⟩; subst w1)
    | (go_at_call 9; refine HSk.out.mono ?_; rintro e w2 ⟨rfl, hc2, ho2⟩))
  go_loopw [1] (fun v wr => ∃ x : Int, v = .int .i64 x ∧ x ≤ 9223372036854775807 ∧ Hid (MoveRel w b τ x wr)) (fun v _ => (intOf v).toNat)
  case atStart => exact ⟨n, rfl, hn, ho2, _, _, hc2, HM.out⟩
  case round =>
    clear hc2 ho2 HSk HI HM
    obtain ⟨x, rfl, hx9, hr⟩ := hrel
    obtain ⟨ho, l, c0, hcur, hs⟩ := hr.out
    have hcur' := hcur
    obtain ⟨s, p, c, wi, h1, h2, h3, h4, h5⟩ := hcur'
    obtain ⟨rfl, rfl, rfl⟩ := abs_zero h5
    have HC : Hid (Cur wr b (s.data.toList.drop p, 0, c0)) := hcur
    have HS : Hid (passR x.toNat (s.data.toList.drop p) c0 = τ) := hs
    have hcw := h5.wt
    have H4 : Hid (wt (s.data.toList.drop p, 0, c0) ≤ 35184372088832) := h4
    have hc9 : c0 ≤ 35184372088832 := by omega
    have c1 := cell_blk h1 (i := 1) rfl
    have c0' := cell_blk h1 (i := 0) rfl
    have c2 := cell_blk h1 (i := 2) rfl
    have H1 : Hid (CurB wr b s p c0 false) := h1
    have HO : Hid (Oth b w wr) := ho
    clear h1 hs ho hcur hr h5 h4 hcw
    by_cases hx0 : 0 < x
    · have dx : decide (0 < x) = true := by simpa using hx0
      by_cases hlt : p < s.size
      · have hplt : (p : Int) < (s.size : Int) := by omega
        have dlt : decide ((p : Int) < (s.size : Int)) = true := by simpa using hlt
        have hw4 := wid_pos s[p] c0
        go_wp2
        go_quiet (fail)
        go_wp2
        go_region_with (first
          | (go_at_call 25; refine (width_any _ _ _ (by omega)).mono ?_; rintro e w1 ⟨rfl, rfl⟩)
          | (go_at_call 26; refine (pass_any (w := World.drew (wr.drewN _)) (s := s) (p := p) (c := c0) (wi := false) (by exact H1.out) (by omega) (by omega)).mono ?_; rintro e w1 ⟨rfl, hp1, hp2⟩))
        all_goals go_wp2
        all_goals go_roundw
        all_goals first
          | exact ⟨x - 1, rfl, by omega, move_pass (m := nq + 1) hx0 HO.out hlt h3 H4.out HS.out hp1 hp2⟩
          | (simp [intOf]; omega)
      · have hge : ¬ ((p : Int) < (s.size : Int)) := by omega
        have dlt : decide ((p : Int) < (s.size : Int)) = false := by simpa using hge
        go_wp2
        go_quiet (fail)
        go_wp2
        go_end0
        refine ⟨rfl, ?_, HO.out.drewN _⟩
        have e : τ = (s.data.toList.drop p, 0, c0) := by
          rw [← HS.out, drop_nil s p (by omega)]
          cases x.toNat <;> rfl
        rw [e]
        exact HC.out
    · have dx : decide (0 < x) = false := by simpa using hx0
      go_wp2
      go_quiet (fail)
      go_wp2
      go_end0
      refine ⟨rfl, ?_, HO.out.drewN _⟩
      have e : τ = (s.data.toList.drop p, 0, c0) := by
        rw [← HS.out, show x.toNat = 0 by omega]
        rfl
      rw [e]
      exact HC.out

end Go.Proofs.Ytonlkkpoanlcbaa
