/- What the document's own Move leaves. -/
import Derived.Test.YtonlkkpoanlcbaaRRead
set_option linter.unusedVariables false
namespace Go.Proofs.Ytonlkkpoanlcbaa
open Go.RowKit

/-- What a round of the document's Move keeps. -/
def RMoveRel (w : World) (b : Nat) (N : Nat) (τ : Pl) (k : Nat) (wr : World) : Prop := k ≤ N ∧ Oth b w wr ∧ ∃ l c, Ref wr b (l, 0, c) ∧ passR (N - k) l c = τ

theorem rmove_round {w wr : World} {b N k c : Nat} {x : UInt8} {t : List UInt8} {τ : Pl} {s : ByteArray} {m : Nat} {y : Int} (hk : k < N) (ho : Oth b w wr) (h1 : RefB wr b s 0 c) (h4 : wt (x :: t, 0, c) ≤ 35184372088832) (hs : passR (N - k) (x :: t) c = τ) (hy : y = ((c + wid x c : Nat) : Int)) :
    RMoveRel w b N τ (k + 1) (((wr.drewN m).setCell ⟨b, 2, none⟩ (.int .i64 y)).setCell ⟨b, 0, none⟩ (.string ⟨t.toArray⟩)) := by
  have hw := wid_pos x c
  refine ⟨by omega, ((ho.drewN m).set _ _).set _ _, t, c + wid x c, ⟨⟨t.toArray⟩, ref_cells (p := 0) (c := c + wid x c) (set_blk (set_blk (w := wr.drewN m) h1 2 _) 0 _) (by simp) hy, list_data t, by show 0 ≤ 3; omega, ?_⟩, ?_⟩
  · have h5 : c + 0 + 4 * (t.length + 1) ≤ 35184372088832 := h4
    show c + wid x c + 0 + 4 * t.length ≤ 35184372088832
    omega
  · rw [← hs, show N - k = (N - (k + 1)) + 1 by omega]
    rfl

set_option maxHeartbeats 2000000 in
theorem rmove_any {b : Nat} {σ : Pl} {w : World} (h : Ref w b σ) (n : Int) (hn : n ≤ 9223372036854775807) : Calls Try.prog 12 #[cptr b, .int .i64 n] w fun e w' => e = .returned (.tuple #[]) ∧ Ref w' b (moveR n.toNat σ) ∧ Oth b w w' := by
  have h' := h
  obtain ⟨s, h1, h2, h3, h4⟩ := h'
  have c0 := cell_blk h1 (i := 0) rfl
  have hsz : s.size = σ.1.length := by rw [← len_data, h2]
  have hw4 : σ.2.2 + σ.2.1 + 4 * σ.1.length ≤ 35184372088832 := h4
  have hi4 := ind_four σ h3
  have hsk := rskip_any h ((s.size : Int) * 4 + 4) (by omega)
  rw [skip_every σ _ (by omega)] at hsk
  have hs9 : s.size ≤ 35184372088832 := by omega
  obtain ⟨N, hN⟩ : ∃ N, n.toNat = N := ⟨_, rfl⟩
  obtain ⟨τ, hτ⟩ : ∃ τ, moveR N σ = τ := ⟨_, rfl⟩
  have HM : Hid (passR N (beh σ.1) (endC σ.1 (σ.2.2 + σ.2.1)) = τ) := hτ
  have HSk : Hid (Calls Try.prog 10 #[cptr b, .int .i64 ((s.size : Int) * 4 + 4)] w fun e w' => e = .returned (.int .i64 ((endC σ.1 (σ.2.2 + σ.2.1) : Int) - (σ.2.2 : Int))) ∧ Ref w' b (beh σ.1, 0, endC σ.1 (σ.2.2 + σ.2.1)) ∧ Oth b w w') := hsk
  have HN : Hid (n.toNat = N) := hN
  rw [hN, hτ]
  clear hτ hsk h h1 h2 h3 h4 hsz hw4 hi4 hN
  go_enter Try.func12, Try.ntmps12
  go_wp2_with (go_at_call 10; refine HSk.out.mono ?_; rintro e w2 ⟨rfl, hc2, ho2⟩)
  go_loopw [4] (fun v wr => ∃ k : Nat, v = .int .i64 (k : Int) ∧ Hid (RMoveRel w b N τ k wr)) (fun v _ => N - (intOf v).toNat)
  case atStart => exact ⟨0, rfl, Nat.zero_le _, ho2, _, _, hc2, HM.out⟩
  case round =>
    clear hc2 ho2 HSk HM c0 hs9
    obtain ⟨k, rfl, hr⟩ := hrel
    obtain ⟨hk, ho, l, c, href, hs⟩ := hr.out
    have href' := href
    obtain ⟨s', h1, h2, h3, h4⟩ := href'
    have h1 : RefB wr b s' 0 c := h1
    have h2 : s'.data.toList = l := h2
    have HR : Hid (Ref wr b (l, 0, c)) := href
    have HS : Hid (passR (N - k) l c = τ) := hs
    have H1 : Hid (RefB wr b s' 0 c) := h1
    have H4 : Hid (wt (l, 0, c) ≤ 35184372088832) := h4
    have HO : Hid (Oth b w wr) := ho
    have hc9 : c ≤ 35184372088832 := by have : c + 0 + 4 * l.length ≤ 35184372088832 := h4; omega
    have c0 := cell_blk h1 (i := 0) rfl
    have c2 := cell_blk h1 (i := 2) rfl
    have f0 := free_blk h1 0
    have f2 := free_blk h1 2
    clear h1 hs ho href hr h4 h3
    by_cases hkn : (k : Int) < n
    · have hkN : k < N := by have := HN.out; omega
      have hk9 : (k : Int) < 9223372036854775807 := by omega
      match l with
      | [] =>
        have hs0 := data_nil h2
        subst hs0
        go_wp2
        go_end0
        refine ⟨rfl, ?_, HO.out⟩
        have e1 := HS.out
        rw [show N - k = (N - k - 1) + 1 by omega] at e1
        rw [← e1]
        exact HR.out
      | x :: t =>
        obtain ⟨hs0, hext, hx0⟩ := data_cons h2
        have hx := hx0 hs0
        have hs0' : (0 : Int) < (s'.size : Int) := by omega
        have hs1' : (1 : Int) ≤ (s'.size : Int) := by omega
        have htl : s'.toList = x :: t := by rw [ByteArray.toList_eq, h2]
        have hw := wid_pos x c
        clear hx0 h2
        by_cases hx9 : x = 9
        · subst hx9
          go_wp2
          go_region_with (go_at_call 28; refine (rwidth_any _ _ (by omega)).mono ?_; rintro e w1 ⟨rfl, hw1⟩; subst w1)
          all_goals go_wp2
          all_goals go_roundw
          all_goals first
            | exact ⟨k + 1, by go_num, rmove_round (m := 1) hkN HO.out H1.out H4.out HS.out (by omega)⟩
            | (simp [intOf]; omega)
        · have q : ((x.toNat : Int) == 9) = false := by
            have := mt (tab_int x).2 hx9
            simpa using this
          have hwo := wid_other hx9 c
          go_wp2
          go_roundw
          case rel => exact ⟨k + 1, by go_num, rmove_round (m := 0) hkN HO.out H1.out H4.out HS.out (by omega)⟩
          case measure => simp [intOf]; omega
    · have hkN : N - k = 0 := by have := HN.out; omega
      go_wp2
      go_end0
      refine ⟨rfl, ?_, HO.out⟩
      have e1 := HS.out
      rw [hkN] at e1
      rw [← e1]
      exact HR.out

end Go.Proofs.Ytonlkkpoanlcbaa
