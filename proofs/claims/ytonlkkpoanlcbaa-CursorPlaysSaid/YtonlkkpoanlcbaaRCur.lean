/- What the document's own place in a line answers: step, Skip, Indent, Behind, Blank, Next, Rest. -/
import Derived.Test.YtonlkkpoanlcbaaCThree
set_option linter.unusedVariables false
namespace Go.Proofs.Ytonlkkpoanlcbaa
open Go.RowKit

abbrev RefB (w : World) (b : Nat) (s : ByteArray) (part c : Nat) : Prop := w.heap[b]? = some (.cells #[.string s, .int .i64 (part : Int), .int .i64 (c : Int)] 28 (0, 0))

/-- Block b holds the document's place σ. -/
def Ref (w : World) (b : Nat) (σ : Pl) : Prop := ∃ s, RefB w b s σ.2.1 σ.2.2 ∧ s.data.toList = σ.1 ∧ σ.2.1 ≤ 3 ∧ wt σ ≤ 35184372088832

theorem Ref.below {w w' : World} {b : Nat} {σ : Pl} (h : Ref w b σ) (hb : Below w.heap.size w w') : Ref w' b σ := by
  obtain ⟨s, h1, h2⟩ := h
  exact ⟨s, blk_below h1 hb, h2⟩
theorem Ref.oth {w w' : World} {b b' : Nat} {σ : Pl} (h : Ref w b σ) (hb : Oth b' w w') (hn : b ≠ b') : Ref w' b σ := by
  obtain ⟨s, h1, h2⟩ := h
  exact ⟨s, (hb.block hn).trans h1, h2⟩
theorem Ref.lt {w : World} {b : Nat} {σ : Pl} (h : Ref w b σ) : b < w.heap.size := by
  obtain ⟨s, h1, h2⟩ := h
  exact lt_of_block h1
theorem ref_cells {w : World} {b : Nat} {s : ByteArray} {x y : Int} {p c : Nat} (h : w.heap[b]? = some (.cells #[.string s, .int .i64 x, .int .i64 y] 28 (0, 0))) (hx : x = (p : Int)) (hy : y = (c : Int)) : RefB w b s p c := by
  subst hx hy; exact h

theorem data_nil {s : ByteArray} (h : s.data.toList = []) : s = ⟨#[]⟩ := by
  rw [← mk_data s, h]
theorem data_cons {s : ByteArray} {b : UInt8} {t : List UInt8} (h : s.data.toList = b :: t) : 0 < s.size ∧ s.extract 1 s.size = ⟨t.toArray⟩ ∧ ∀ h' : 0 < s.size, s[0] = b := by
  have h1 : s.size = t.length + 1 := by rw [← len_data, h]; rfl
  refine ⟨by omega, ?_, fun h' => ?_⟩
  · rw [extract_end, h]; rfl
  · rw [byte_at s 0 h', h]; rfl

set_option maxHeartbeats 400000 in
theorem rwidth_any (c : Nat) (w : World) (hc : c ≤ 1152921504606846976) : Calls Try.prog 28 #[.int .i64 (c : Int)] w fun e w' => e = .returned (.int .i64 (wid 9 c : Int)) ∧ w' = w := by
  have hm : (c : Int).tmod 4 = ((c % 4 : Nat) : Int) := by rw [Int.tmod_eq_emod_of_nonneg (by omega)]; omega
  have h4 : c % 4 < 4 := Nat.mod_lt _ (by omega)
  have e : ((wid 9 c : Nat) : Int) = 4 - ((c % 4 : Nat) : Int) := by rw [wid_tab]; omega
  rw [e]
  generalize c % 4 = r at *
  clear e
  go_enter Try.func28, Try.ntmps28
  go_wp2
  go_ret
  exact ⟨rfl, rfl⟩

set_option maxHeartbeats 1000000 in
theorem step_any {b : Nat} {σ : Pl} {w : World} (h : Ref w b σ) : Calls Try.prog 27 #[cptr b] w fun e w' => e = .returned (.bool (stepR σ).isSome) ∧ Ref w' b ((stepR σ).getD σ) ∧ Oth b w w' := by
  have h' := h
  obtain ⟨s, h1, h2, h3, h4⟩ := h
  have H0 : Hid (Ref w b σ) := h'
  have c0 := cell_blk h1 (i := 0) rfl
  have c1 := cell_blk h1 (i := 1) rfl
  have c2 := cell_blk h1 (i := 2) rfl
  have f0 := free_blk h1 0
  have f1 := free_blk h1 1
  have f2 := free_blk h1 2
  have H1 : Hid (RefB w b s σ.2.1 σ.2.2) := h1
  have H4 : Hid (wt σ ≤ 35184372088832) := h4
  have hwt : σ.2.2 + σ.2.1 ≤ 35184372088832 := by unfold wt at h4; omega
  clear h1 h' h4
  match σ with
  | (l, part + 1, c) =>
    have h3' : part + 1 ≤ 3 := h3
    have hwt' : c + (part + 1) ≤ 35184372088832 := hwt
    have g : (0 : Int) < ((part + 1 : Nat) : Int) := by omega
    go_enter Try.func27, Try.ntmps27
    go_wp2
    go_ret
    refine ⟨rfl, ⟨s, ref_cells (p := part) (c := c + 1) (set_blk (set_blk H1.out 1 _) 2 _) (by simp) (by simp), h2, by show part ≤ 3; omega, ?_⟩, ((Oth.refl _ _).set _ _).set _ _⟩
    have h4 : c + (part + 1) + 4 * l.length ≤ 35184372088832 := H4.out
    show c + 1 + part + 4 * l.length ≤ 35184372088832
    omega
  | ([], 0, c) =>
    have hs := data_nil h2
    subst hs
    go_enter Try.func27, Try.ntmps27
    go_wp2
    go_ret
    exact ⟨rfl, H0.out, Oth.refl _ _⟩
  | (x :: t, 0, c) =>
    obtain ⟨hs0, hext, hx0⟩ := data_cons h2
    have hx := hx0 hs0
    have hs0' : (0 : Int) < (s.size : Int) := by omega
    have htl : s.toList = x :: t := by rw [ByteArray.toList_eq, h2]
    have hwt' : c ≤ 35184372088832 := by have : c + 0 ≤ 35184372088832 := hwt; omega
    have hw4 : c + 0 + 4 * (t.length + 1) ≤ 35184372088832 := H4.out
    clear hx0 h2
    cases hB : isB x with
    | false =>
      have hib := isB_int x
      rw [hB] at hib
      obtain ⟨q1, q2⟩ := Bool.or_eq_false_iff.1 hib.symm
      have q3 : ((x.toNat : Int) != 32) = true := by rw [bne, q1]; rfl
      have q4 : ((x.toNat : Int) != 9) = true := by rw [bne, q2]; rfl
      have hnone : stepR (x :: t, 0, c) = none := by simp [stepR, hB]
      rw [hnone]
      clear hib hnone
      go_enter Try.func27, Try.ntmps27
      go_wp2
      go_ret
      exact ⟨rfl, H0.out, Oth.refl _ _⟩
    | true =>
      rcases (isB_iff x).1 hB with rfl | rfl
      · clear hB
        go_enter Try.func27, Try.ntmps27
        go_wp2
        go_ret
        refine ⟨rfl, ⟨⟨t.toArray⟩, ref_cells (p := 0) (c := c + 1) (set_blk (set_blk H1.out 0 _) 2 _) (by simp) (by simp), list_data t, by show 0 ≤ 3; omega, ?_⟩, ((Oth.refl _ _).set _ _).set _ _⟩
        show c + 1 + 0 + 4 * t.length ≤ 35184372088832
        omega
      · clear hB
        have hw := wid_pos 9 c
        go_enter Try.func27, Try.ntmps27
        go_wp2_with (go_at_call 28; refine (rwidth_any _ _ (by omega)).mono ?_; rintro e w1 ⟨rfl, hw1⟩; subst w1)
        go_ret
        refine ⟨rfl, ⟨⟨t.toArray⟩, ref_cells (p := wid 9 c - 1) (c := c + 1) (set_blk (set_blk (set_blk H1.out 1 _) 0 _) 2 _) (by omega) (by simp), list_data t, by show wid 9 c - 1 ≤ 3; omega, ?_⟩, (((Oth.refl _ _).set _ _).set _ _).set _ _⟩
        show c + 1 + (wid 9 c - 1) + 4 * t.length ≤ 35184372088832
        omega

/-- What a round of the document's Skip keeps. -/
def RSkipRel (w : World) (b : Nat) (N : Nat) (σ : Pl) (k : Nat) (wr : World) : Prop := k ≤ N ∧ Oth b w wr ∧ ∃ τ : Pl, Ref wr b τ ∧ skipR (N - k) τ = skipR N σ ∧ τ.2.2 = σ.2.2 + k

set_option maxHeartbeats 1000000 in
theorem rskip_any {b : Nat} {σ : Pl} {w : World} (h : Ref w b σ) (n : Int) (hn : n ≤ 9223372036854775807) : Calls Try.prog 10 #[cptr b, .int .i64 n] w fun e w' => e = .returned (.int .i64 (((skipR n.toNat σ).2.2 : Int) - (σ.2.2 : Int))) ∧ Ref w' b (skipR n.toNat σ) ∧ Oth b w w' := by
  obtain ⟨N, hN⟩ : ∃ N, n.toNat = N := ⟨_, rfl⟩
  rw [hN]
  go_enter Try.func10, Try.ntmps10
  go_wp2
  go_loopw [5] (fun m wr => ∃ k : Nat, m = .int .i64 (k : Int) ∧ Hid (RSkipRel w b N σ k wr)) (fun m _ => N - (intOf m).toNat)
  case atStart => exact ⟨0, rfl, Nat.zero_le _, Oth.refl _ _, σ, h, rfl, rfl⟩
  case round =>
    clear h
    obtain ⟨k, rfl, hr⟩ := hrel
    obtain ⟨hk, ho, τ, href, hs, hcol⟩ := hr.out
    have hstep := step_any href
    have HStep := (show Hid (Calls Try.prog 27 #[cptr b] wr fun e w' => e = .returned (.bool (stepR τ).isSome) ∧ Ref w' b ((stepR τ).getD τ) ∧ Oth b wr w') from hstep)
    have HR : Hid (Ref wr b τ) := href
    have HS : Hid (skipR (N - k) τ = skipR N σ) := hs
    have HCol : Hid (τ.2.2 = σ.2.2 + k) := hcol
    have HO : Hid (Oth b w wr) := ho
    have HN : Hid (n.toNat = N) := hN
    clear hstep href hs hcol ho hr hN
    by_cases hkn : (k : Int) < n
    · have hkN : k < N := by have := HN.out; omega
      cases hst : stepR τ with
      | none =>
        rw [hst] at HStep
        go_wp2_with (go_at_call 27; refine HStep.out.mono ?_; rintro e w1 ⟨rfl, hr1, ho1⟩)
        go_ret
        have e1 := HS.out
        rw [skip_none hst] at e1
        refine ⟨ret_int ?_, ?_, HO.out.trans ho1⟩
        · rw [← e1]; have := HCol.out; omega
        · rw [← e1]; exact hr1
      | some ρ =>
        rw [hst] at HStep
        go_wp2_with (go_at_call 27; refine HStep.out.mono ?_; rintro e w1 ⟨rfl, hr1, ho1⟩)
        go_roundw
        case rel =>
          refine ⟨k + 1, by go_num, by omega, HO.out.trans ho1, ρ, hr1, ?_, ?_⟩
          · rw [← HS.out, show N - k = (N - (k + 1)) + 1 by omega, skip_some hst]
          · rw [step_col hst, HCol.out]; omega
        case measure => simp [intOf]; omega
    · have hkN : N - k = 0 := by have := HN.out; omega
      go_wp2
      go_ret
      have e1 := HS.out
      rw [hkN] at e1
      refine ⟨ret_int ?_, ?_, HO.out⟩
      · rw [← e1]; have := HCol.out; show (k : Int) = (τ.2.2 : Int) - _; omega
      · rw [← e1]; exact HR.out

end Go.Proofs.Ytonlkkpoanlcbaa
