/- What Skip and Move answer, and what they leave, of any place in a line. -/
import Derived.Test.YtonlkkpoanlcbaaCMove
set_option linter.unusedVariables false
namespace Go.Proofs.Ytonlkkpoanlcbaa
open Go.RowKit

theorem cells_eq {w : World} {b : Nat} {s : ByteArray} {wi : Bool} {x y : Int} {p c : Nat} (h : w.heap[b]? = some (.cells #[.string s, .int .i64 x, .int .i64 y, .bool wi] 40 (0, 0))) (hx : x = (p : Int)) (hy : y = (c : Int)) : CurB w b s p c wi := by
  subst hx hy; exact h

set_option maxHeartbeats 400000 in
theorem pass_any {b : Nat} {s : ByteArray} {p c x : Nat} {wi : Bool} {w : World} (h : CurB w b s p c wi) (hp : p ≤ 1099511627776) (hc : c + x ≤ 1152921504606846976) : Calls Try.prog 26 #[cptr b, .int .i64 (x : Int)] w fun e w' => e = .returned (.tuple #[]) ∧ CurB w' b s (p + 1) (c + x) false ∧ Oth b w w' := by
  have c1 := cell_blk h (i := 1) rfl
  have c2 := cell_blk h (i := 2) rfl
  have c3 := cell_blk h (i := 3) rfl
  have f1 := free_blk h 1
  have f2 := free_blk h 2
  have f3 := free_blk h 3
  have H : Hid (CurB w b s p c wi) := h
  clear h
  go_enter Try.func26, Try.ntmps26
  go_wp2
  go_end0
  refine ⟨rfl, cells_eq (p := p + 1) (c := c + x) (set_blk (set_blk (set_blk H.out 1 _) 2 _) 3 _) (by simp) (by simp), (((Oth.refl _ _).set _ _).set _ _).set _ _⟩

/-- What a round of Skip keeps. -/
def SkipRel (w : World) (b : Nat) (N : Nat) (σ : Pl) (k : Nat) (wr : World) : Prop := k ≤ N ∧ Oth b w wr ∧ ∃ τ : Pl, Cur wr b τ ∧ skipR (N - k) τ = skipR N σ ∧ τ.2.2 = σ.2.2 + k

theorem skip_end {w wr : World} {b N k : Nat} {σ τ : Pl} (hk : k ≤ N) (ho : Oth b w wr) (hc : Cur wr b τ) (hs : skipR (N - k) τ = skipR N σ) (hcol : τ.2.2 = σ.2.2 + k) (hst : skipR (N - k) τ = τ) (m : Nat) :
    (k : Int) = ((skipR N σ).2.2 : Int) - (σ.2.2 : Int) ∧ Cur (wr.drewN m) b (skipR N σ) ∧ Oth b w (wr.drewN m) := by
  rw [← hs, hst]
  exact ⟨by omega, hc, ho.drewN m⟩

theorem skip_some_end {w wr : World} {b N k p c : Nat} {n : Int} {σ τ : Pl} {s : ByteArray} {wi : Bool} (m : Nat) (hN : n.toNat = N) (hk : k ≤ N) (hkn : (k : Int) < n) (ho : Oth b w wr) (h1 : CurB wr b s p c wi) (hp : p < s.size) (h3 : s.size ≤ 1099511627776) (h4 : wt τ ≤ 35184372088832) (h5 : Abs (s[p] :: s.data.toList.drop (p + 1)) c wi τ) (hB : isB s[p] = true) (hwl : n - (k : Int) < (wid s[p] c : Int))
    (hs : skipR (N - k) τ = skipR N σ) (hcol : τ.2.2 = σ.2.2 + k) :
    n = ((skipR N σ).2.2 : Int) - (σ.2.2 : Int) ∧ Cur (((wr.drewN m).setCell ⟨b, 2, none⟩ (.int .i64 ((c : Int) + (n - (k : Int))))).setCell ⟨b, 3, none⟩ (.bool true)) b (skipR N σ) ∧ Oth b w (((wr.drewN m).setCell ⟨b, 2, none⟩ (.int .i64 ((c : Int) + (n - (k : Int))))).setCell ⟨b, 3, none⟩ (.bool true)) := by
  have ha := h5.part hB (N - k) (by omega) (by omega)
  have hw := wt_skip (N - k) τ
  have hac := ha.col
  rw [hs] at ha hac hw
  have hc := h5.col
  refine ⟨by omega, ⟨s, p, c + (N - k), true, ?_, by omega, h3, by omega, by rw [drop_cons s p hp]; exact ha⟩, ((ho.drewN m).set _ _).set _ _⟩
  exact cells_eq (set_blk (set_blk (w := wr.drewN m) h1 2 _) 3 _) rfl (by omega)

theorem skip_pass {w wr w1 : World} {b N k p c m : Nat} {n : Int} {σ τ : Pl} {s : ByteArray} {wi : Bool} (hN : n.toNat = N) (hk : k ≤ N) (hkn : (k : Int) < n) (ho : Oth b w wr) (hp : p < s.size) (h3 : s.size ≤ 1099511627776) (h4 : wt τ ≤ 35184372088832) (h5 : Abs (s[p] :: s.data.toList.drop (p + 1)) c wi τ) (hB : isB s[p] = true) (hwl : (wid s[p] c : Int) ≤ n - (k : Int))
    (hs : skipR (N - k) τ = skipR N σ) (hcol : τ.2.2 = σ.2.2 + k) (hp1 : CurB w1 b s (p + 1) (c + wid s[p] c) false) (hp2 : Oth b (wr.drewN m) w1) : SkipRel w b N σ (k + wid s[p] c) w1 := by
  have hwh := h5.whole hB (N - k) (by omega)
  have hc := h5.col
  have hw := wt_skip (wid s[p] c) τ
  have hwh1 := h5.whole hB (wid s[p] c) (Nat.le_refl _)
  rw [Nat.sub_self] at hwh1
  rw [hwh1] at hw
  refine ⟨by omega, (ho.drewN m).trans hp2, (s.data.toList.drop (p + 1), 0, c + wid s[p] c), ⟨s, p + 1, c + wid s[p] c, false, hp1, by omega, h3, ?_, .inl ⟨rfl, rfl⟩⟩, ?_, ?_⟩
  · have : skipR 0 (List.drop (p + 1) s.data.toList, 0, c + wid s[p] c) = (List.drop (p + 1) s.data.toList, 0, c + wid s[p] c) := rfl
    rw [this] at hw
    omega
  · rw [← hs, hwh, Nat.sub_sub]
  · show c + wid s[p] c = _
    omega

set_option maxHeartbeats 1000000 in
theorem skip_any {b : Nat} {σ : Pl} {w : World} (h : Cur w b σ) (n : Int) (hn : n ≤ 9223372036854775807) : Calls Try.prog 9 #[cptr b, .int .i64 n] w fun e w' => e = .returned (.int .i64 (((skipR n.toNat σ).2.2 : Int) - (σ.2.2 : Int))) ∧ Cur w' b (skipR n.toNat σ) ∧ Oth b w w' := by
  obtain ⟨N, hN⟩ : ∃ N, n.toNat = N := ⟨_, rfl⟩
  rw [hN]
  go_enter Try.func9, Try.ntmps9
  go_wp2
  go_loopw [5] (fun m wr => ∃ k : Nat, m = .int .i64 (k : Int) ∧ Hid (SkipRel w b N σ k wr)) (fun m _ => N - (intOf m).toNat)
  case atStart => exact ⟨0, rfl, Nat.zero_le _, Oth.refl _ _, σ, h, rfl, rfl⟩
  case round =>
    clear h
    obtain ⟨k, rfl, hr⟩ := hrel
    obtain ⟨hk, ho, τ, hcur, hs, hcol⟩ := hr.out
    have hcur' := hcur
    obtain ⟨s, p, c, wi, h1, h2, h3, h4, h5⟩ := hcur'
    have HC : Hid (Cur wr b τ) := hcur
    have HS : Hid (skipR (N - k) τ = skipR N σ) := hs
    have HCol : Hid (τ.2.2 = σ.2.2 + k) := hcol
    have hcw := h5.wt
    have hτc := h5.col
    have HT : Hid (τ.2.2 = c) := hτc
    have hkb : k + σ.2.2 ≤ 35184372088832 := by omega
    have c0 := cell_blk h1 (i := 0) rfl
    have c1 := cell_blk h1 (i := 1) rfl
    have c2 := cell_blk h1 (i := 2) rfl
    have c3 := cell_blk h1 (i := 3) rfl
    have f2 := free_blk h1 2
    have f3 := free_blk h1 3
    have H1 : Hid (CurB wr b s p c wi) := h1
    have HO : Hid (Oth b w wr) := ho
    have HN : Hid (n.toNat = N) := hN
    clear h1 hs hcol hτc ho hcur hr hN
    by_cases hkn : (k : Int) < n
    · have dkn : decide ((k : Int) < n) = true := by simpa using hkn
      by_cases hlt : p < s.size
      · have hplt : (p : Int) < (s.size : Int) := by omega
        have dlt : decide ((p : Int) < (s.size : Int)) = true := by simpa using hlt
        have hd := drop_cons s p hlt
        rw [hd] at h5
        have H5 : Hid (Abs (s[p] :: s.data.toList.drop (p + 1)) c wi τ) := h5
        clear h5 hd
        have hw4 := wid_pos s[p] c
        cases hB : isB s[p] with
        | false =>
          go_wp2
          go_quiet ((go_at_call 24; exact Calls.quiet_of_same (isBlank_any _ _)))
          go_wp2
          go_ret
          have hst := H5.out.stop (fun b' t' e => by cases e; exact hB) (N - k)
          have R := skip_end hk HO.out HC.out HS.out HCol.out hst nq
          exact ⟨ret_int R.1, R.2⟩
        | true =>
          by_cases hwl : n - (k : Int) < (wid s[p] c : Int)
          · go_wp2
            go_quiet ((go_at_call 24; exact Calls.quiet_of_same (isBlank_any _ _)))
            go_wp2
            go_quiet ((go_at_call 25; exact quiet_same2 (width_any _ _ _ (by omega))))
            go_wp2
            go_ret
            have R := fun m => skip_some_end m HN.out hk hkn HO.out H1.out hlt h3 h4 H5.out hB hwl HS.out HCol.out
            exact ⟨ret_int (R 0).1, (R _).2⟩
          · have hwl' : (wid s[p] c : Int) ≤ n - (k : Int) := by omega
            go_wp2
            go_quiet ((go_at_call 24; exact Calls.quiet_of_same (isBlank_any _ _)))
            go_wp2
            go_quiet ((go_at_call 25; exact quiet_same2 (width_any _ _ _ (by omega))))
            go_wp2_with (go_at_call 26; refine (pass_any (w := wr.drewN _) (s := s) (p := p) (c := c) (wi := wi) (by exact H1.out) (by omega) (by omega)).mono ?_; rintro e w1 ⟨rfl, hp1, hp2⟩)
            go_roundw
            case rel => exact ⟨k + wid s[p] c, by go_num, skip_pass HN.out hk hkn HO.out hlt h3 h4 H5.out hB hwl' HS.out HCol.out hp1 hp2⟩
            case measure => have := HN.out; simp [intOf]; omega
      · have hge : ¬ ((p : Int) < (s.size : Int)) := by omega
        have dlt : decide ((p : Int) < (s.size : Int)) = false := by simpa using hge
        have H5 : Hid (Abs (s.data.toList.drop p) c wi τ) := h5
        clear h5
        go_wp2
        go_quiet (fail)
        go_wp2
        go_ret
        have hst := H5.out.stop (fun b' t' e => by rw [drop_nil s p (by omega)] at e; cases e) (N - k)
        have R := skip_end hk HO.out HC.out HS.out HCol.out hst nq
        exact ⟨ret_int R.1, R.2⟩
    · have dkn : decide ((k : Int) < n) = false := by simpa using hkn
      clear h5
      go_wp2
      go_quiet (fail)
      go_wp2
      go_ret
      have hst : skipR (N - k) τ = τ := by
        have : N - k = 0 := by have := HN.out; omega
        rw [this]; rfl
      have R := skip_end hk HO.out HC.out HS.out HCol.out hst nq
      exact ⟨ret_int R.1, R.2⟩

end Go.Proofs.Ytonlkkpoanlcbaa
