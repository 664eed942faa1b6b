/- The document's disk: Sync; walked. -/
import Derived.Test.YtmkgaegodemglaaDRef7
set_option linter.unusedVariables false
namespace Go.Proofs.Ytmkgaegodemglaa
open Go.RowKit

theorem findV_off {d : Dk} {n : Nm} (h : d.up = false) : findV d n = 13 := by unfold findV; rw [if_neg (by rw [h]; decide)]
theorem findV_none {d : Dk} {n : Nm} (h : d.up = true) (hg : getA n d.files = none) : findV d n = 15 := by unfold findV; rw [if_pos h, hg]; rfl
theorem findV_some {d : Dk} {n : Nm} {f : Fl} (h : d.up = true) (hg : getA n d.files = some f) : findV d n = 0 := by unfold findV; rw [if_pos h, hg]; rfl
theorem theF_some {d : Dk} {n : Nm} {f : Fl} (h : d.up = true) (hg : getA n d.files = some f) : theF d n = f := by unfold theF; rw [if_pos (findV_some h hg), hg]; rfl
theorem eraseA {n : Nm} {f : Fl} {l : Fls} {i : Nat} (h : Rises l) (hi : l[i]? = some (n, f)) : delA n l = l.take i ++ l.drop (i + 1) := by
  obtain ⟨hl, he⟩ := List.getElem?_eq_some_iff.1 hi
  have e : l = l.take i ++ (n, f) :: l.drop (i + 1) := by
    rw [← he, ← List.drop_eq_getElem_cons hl, List.take_append_drop]
  have hp : Rises (l.take i ++ (n, f) :: l.drop (i + 1)) := by rw [← e]; exact h
  have hpp := List.pairwise_append.1 hp
  have hb := List.pairwise_cons.1 hpp.2.1
  have ha : delA n (l.take i) = l.take i := delA_none (fun p hp' e' => by
    have := hpp.2.2 p hp' (n, f) List.mem_cons_self
    rw [e', bb_irrefl] at this; cases this)
  have hb' : delA n (l.drop (i + 1)) = l.drop (i + 1) := delA_none (fun p hp' e' => by
    have := hb.1 p hp'
    rw [e', bb_irrefl] at this; cases this)
  conv => lhs; rw [e]
  unfold delA at ha hb' ⊢
  rw [List.filter_append, ha, List.filter_cons, hb']
  simp
theorem okDel {d : Dk} (h : DkOk d) (n : Nm) : DkOk { d with files := delA n d.files } := by
  have hl : (delA n d.files).length ≤ d.files.length := List.length_filter_le _ _
  have hu := usedL_del n d.files h.rises
  exact { rises := rises_delA h.rises, lasts := fun p hp => h.lasts p (mem_delA.1 hp).1, fits := by have := h.fits; show usedL (delA n d.files) ≤ d.room; omega, room := h.room, ahead := h.ahead, keep := h.keep, few := by have := h.few; show (delA n d.files).length ≤ _; omega, small := by have := h.small; show usedL (delA n d.files) ≤ _; omega }
/-- What is read of a file in its place. -/
theorem RkW.here {w : World} {b : Nat} {S : Nat → Prop} {fa : Option Addr} {fc nl : Nat} {l : FV} {d : Dk} (h : RkW w b S (.slice fa nl fc) l d) {i : Nat} {n : Nm} {f : Fl} (hi : d.files[i]? = some (n, f)) :
    ∃ g va vc, fa = some ⟨g, 0, none⟩ ∧ nl = l.length ∧ S g ∧ l[i]? = some ((n, f), .slice va f.bs.length vc) ∧ i < nl ∧ f.bs.length ≤ vc ∧ OwnB w 0 (.slice va f.bs.length vc) f.bs ∧ w.cell? ⟨b, 1, none⟩ = some (.slice (some ⟨g, 0, none⟩) nl fc) ∧ w.cell? ⟨g, i * 3, none⟩ = some (strN n) ∧ w.cell? ⟨g, i * 3 + 1, none⟩ = some (.slice va f.bs.length vc) ∧ w.cell? ⟨g, i * 3 + 2, none⟩ = some (.int .i64 (f.la : Int)) ∧ ∀ j, w.frozen? ⟨g, j, none⟩ = false := by
  obtain ⟨v, hl⟩ := h.get hi
  obtain ⟨g, c, he, hS, _, p0, p1, p2, pf⟩ := h.at hl
  have e1 : fa = some ⟨g, 0, none⟩ := congrArg (fun v => match v with | Value.slice a _ _ => a | _ => none) he
  have e2 : nl = l.length := congrArg (fun v => match v with | Value.slice _ n _ => n | _ => 0) he
  subst e1 e2
  have ho := h.bytes _ (List.mem_of_getElem? hl)
  simp only at ho p1
  obtain ⟨va, vc, rfl⟩ := own_slice ho
  exact ⟨g, va, vc, rfl, rfl, hS, hl, (List.getElem?_eq_some_iff.1 hl).1, (own_take ho 0 (Nat.zero_le _)).2.1, ho, h.c1, p0, p1, p2, pf⟩

set_option maxHeartbeats 4000000 in
set_option maxRecDepth 20000 in
theorem rsync_any {w : World} {b : Nat} {S : Nat → Prop} {fs : Value} {l : FV} {d : Dk} (h : RkW w b S fs l d) (n : Nm) (hn : n.length ≤ 140737488355328) :
    Calls Try.prog 28 #[dptr b, strN n] w fun e w' => e = .returned (.int .i64 ((syncP d n).1 : Int)) ∧ RidS w b S (syncP d n).2 w' := by
  obtain ⟨fa, fc, rfl⟩ := h.shape
  have c2 := h.c2
  have HD : Hid (RkW w b S (.slice fa l.length fc) l d) := h
  have hF := rfind_any h n
  have hfew : l.length ≤ 1048576 := by rw [h.len]; exact h.ok.few
  unfold syncP
  cases hu : d.up with
  | false =>
    rw [hu] at c2
    rw [if_pos (by rw [findV_off hu]; decide), findV_off hu]
    generalize fidx n d.files = Z at *
    clear h
    go_enter Try.func28, Try.ntmps28
    go_wp2_with (go_at_call 47; refine hF.mono ?_; rintro e wa ⟨rfl, hw⟩; subst wa)
    go_ret
    exact ⟨rfl, RidS.mk1 HD.out (Fr.refl S w)⟩
  | true =>
    rw [hu] at c2
    rcases fidx_cases n d.files with ⟨hz, hg⟩ | ⟨i, f, hz, hi, hg⟩
    · rw [hz] at hF
      rw [if_pos (by rw [findV_none hu hg]; decide), findV_none hu hg]
      clear h hz hg
      go_enter Try.func28, Try.ntmps28
      go_wp2_with (go_at_call 47; refine hF.mono ?_; rintro e wa ⟨rfl, hw⟩; subst wa)
      go_ret
      exact ⟨rfl, RidS.mk1 HD.out (Fr.refl S w)⟩
    · rw [hz] at hF
      rw [if_neg (by rw [findV_some hu hg]; decide), theF_some hu hg]
      have HUp : Hid (d.up = true) := hu
      have HI : Hid (d.files[i]? = some (n, f)) := hi
      have n0 : ¬ (i : Int) < 0 := by omega
      have q0 : decide ((i : Int) < 0) = false := by simp
      obtain ⟨bs, la⟩ := f
      simp only
      obtain ⟨L, hL⟩ : ∃ L, L = l.length := ⟨_, rfl⟩
      have HLl : Hid (L = l.length) := hL
      rw [← hL] at HD hfew
      have hiL : i < L := by rw [hL, h.len]; exact (List.getElem?_eq_some_iff.1 hi).1
      have hiL' : (i : Int) < (L : Int) := by omega
      have jL : (L : Int) ≤ 1048576 := by omega
      clear hz hg hL hi h
      by_cases h0 : d.ahead = 0
      · rw [if_pos h0]
        have HZ : Hid (d.ahead = 0) := h0
        clear h0
        go_enter Try.func28, Try.ntmps28
        go_wp2_with (first
          | (go_at_call 47; refine hF.mono ?_; rintro e wa ⟨rfl, hw⟩; subst wa)
          | (go_at_call 49; refine (rdeed_any HD.out HUp.out).mono ?_; rintro e w1 ⟨he, h1, _⟩; rw [HZ.out] at he; have HR1 := (show Hid _ from h1 HZ.out); clear h1; subst he))
        go_ret
        exact ⟨rfl, HR1.out⟩
      · rw [if_neg h0]
        have HZ : Hid (d.ahead ≠ 0) := h0
        have HFf : Hid ((failD d).files = d.files) := failD_files h0
        have HI1 : Hid ((failD d).files[i]? = some (n, ⟨bs, la⟩)) := by rw [HFf.out]; exact HI.out
        clear h0
        go_enter Try.func28, Try.ntmps28
        go_wp2_with (go_at_call 47; refine hF.mono ?_; rintro e wa ⟨rfl, hw⟩; subst wa)
        refine (rdeed_any HD.out HUp.out).mono ?_
        rintro e w1 ⟨he, _, h1⟩
        rw [if_neg HZ.out] at he
        subst he
        obtain ⟨h1a, h1b⟩ := h1 HZ.out
        obtain ⟨g, va, vc, hfa, hnl, hSg, hlk, _, hvc, hob, c1, p0, p1, p2, pf⟩ := h1a.here HI1.out
        subst hfa
        have f2 := pf (i * 3 + 2)
        simp only at p1 p2 hlk
        have HR1 : Hid (RkW w1 b S (.slice (some ⟨g, 0, none⟩) L fc) l (failD d)) := h1a
        have HF1 : Hid (Fr S w w1) := h1b
        have HLk : Hid (l[i]? = some ((n, ⟨bs, la⟩), .slice va bs.length vc)) := hlk
        have HSg : Hid (S g) := hSg
        have jb : (bs.length : Int) ≤ 140737488355328 := by have := usedL_get h1a.ok.rises (getA_of_mem h1a.ok.rises (List.mem_of_getElem? HI1.out)); have := h1a.ok.small; simp only at *; omega
        clear h1 h1a h1b hnl hSg hlk hvc hob pf
        go_wp2_with (fail)
        go_region
        go_wp2
        go_ret
        have HR1' : RkW w1 b S (.slice (some ⟨g, 0, none⟩) l.length fc) l (failD d) := by rw [← HLl.out]; exact HR1.out
        obtain ⟨q1, q2⟩ := setl_done (W' := (w1.setCell ⟨g, i * 3 + 2, none⟩ (.int .i64 (bs.length : Int))).drew) (W := w1.drew) (HR1'.keep (Nat.le_refl _) (fun _ _ => rfl)) HLk.out hn (la' := bs.length) (Nat.le_refl _) rfl
        rw [set_putA HR1'.ok.rises HI1.out] at q1
        exact ⟨rfl, RidS.mk1 q1 (HF1.out.tr ((Fr.refl S w1).drew.tr q2))⟩

end Go.Proofs.Ytmkgaegodemglaa
