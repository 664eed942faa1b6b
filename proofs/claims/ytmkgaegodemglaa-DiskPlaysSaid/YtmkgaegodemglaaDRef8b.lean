/- The document's disk: Remove; walked. -/
import Derived.Test.YtmkgaegodemglaaDRef8
set_option linter.unusedVariables false
namespace Go.Proofs.Ytmkgaegodemglaa
open Go.RowKit

set_option maxHeartbeats 4000000 in
set_option maxRecDepth 20000 in
theorem rremove_any {w : World} {b : Nat} {S : Nat → Prop} {fs : Value} {l : FV} {d : Dk} (h : RkW w b S fs l d) (n : Nm) (hn : n.length ≤ 140737488355328) :
    Calls Try.prog 31 #[dptr b, strN n] w fun e w' => e = .returned (.int .i64 ((removeP d n).1 : Int)) ∧ RidS w b S (removeP d n).2 w' := by
  obtain ⟨fa, fc, rfl⟩ := h.shape
  have c2 := h.c2
  have HD : Hid (RkW w b S (.slice fa l.length fc) l d) := h
  have hF := rfind_any h n
  have hfew : l.length ≤ 1048576 := by rw [h.len]; exact h.ok.few
  unfold removeP
  cases hu : d.up with
  | false =>
    rw [hu] at c2
    rw [if_pos (by rw [findV_off hu]; decide), findV_off hu]
    generalize fidx n d.files = Z at *
    clear h
    go_enter Try.func31, Try.ntmps31
    go_wp2_with (go_at_call 47; refine hF.mono ?_; rintro e wa ⟨rfl, hw⟩; subst wa)
    go_ret
    exact ⟨rfl, RidS.mk1 HD.out (Fr.refl S w)⟩
  | true =>
    rw [hu] at c2
    rcases fidx_cases n d.files with ⟨hz, hg⟩ | ⟨i, f, hz, hi, hg⟩
    · rw [hz] at hF
      rw [if_pos (by rw [findV_none hu hg]; decide), findV_none hu hg]
      clear h hz hg
      go_enter Try.func31, Try.ntmps31
      go_wp2_with (go_at_call 47; refine hF.mono ?_; rintro e wa ⟨rfl, hw⟩; subst wa)
      go_ret
      exact ⟨rfl, RidS.mk1 HD.out (Fr.refl S w)⟩
    · rw [hz] at hF
      rw [if_neg (by rw [findV_some hu hg]; decide)]
      have HUp : Hid (d.up = true) := hu
      have HI : Hid (d.files[i]? = some (n, f)) := hi
      have n0 : ¬ (i : Int) < 0 := by omega
      have q0 : decide ((i : Int) < 0) = false := by simp
      obtain ⟨bs, la⟩ := f
      simp only
      obtain ⟨L, hL⟩ : ∃ L, L = l.length := ⟨_, rfl⟩
      have HLl : Hid (L = l.length) := hL
      rw [← hL] at HD hfew
      have hiL : i < L := by rw [hL, h.len]; exact (List.getElem?_eq_some_iff.1 hi).1
      have hiL' : (i : Int) < (L : Int) := by omega
      have jL : (L : Int) ≤ 1048576 := by omega
      clear hz hg hL hi h
      by_cases h0 : d.ahead = 0
      · rw [if_pos h0]
        have HZ : Hid (d.ahead = 0) := h0
        clear h0
        go_enter Try.func31, Try.ntmps31
        go_wp2_with (first
          | (go_at_call 47; refine hF.mono ?_; rintro e wa ⟨rfl, hw⟩; subst wa)
          | (go_at_call 49; refine (rdeed_any HD.out HUp.out).mono ?_; rintro e w1 ⟨he, h1, _⟩; rw [HZ.out] at he; have HR1 := (show Hid _ from h1 HZ.out); clear h1; subst he))
        go_ret
        exact ⟨rfl, HR1.out⟩
      · rw [if_neg h0]
        have HZ : Hid (d.ahead ≠ 0) := h0
        have HFf : Hid ((failD d).files = d.files) := failD_files h0
        have HI1 : Hid ((failD d).files[i]? = some (n, ⟨bs, la⟩)) := by rw [HFf.out]; exact HI.out
        clear h0
        go_enter Try.func31, Try.ntmps31
        go_wp2_with (first
          | (go_at_call 47; refine hF.mono ?_; rintro e wa ⟨rfl, hw⟩; subst wa)
          | (go_at_call 49; refine (rdeed_any HD.out HUp.out).mono ?_; rintro e w1 ⟨he, _, h1⟩; rw [if_neg HZ.out] at he; subst he; obtain ⟨h1a, h1b⟩ := h1 HZ.out; have HR1 : Hid (RkW w1 b S (.slice fa L fc) l (failD d)) := h1a; have HF1 : Hid (Fr S w w1) := h1b; clear h1 h1a h1b))
        obtain ⟨hn0, hcap, hcn, htk, hdk⟩ := RkW.frow HR1.out
        have HFk : Hid (FRow w1 fa i (l.take i)) := htk i (by omega)
        have HFd : Hid (FRow w1 (frA fa fc (i + 1)) (L - (i + 1)) (l.drop (i + 1))) := hdk (i + 1) (by omega)
        have HCn : Hid (fa = none → fc = 0) := hcn
        have s1 := slice_toF fa L fc i (by omega) hcap
        have s2 := slice_fromF fa L fc (i + 1) (by omega) hcap
        have s2' : ∀ w, (Instr.slice 56 (.slice fa L fc) (some (.int .i64 ((i : Int) + 1))) none none).run Try.prog w = .ok (.slice (frA fa fc (i + 1)) (L - (i + 1)) (fc - (i + 1))) w := s2
        have wi : IntKind.i64.wrap ((i : Int) + 1) = (i : Int) + 1 := by rw [IntKind.wrap_i64]; omega
        have HSh := (show Hid (Shaped l) from HR1.out.shaped)
        have HS1 : Hid (Shaped (l.take i)) := fun q hq => HSh.out q (List.mem_of_mem_take hq)
        have HS3 : Hid (Shaped (l.drop (i + 1))) := fun q hq => HSh.out q (List.mem_of_mem_drop hq)
        have HLn : Hid (L ≤ 1048576 ∧ i < L) := ⟨hfew, hiL⟩
        have HC1 : Hid (∀ w', Below w1.heap.size w1 w' → w'.cell? ⟨b, 1, none⟩ = some (.slice fa L fc)) := fun w' hw' => (HR1.out.below hw').c1
        have HC1c := HC1.out
        have HFz : Hid (∀ w', Below w1.heap.size w1 w' → w'.frozen? ⟨b, 1, none⟩ = false) := fun w' hw' => (HR1.out.below hw').fz 1
        have HQs : Hid (∀ q ∈ l.take i ++ l.drop (i + 1), OwnB w1 0 q.2 q.1.2.bs ∧ ∀ g, q.2.ownBlock = some g → S g) := by
          intro q hq
          rcases List.mem_append.1 hq with hq | hq
          · exact ⟨HR1.out.bytes q (List.mem_of_mem_take hq), HR1.out.sr q (List.mem_of_mem_take hq)⟩
          · exact ⟨HR1.out.bytes q (List.mem_of_mem_drop hq), HR1.out.sr q (List.mem_of_mem_drop hq)⟩
        have HMap : Hid (List.map (·.1) (l.take i ++ l.drop (i + 1)) = delA n (failD d).files) := by
          show _ = _
          rw [eraseA HR1.out.ok.rises HI1.out, List.map_append, List.map_take, List.map_drop, HR1.out.files]
        clear hn0 hcap hcn htk hdk s2
        refine regionC (fun w' => Below w1.heap.size w1 w') 19 (by kernel_rfl) ?_
        (try (change wpAnyC _ _ _ _ _ _ _ _ _ (World.drew _)))
        refine nameC (fun W0 hW0 => ?_)
        have hC : Hid (Below w1.heap.size w1 W0) := by show Below _ _ _; rw [hW0]; exact ⟨rfl, rfl, rfl, Nat.le_refl _, fun _ _ => rfl⟩
        clear hW0
        refine takeC (i := 0) (v := ?_) rfl (by kernel_rfl) (by kernel_rfl) (by kernel_rfl) (by kernel_rfl) (by kernel_rfl) (fun _ _ _ h => h) hC.out (Or.inl ⟨by rfl, ?_⟩) ?_
        rotate_left 1
        · intro w' hw'
          skip
          go_simp
          first | done | with_reducible rfl
        (try simp only [Act.put])
        (try simp only [List.setIfInBounds_toArray])
        (try simp only [List.set_cons_succ])
        (try simp only [List.set_cons_zero])
        refine takeC (i := 2) (v := ?_) rfl (by kernel_rfl) (by kernel_rfl) (by kernel_rfl) (by kernel_rfl) (by kernel_rfl) (fun _ _ _ h => h) hC.out (Or.inl ⟨by rfl, ?_⟩) ?_
        rotate_left 1
        · intro w' hw'
          skip
          go_simp
          first | done | with_reducible rfl
        (try simp only [Act.put])
        (try simp only [List.setIfInBounds_toArray])
        (try simp only [List.set_cons_succ])
        (try simp only [List.set_cons_zero])
        refine takeC (i := 3) (v := ?_) rfl (by kernel_rfl) (by kernel_rfl) (by kernel_rfl) (by kernel_rfl) (by kernel_rfl) (fun _ _ _ h => h) hC.out (Or.inl ⟨by rfl, ?_⟩) ?_
        rotate_left 1
        · intro w' hw'
          skip
          go_simp
          first | done | with_reducible rfl
        (try simp only [Act.put])
        (try simp only [List.setIfInBounds_toArray])
        (try simp only [List.set_cons_succ])
        (try simp only [List.set_cons_zero])
        refine takeC (i := 4) (v := ?_) rfl (by kernel_rfl) (by kernel_rfl) (by kernel_rfl) (by kernel_rfl) (by kernel_rfl) (fun _ _ _ h => h) hC.out (Or.inl ⟨by rfl, ?_⟩) ?_
        rotate_left 1
        · intro w' hw'
          skip
          go_simp
          first | done | with_reducible rfl
        (try simp only [Act.put])
        (try simp only [List.setIfInBounds_toArray])
        (try simp only [List.set_cons_succ])
        (try simp only [List.set_cons_zero])
        refine takeC (i := 5) (v := ?_) rfl (by kernel_rfl) (by kernel_rfl) (by kernel_rfl) (by kernel_rfl) (by kernel_rfl) (fun _ _ _ h => h) hC.out (Or.inl ⟨by rfl, ?_⟩) ?_
        rotate_left 1
        · intro w' hw'
          have z0 := HC1c w' hw'
          go_simp
          first | done | with_reducible rfl
        (try simp only [Act.put])
        (try simp only [List.setIfInBounds_toArray])
        (try simp only [List.set_cons_succ])
        (try simp only [List.set_cons_zero])
        refine takeC (i := 6) (v := ?_) rfl (by kernel_rfl) (by kernel_rfl) (by kernel_rfl) (by kernel_rfl) (by kernel_rfl) (fun _ _ _ h => h) hC.out (Or.inl ⟨by rfl, ?_⟩) ?_
        rotate_left 1
        · intro w' hw'
          skip
          go_simp
          first | done | with_reducible rfl
        (try simp only [Act.put])
        (try simp only [List.setIfInBounds_toArray])
        (try simp only [List.set_cons_succ])
        (try simp only [List.set_cons_zero])
        refine takeC (i := 7) (v := ?_) rfl (by kernel_rfl) (by kernel_rfl) (by kernel_rfl) (by kernel_rfl) (by kernel_rfl) (fun _ _ _ h => h) hC.out (Or.inl ⟨by rfl, ?_⟩) ?_
        rotate_left 1
        · intro w' hw'
          skip
          go_simp
          first | done | with_reducible rfl
        (try simp only [Act.put])
        (try simp only [List.setIfInBounds_toArray])
        (try simp only [List.set_cons_succ])
        (try simp only [List.set_cons_zero])
        refine takeC (i := 9) (v := ?_) rfl (by kernel_rfl) (by kernel_rfl) (by kernel_rfl) (by kernel_rfl) (by kernel_rfl) (fun _ _ _ h => h) hC.out (Or.inl ⟨by rfl, ?_⟩) ?_
        rotate_left 1
        · intro w' hw'
          skip
          go_simp
          first | done | with_reducible rfl
        (try simp only [Act.put])
        (try simp only [List.setIfInBounds_toArray])
        (try simp only [List.set_cons_succ])
        (try simp only [List.set_cons_zero])
        refine takeC (i := 10) (v := ?_) rfl (by kernel_rfl) (by kernel_rfl) (by kernel_rfl) (by kernel_rfl) (by kernel_rfl) (fun _ _ _ h => h) hC.out (Or.inl ⟨by rfl, ?_⟩) ?_
        rotate_left 1
        · intro w' hw'
          skip
          go_simp
          first | done | with_reducible rfl
        (try simp only [Act.put])
        (try simp only [List.setIfInBounds_toArray])
        (try simp only [List.set_cons_succ])
        (try simp only [List.set_cons_zero])
        refine takeC (i := 11) (v := ?_) rfl (by kernel_rfl) (by kernel_rfl) (by kernel_rfl) (by kernel_rfl) (by kernel_rfl) (fun _ _ _ h => h) hC.out (Or.inl ⟨by rfl, ?_⟩) ?_
        rotate_left 1
        · intro w' hw'
          skip
          go_simp
          first | done | with_reducible rfl
        (try simp only [Act.put])
        (try simp only [List.setIfInBounds_toArray])
        (try simp only [List.set_cons_succ])
        (try simp only [List.set_cons_zero])
        refine takeC (i := 12) (v := ?_) rfl (by kernel_rfl) (by kernel_rfl) (by kernel_rfl) (by kernel_rfl) (by kernel_rfl) (fun _ _ _ h => h) hC.out (Or.inl ⟨by rfl, ?_⟩) ?_
        rotate_left 1
        · intro w' hw'
          have z0 := HC1c w' hw'
          go_simp
          first | done | with_reducible rfl
        (try simp only [Act.put])
        (try simp only [List.setIfInBounds_toArray])
        (try simp only [List.set_cons_succ])
        (try simp only [List.set_cons_zero])
        refine takeC (i := 13) (v := ?_) rfl (by kernel_rfl) (by kernel_rfl) (by kernel_rfl) (by kernel_rfl) (by kernel_rfl) (fun _ _ _ h => h) hC.out (Or.inl ⟨by rfl, ?_⟩) ?_
        rotate_left 1
        · intro w' hw'
          skip
          go_simp
          first | done | with_reducible rfl
        (try simp only [Act.put])
        (try simp only [List.setIfInBounds_toArray])
        (try simp only [List.set_cons_succ])
        (try simp only [List.set_cons_zero])
        refine takeC (i := 14) (v := ?_) rfl (by kernel_rfl) (by kernel_rfl) (by kernel_rfl) (by kernel_rfl) (by kernel_rfl) (fun _ _ _ h => h) hC.out (Or.inl ⟨by rfl, ?_⟩) ?_
        rotate_left 1
        · intro w' hw'
          skip
          go_simp
          first | done | with_reducible rfl
        (try simp only [Act.put])
        (try simp only [List.setIfInBounds_toArray])
        (try simp only [List.set_cons_succ])
        (try simp only [List.set_cons_zero])
        refine takeC (i := 15) (v := ?_) rfl (by kernel_rfl) (by kernel_rfl) (by kernel_rfl) (by kernel_rfl) (by kernel_rfl) (fun _ _ _ h => h) hC.out (Or.inl ⟨by rfl, ?_⟩) ?_
        rotate_left 1
        · intro w' hw'
          skip
          go_simp
          first | done | with_reducible rfl
        (try simp only [Act.put])
        (try simp only [List.setIfInBounds_toArray])
        (try simp only [List.set_cons_succ])
        (try simp only [List.set_cons_zero])
        refine readyC (rs := [1]) (by kernel_rfl) (by simp) ?_
        refine ReadyC.cons rfl (fun K hK => ?_) ReadyC.nil
        go_simp
        refine hK _ _ (fun _ => hC.out.alloc hC.out.size _) ?_
        clear hK K
        (try simp only [Act.put])
        (try simp only [List.setIfInBounds_toArray])
        (try simp only [List.set_cons_succ])
        (try simp only [List.set_cons_zero])
        refine nameC (fun Wx1 hW => ?_)
        have hx : Below W0.heap.size W0 Wx1 := by rw [hW]; exact (Below.refl _ _).alloc (Nat.le_refl _) _
        have hO : Hid (OwnF Wx1 w1.heap.size (.slice (some ⟨W0.heap.size, 0, none⟩) 0 0) []) := by show OwnF _ _ _ _; rw [hW]; exact made_files _ _ hC.out.size
        replace hC : Hid (Below w1.heap.size w1 Wx1) := hC.out.trans (hx.mono hC.out.size)
        clear hx hW
        refine readyC (rs := [8]) (by kernel_rfl) (by simp) ?_
        refine ReadyC.cons rfl (fun K hK => ?_) ReadyC.nil
        refine stepC_runs rfl (.tmp 22) (.tmp 28) rfl _ _ rfl rfl _ (app_files hO.out (HFk.out.below hC.out) HS1.out (by have := HLn.out; show 0 + i ≤ _; omega) hC.out.size HCn.out _) ?_
        intro v8 Wx2 hA
        obtain ⟨hA1, hA2, hA3, a8, m8, c8, hv, hm⟩ := hA
        subst hv
        refine hK _ _ (fun _ => hC.out.trans hA2) ?_
        clear hK K
        (try simp only [Act.put])
        (try simp only [List.setIfInBounds_toArray])
        (try simp only [List.set_cons_succ])
        (try simp only [List.set_cons_zero])
        rw [List.nil_append] at hA1
        replace hO : Hid (OwnF Wx2 w1.heap.size (.slice a8 m8 c8) (l.take i)) := hA1
        replace hC : Hid (Below w1.heap.size w1 Wx2) := hC.out.trans hA2
        clear hA1 hA2 hA3 hm
        refine readyC (rs := [16]) (by kernel_rfl) (by simp) ?_
        refine ReadyC.cons rfl (fun K hK => ?_) ReadyC.nil
        refine stepC_runs rfl (.tmp 29) (.tmp 36) rfl _ _ rfl rfl _ (app_files hO.out (HFd.out.below hC.out) HS3.out (by have := HLn.out; rw [List.length_take]; omega) hC.out.size (frA_none HCn.out) _) ?_
        intro v16 Wx3 hA
        obtain ⟨hA1, hA2, hA3, a16, m16, c16, hv, hm⟩ := hA
        subst hv
        refine hK _ _ (fun _ => hC.out.trans hA2) ?_
        clear hK K
        (try simp only [Act.put])
        (try simp only [List.setIfInBounds_toArray])
        (try simp only [List.set_cons_succ])
        (try simp only [List.set_cons_zero])
        replace hO : Hid (OwnF Wx3 w1.heap.size (.slice a16 m16 c16) (l.take i ++ l.drop (i + 1))) := hA1
        replace hC : Hid (Below w1.heap.size w1 Wx3) := hC.out.trans hA2
        clear hA1 hA2 hA3 hm
        refine takeC (i := 17) (v := ?_) rfl (by kernel_rfl) (by kernel_rfl) (by kernel_rfl) (by kernel_rfl) (by kernel_rfl) (fun _ _ _ h => h) hC.out (Or.inl ⟨by rfl, ?_⟩) ?_
        rotate_left 1
        · intro w' hw'
          skip
          go_simp
          first | done | with_reducible rfl
        (try simp only [Act.put])
        (try simp only [List.setIfInBounds_toArray])
        (try simp only [List.set_cons_succ])
        (try simp only [List.set_cons_zero])
        refine takeC (i := 18) (v := ?_) rfl (by kernel_rfl) (by kernel_rfl) (by kernel_rfl) (by kernel_rfl) (by kernel_rfl) (fun _ _ _ h => h) hC.out (Or.inl ⟨by rfl, ?_⟩) ?_
        rotate_left 1
        · intro w' hw'
          skip
          go_simp
          first | done | with_reducible rfl
        (try simp only [Act.put])
        (try simp only [List.setIfInBounds_toArray])
        (try simp only [List.set_cons_succ])
        (try simp only [List.set_cons_zero])
        refine readyC (rs := [19]) (by kernel_rfl) (by simp) ?_
        refine ReadyC.cons rfl (fun K hK => ?_) ReadyC.nil
        have z1 := HC1.out Wx3 hC.out
        have z2 := HFz.out Wx3 hC.out
        go_simp
        refine hK _ _ (fun h => absurd rfl h) ?_
        clear hK K
        (try simp only [Act.put])
        (try simp only [List.setIfInBounds_toArray])
        (try simp only [List.set_cons_succ])
        (try simp only [List.set_cons_zero])
        refine doneC (by kernel_rfl) ?_ _
        clear HC1c
        go_wp2
        go_ret
        exact ⟨rfl, RidS.trans HF1.out (fun j hj => .inl hj) (RkW.newrow HR1.out hC.out hO.out HMap.out rfl (okDel HR1.out.ok n) (fun p hp => HR1.out.names p (mem_delA.1 hp).1) HQs.out)⟩

end Go.Proofs.Ytmkgaegodemglaa
