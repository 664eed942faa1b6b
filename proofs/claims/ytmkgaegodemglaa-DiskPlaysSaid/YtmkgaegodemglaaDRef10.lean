/- The document's disk: Rename; walked. -/
import Derived.Test.YtmkgaegodemglaaDRef8
set_option linter.unusedVariables false
namespace Go.Proofs.Ytmkgaegodemglaa
open Go.RowKit

/-- The row of files is another one, laid anew. -/
theorem RkW.newrow2 {W w2 : World} {b : Nat} {S : Nat → Prop} {fs v : Value} {l l' : FV} {d d' : Dk} (h : RkW W b S fs l d) (hb : Below W.heap.size W w2) (hr : OwnF w2 W.heap.size v l') (hf : l'.map (·.1) = d'.files)
    (hd : d' = { d with files := d'.files }) (hok : DkOk d') (hn : ∀ p ∈ d'.files, p.1.length ≤ 140737488355328) (hq : ∀ q ∈ l', OwnB W 0 q.2 q.1.2.bs ∧ ∀ g, q.2.ownBlock = some g → S g) :
    RkW (w2.setCell ⟨b, 1, none⟩ v) b (fun k => S k ∨ v.ownBlock = some k) v l' d' ∧ Fr S W (w2.setCell ⟨b, 1, none⟩ v) ∧ ∀ k, (S k ∨ v.ownBlock = some k) → S k ∨ W.heap.size ≤ k := by
  have hv : ∀ g, v.ownBlock = some g → W.heap.size ≤ g ∧ g < w2.heap.size := fun g hg => by
    rcases hr.2 with ⟨rfl, _⟩ | ⟨g', cap, cur, rfl, hB, hgg, _⟩
    · cases hg
    · simp [Value.ownBlock] at hg
      subst hg
      exact ⟨hB, lt_blk hgg⟩
  have hbl := h.lt b h.sb
  have hz := hb.size
  refine ⟨?_, ?_, ?_⟩
  · refine { blk := ?_, row := ?_, files := hf, bytes := ?_, sb := .inl h.sb, sf := fun g hg => .inr hg, sr := fun q hq' g hg => .inl ((hq q hq').2 g hg), lt := ?_, ok := hok, names := hn }
    · rw [hd]
      exact set_blk ((hb.block b hbl).trans h.blk) 1 v
    · have h0 : w2.ownsRow 0 71 3 v l'.length (rkCells l') := by
        refine ⟨hr.1, ?_⟩
        rcases hr.2 with hn' | ⟨g, cap, cur, hv', hB, r⟩
        · exact .inl hn'
        · exact .inr ⟨g, cap, cur, hv', Nat.zero_le _, r⟩
      exact row_keep h0 (fun g hg => set_other _ (by have := (hv g hg).1; omega))
    · intro q hq'
      refine ownB_keep (hq q hq').1 (fun g hg => ?_)
      obtain ⟨cur, hc⟩ := ownB_block (hq q hq').1 hg
      have hgb : g ≠ b := by
        intro e
        subst e
        rw [h.blk] at hc
        simp at hc
      rw [set_other _ hgb]
      exact hb.block g (lt_blk hc)
    · intro k hk
      rw [set_size]
      rcases hk with hk | hk
      · exact Nat.lt_of_lt_of_le (h.lt k hk) hz
      · exact (hv k hk).2
  · exact (Fr.of_below S hb).set h.sb _
  · intro k hk
    rcases hk with hk | hk
    · exact .inl hk
    · exact .inr (hv k hk).1


theorem failD_ok {d : Dk} (h : DkOk d) (h0 : d.ahead ≠ 0) : DkOk (failD d) := by
  unfold failD doneD
  rw [if_neg h0]
  split
  · exact { h with ahead := by have := h.ahead; show (-1 : Int) ≤ d.ahead - 1 ∧ d.ahead - 1 ≤ _; omega }
  · exact h
theorem put_del {n : Nm} {f : Fl} {l : Fls} (h : Rises l) {i : Nat} (hi : l[i]? = some (n, f)) : putA n f (delA n l) = l := by
  have e : putA n f (delA n l) = putA n f l := by
    unfold putA
    have : delA n (delA n l) = delA n l := delA_none (fun p hp => (mem_delA.1 hp).2)
    rw [this]
  rw [e, ← set_putA h hi]
  obtain ⟨hl, he⟩ := List.getElem?_eq_some_iff.1 hi
  rw [← he]; exact List.set_getElem_self hl
theorem putok_move {d : Dk} (h : DkOk d) {n to : Nm} (hto : to.length ≤ 140737488355328) {bs : List UInt8} {la i : Nat} (hi : d.files[i]? = some (n, ⟨bs, la⟩)) : PutOk { d with files := delA n d.files } to bs la := by
  have hg : getA n d.files = some ⟨bs, la⟩ := getA_of_mem h.rises (List.mem_of_getElem? hi)
  have hd := usedL_del n d.files h.rises
  rw [hg] at hd
  simp only [Option.getD_some] at hd
  have hp := usedL_put to ⟨bs, la⟩ (delA n d.files) (rises_delA h.rises)
  simp only at hp
  have hl := putA_length to (⟨bs, la⟩ : Fl) (delA n d.files)
  have he := eraseA h.rises hi
  have hil := (List.getElem?_eq_some_iff.1 hi).1
  have hdl : (delA n d.files).length + 1 = d.files.length := by rw [he, List.length_append, List.length_take, List.length_drop]; omega
  have := h.fits
  have := h.small
  have := h.few
  refine ⟨h.lasts _ (List.mem_of_getElem? hi), hto, ?_, ?_, ?_⟩
  · show usedL (putA to ⟨bs, la⟩ (delA n d.files)) ≤ d.room; omega
  · show (putA to (⟨bs, la⟩ : Fl) (delA n d.files)).length ≤ _; omega
  · show usedL (putA to ⟨bs, la⟩ (delA n d.files)) ≤ _; omega

set_option maxHeartbeats 4000000 in
set_option maxRecDepth 20000 in
theorem rrename_any {w : World} {b : Nat} {S : Nat → Prop} {fs : Value} {l : FV} {d : Dk} (h : RkW w b S fs l d) (n : Nm) (hn : n.length ≤ 140737488355328) (to : Nm) (hto : to.length ≤ 140737488355328) :
    Calls Try.prog 30 #[dptr b, strN n, strN to] w fun e w' => e = .returned (.int .i64 ((renameP d n to).1 : Int)) ∧ RidS w b S (renameP d n to).2 w' := by
  obtain ⟨fa, fc, rfl⟩ := h.shape
  have c2 := h.c2
  have HD : Hid (RkW w b S (.slice fa l.length fc) l d) := h
  have hF := rfind_any h n
  have hfew : l.length ≤ 1048576 := by rw [h.len]; exact h.ok.few
  have hMN := rnamed_any to hto
  unfold renameP
  cases hu : d.up with
  | false =>
    rw [hu] at c2
    rw [if_pos (by rw [findV_off hu]; decide), findV_off hu]
    generalize fidx n d.files = Z at *
    generalize mayN to = M at *
    clear h
    go_enter Try.func30, Try.ntmps30
    go_wp2_with (first | (go_at_call 47; refine hF.mono ?_; rintro e wa ⟨rfl, hw⟩; subst wa) | (go_at_call 46; refine (hMN _).mono ?_; rintro e wb ⟨rfl, hw⟩; subst wb))
    go_ret
    exact ⟨rfl, RidS.mk1 HD.out (Fr.refl S w)⟩
  | true =>
    rw [hu] at c2
    rcases fidx_cases n d.files with ⟨hz, hg⟩ | ⟨i, f, hz, hi, hg⟩
    · rw [hz] at hF
      rw [if_pos (by rw [findV_none hu hg]; decide), findV_none hu hg]
      clear h hz hg
      generalize mayN to = M at *
      go_enter Try.func30, Try.ntmps30
      go_wp2_with (first | (go_at_call 47; refine hF.mono ?_; rintro e wa ⟨rfl, hw⟩; subst wa) | (go_at_call 46; refine (hMN _).mono ?_; rintro e wb ⟨rfl, hw⟩; subst wb))
      go_ret
      exact ⟨rfl, RidS.mk1 HD.out (Fr.refl S w)⟩
    · rw [hz] at hF
      rw [if_neg (by rw [findV_some hu hg]; decide), theF_some hu hg]
      have HUp : Hid (d.up = true) := hu
      have HI : Hid (d.files[i]? = some (n, f)) := hi
      have n0 : ¬ (i : Int) < 0 := by omega
      have q0 : decide ((i : Int) < 0) = false := by simp
      obtain ⟨bs, la⟩ := f
      simp only
      obtain ⟨L, hL⟩ : ∃ L, L = l.length := ⟨_, rfl⟩
      have HLl : Hid (L = l.length) := hL
      rw [← hL] at HD hfew
      have hiL : i < L := by rw [hL, h.len]; exact (List.getElem?_eq_some_iff.1 hi).1
      have hiL' : (i : Int) < (L : Int) := by omega
      have jL : (L : Int) ≤ 1048576 := by omega
      clear hz hg hL hi h
      cases hm : mayN to with
      | false =>
        rw [hm] at hMN
        rw [if_pos rfl]
        go_enter Try.func30, Try.ntmps30
        go_wp2_with (first | (go_at_call 47; refine hF.mono ?_; rintro e wa ⟨rfl, hw⟩; subst wa) | (go_at_call 46; refine (hMN _).mono ?_; rintro e wb ⟨rfl, hw⟩; subst wb))
        go_ret
        exact ⟨rfl, RidS.mk1 HD.out (Fr.refl S w)⟩
      | true =>
        rw [hm] at hMN
        rw [if_neg (by decide)]
        by_cases h0 : d.ahead = 0
        · rw [if_pos h0]
          have HZ : Hid (d.ahead = 0) := h0
          clear h0
          go_enter Try.func30, Try.ntmps30
          go_wp2_with (first
            | (go_at_call 47; refine hF.mono ?_; rintro e wa ⟨rfl, hw⟩; subst wa)
            | (go_at_call 46; refine (hMN _).mono ?_; rintro e wb ⟨rfl, hw⟩; subst wb)
            | (go_at_call 49; refine (rdeed_any HD.out HUp.out).mono ?_; rintro e w1 ⟨he, h1, _⟩; rw [HZ.out] at he; have HR1 := (show Hid _ from h1 HZ.out); clear h1; subst he))
          go_ret
          exact ⟨rfl, HR1.out⟩
        · rw [if_neg h0]
          have HZ : Hid (d.ahead ≠ 0) := h0
          have HFf : Hid ((failD d).files = d.files) := failD_files h0
          have HI1 : Hid ((failD d).files[i]? = some (n, ⟨bs, la⟩)) := by rw [HFf.out]; exact HI.out
          clear h0
          have HPok : Hid (PutOk { failD d with files := delA n (failD d).files } to bs la) := putok_move (show DkOk (failD d) from failD_ok HD.out.ok HZ.out) hto HI1.out
          by_cases hnt : n = to
          · have hbe : (n == to) = true := by simpa using hnt
            have HE : Hid ({ failD d with files := putA to ⟨bs, la⟩ (delA n (failD d).files) } = failD d) := by show _ = _; rw [← hnt, put_del (show Rises (failD d).files from by rw [HFf.out]; exact HD.out.ok.rises) HI1.out]
            rw [HE.out]
            clear hnt HPok
            go_enter Try.func30, Try.ntmps30
            go_wp2_with (first
              | (go_at_call 47; refine hF.mono ?_; rintro e wa ⟨rfl, hw⟩; subst wa)
              | (go_at_call 46; refine (hMN _).mono ?_; rintro e wb ⟨rfl, hw⟩; subst wb)
              | (go_at_call 49; refine (rdeed_any HD.out HUp.out).mono ?_; rintro e w1 ⟨he, _, h1⟩; rw [if_neg HZ.out] at he; subst he; obtain ⟨h1a, h1b⟩ := h1 HZ.out; have HR1 : Hid (RkW w1 b S (.slice fa L fc) l (failD d)) := h1a; have HF1 : Hid (Fr S w w1) := h1b; clear h1 h1a h1b))
            go_ret
            exact ⟨rfl, RidS.mk1 HR1.out HF1.out⟩
          · have hbe : (n == to) = false := by simpa using hnt
            clear hnt
            go_enter Try.func30, Try.ntmps30
            go_wp2_with (first
              | (go_at_call 47; refine hF.mono ?_; rintro e wa ⟨rfl, hw⟩; subst wa)
              | (go_at_call 46; refine (hMN _).mono ?_; rintro e wb ⟨rfl, hw⟩; subst wb)
              | (go_at_call 49; refine (rdeed_any HD.out HUp.out).mono ?_; rintro e w1 ⟨he, _, h1⟩; rw [if_neg HZ.out] at he; subst he; obtain ⟨h1a, h1b⟩ := h1 HZ.out; have HR1 : Hid (RkW w1 b S (.slice fa L fc) l (failD d)) := h1a; have HF1 : Hid (Fr S w w1) := h1b; obtain ⟨g, va, vc, hfa, hnl, hSg, hlk, hil9, hvc, hob, c1, p0, p1, p2, pf⟩ := h1a.here HI1.out; have HVS : Hid (∀ j, (Value.slice va bs.length vc).ownBlock = some j → S j) := fun j hj => h1a.sr _ (List.mem_of_getElem? hlk) j hj; have HOb1 : Hid (OwnB w1 0 (.slice va bs.length vc) bs) := hob; have c1' := h1a.c1; rw [hfa] at c1'; clear h1 h1a h1b hfa hnl hil9 hSg hlk hvc hob pf c1))
            refine nameW (fun W2 hW2 => ?_)
            have hb2 : Below w1.heap.size w1 W2 := by rw [hW2]; exact (Below.refl _ _).alloc (Nat.le_refl _) _
            obtain ⟨fb, hfb⟩ : ∃ fb, fb = w1.heap.size := ⟨_, rfl⟩
            rw [← hfb]
            have HFb2 : Hid (W2.heap[fb]? = some (.cells #[strN to, .slice va bs.length vc, .int .i64 (la : Int)] 71 (0, 0))) := by
              show _ = _
              rw [hW2, hfb]
              show (w1.heap.push _)[w1.heap.size]? = _
              exact Array.getElem?_push_size
            have HFbS : Hid (¬ S fb) := fun hs => by have := HR1.out.lt fb hs; omega
            have HR2 : Hid (RkW W2 b S (.slice fa L fc) l (failD d)) := HR1.out.below hb2
            have HF2 : Hid (Fr S w W2) := HF1.out.tr (Fr.of_below S hb2)
            have HOb2 : Hid (OwnB W2 0 (.slice va bs.length vc) bs) := own_below2 HOb1.out hb2
            clear hb2 hfb hW2 c1' p0 p1 p2
            obtain ⟨hn0, hcap, hcn, htk, hdk⟩ := RkW.frow HR2.out
            have HFk : Hid (FRow W2 fa i (l.take i)) := htk i (by omega)
            have HFd : Hid (FRow W2 (frA fa fc (i + 1)) (L - (i + 1)) (l.drop (i + 1))) := hdk (i + 1) (by omega)
            have HCn : Hid (fa = none → fc = 0) := hcn
            have s1 := slice_toF fa L fc i (by omega) hcap
            have s2 := slice_fromF fa L fc (i + 1) (by omega) hcap
            have s2' : ∀ w, (Instr.slice 56 (.slice fa L fc) (some (.int .i64 ((i : Int) + 1))) none none).run Try.prog w = .ok (.slice (frA fa fc (i + 1)) (L - (i + 1)) (fc - (i + 1))) w := s2
            have wi : IntKind.i64.wrap ((i : Int) + 1) = (i : Int) + 1 := by rw [IntKind.wrap_i64]; omega
            have HSh := (show Hid (Shaped l) from HR2.out.shaped)
            have HS1 : Hid (Shaped (l.take i)) := fun q hq => HSh.out q (List.mem_of_mem_take hq)
            have HS3 : Hid (Shaped (l.drop (i + 1))) := fun q hq => HSh.out q (List.mem_of_mem_drop hq)
            have HLn : Hid (L ≤ 1048576 ∧ i < L) := ⟨hfew, hiL⟩
            have HC1 : Hid (∀ w', Below W2.heap.size W2 w' → w'.cell? ⟨b, 1, none⟩ = some (.slice fa L fc)) := fun w' hw' => (HR2.out.below hw').c1
            have HC1c := HC1.out
            have HFz : Hid (∀ w', Below W2.heap.size W2 w' → w'.frozen? ⟨b, 1, none⟩ = false) := fun w' hw' => (HR2.out.below hw').fz 1
            have HQs : Hid (∀ q ∈ l.take i ++ l.drop (i + 1), OwnB W2 0 q.2 q.1.2.bs ∧ ∀ g, q.2.ownBlock = some g → S g) := by
              intro q hq
              rcases List.mem_append.1 hq with hq | hq
              · exact ⟨HR2.out.bytes q (List.mem_of_mem_take hq), HR2.out.sr q (List.mem_of_mem_take hq)⟩
              · exact ⟨HR2.out.bytes q (List.mem_of_mem_drop hq), HR2.out.sr q (List.mem_of_mem_drop hq)⟩
            have HMap : Hid (List.map (·.1) (l.take i ++ l.drop (i + 1)) = delA n (failD d).files) := by
              show _ = _
              rw [eraseA HR2.out.ok.rises HI1.out, List.map_append, List.map_take, List.map_drop, HR2.out.files]
            have hifc : i ≤ fc := by omega
            clear hn0 hcap hcn htk hdk s2
            refine regionC (fun w' => Below W2.heap.size W2 w') 19 (by kernel_rfl) ?_
            (try (change wpAnyC _ _ _ _ _ _ _ _ _ (World.drew _)))
            refine nameC (fun W0 hW0 => ?_)
            have hC : Hid (Below W2.heap.size W2 W0) := by show Below _ _ _; rw [hW0]; exact ⟨rfl, rfl, rfl, Nat.le_refl _, fun _ _ => rfl⟩
            clear hW0
            refine takeC (i := 0) (v := ?_) rfl (by kernel_rfl) (by kernel_rfl) (by kernel_rfl) (by kernel_rfl) (by kernel_rfl) (fun _ _ _ h => h) hC.out (Or.inl ⟨by rfl, ?_⟩) ?_
            rotate_left 1
            · intro w' hw'
              skip
              go_simp
              first | done | with_reducible rfl
            (try simp only [Act.put])
            (try simp only [List.setIfInBounds_toArray])
            (try simp only [List.set_cons_succ])
            (try simp only [List.set_cons_zero])
            refine takeC (i := 2) (v := ?_) rfl (by kernel_rfl) (by kernel_rfl) (by kernel_rfl) (by kernel_rfl) (by kernel_rfl) (fun _ _ _ h => h) hC.out (Or.inl ⟨by rfl, ?_⟩) ?_
            rotate_left 1
            · intro w' hw'
              skip
              go_simp
              first | done | with_reducible rfl
            (try simp only [Act.put])
            (try simp only [List.setIfInBounds_toArray])
            (try simp only [List.set_cons_succ])
            (try simp only [List.set_cons_zero])
            refine takeC (i := 3) (v := ?_) rfl (by kernel_rfl) (by kernel_rfl) (by kernel_rfl) (by kernel_rfl) (by kernel_rfl) (fun _ _ _ h => h) hC.out (Or.inl ⟨by rfl, ?_⟩) ?_
            rotate_left 1
            · intro w' hw'
              skip
              go_simp
              first | done | with_reducible rfl
            (try simp only [Act.put])
            (try simp only [List.setIfInBounds_toArray])
            (try simp only [List.set_cons_succ])
            (try simp only [List.set_cons_zero])
            refine takeC (i := 4) (v := ?_) rfl (by kernel_rfl) (by kernel_rfl) (by kernel_rfl) (by kernel_rfl) (by kernel_rfl) (fun _ _ _ h => h) hC.out (Or.inl ⟨by rfl, ?_⟩) ?_
            rotate_left 1
            · intro w' hw'
              skip
              go_simp
              first | done | with_reducible rfl
            (try simp only [Act.put])
            (try simp only [List.setIfInBounds_toArray])
            (try simp only [List.set_cons_succ])
            (try simp only [List.set_cons_zero])
            refine takeC (i := 5) (v := ?_) rfl (by kernel_rfl) (by kernel_rfl) (by kernel_rfl) (by kernel_rfl) (by kernel_rfl) (fun _ _ _ h => h) hC.out (Or.inl ⟨by rfl, ?_⟩) ?_
            rotate_left 1
            · intro w' hw'
              have z0 := HC1c w' hw'
              go_simp
              first | done | with_reducible rfl
            (try simp only [Act.put])
            (try simp only [List.setIfInBounds_toArray])
            (try simp only [List.set_cons_succ])
            (try simp only [List.set_cons_zero])
            refine takeC (i := 6) (v := ?_) rfl (by kernel_rfl) (by kernel_rfl) (by kernel_rfl) (by kernel_rfl) (by kernel_rfl) (fun _ _ _ h => h) hC.out (Or.inl ⟨by rfl, ?_⟩) ?_
            rotate_left 1
            · intro w' hw'
              skip
              go_simp
              first | done | with_reducible rfl
            (try simp only [Act.put])
            (try simp only [List.setIfInBounds_toArray])
            (try simp only [List.set_cons_succ])
            (try simp only [List.set_cons_zero])
            refine takeC (i := 7) (v := ?_) rfl (by kernel_rfl) (by kernel_rfl) (by kernel_rfl) (by kernel_rfl) (by kernel_rfl) (fun _ _ _ h => h) hC.out (Or.inl ⟨by rfl, ?_⟩) ?_
            rotate_left 1
            · intro w' hw'
              skip
              go_simp
              first | done | with_reducible rfl
            (try simp only [Act.put])
            (try simp only [List.setIfInBounds_toArray])
            (try simp only [List.set_cons_succ])
            (try simp only [List.set_cons_zero])
            refine takeC (i := 9) (v := ?_) rfl (by kernel_rfl) (by kernel_rfl) (by kernel_rfl) (by kernel_rfl) (by kernel_rfl) (fun _ _ _ h => h) hC.out (Or.inl ⟨by rfl, ?_⟩) ?_
            rotate_left 1
            · intro w' hw'
              skip
              go_simp
              first | done | with_reducible rfl
            (try simp only [Act.put])
            (try simp only [List.setIfInBounds_toArray])
            (try simp only [List.set_cons_succ])
            (try simp only [List.set_cons_zero])
            refine takeC (i := 10) (v := ?_) rfl (by kernel_rfl) (by kernel_rfl) (by kernel_rfl) (by kernel_rfl) (by kernel_rfl) (fun _ _ _ h => h) hC.out (Or.inl ⟨by rfl, ?_⟩) ?_
            rotate_left 1
            · intro w' hw'
              skip
              go_simp
              first | done | with_reducible rfl
            (try simp only [Act.put])
            (try simp only [List.setIfInBounds_toArray])
            (try simp only [List.set_cons_succ])
            (try simp only [List.set_cons_zero])
            refine takeC (i := 11) (v := ?_) rfl (by kernel_rfl) (by kernel_rfl) (by kernel_rfl) (by kernel_rfl) (by kernel_rfl) (fun _ _ _ h => h) hC.out (Or.inl ⟨by rfl, ?_⟩) ?_
            rotate_left 1
            · intro w' hw'
              skip
              go_simp
              first | done | with_reducible rfl
            (try simp only [Act.put])
            (try simp only [List.setIfInBounds_toArray])
            (try simp only [List.set_cons_succ])
            (try simp only [List.set_cons_zero])
            refine takeC (i := 12) (v := ?_) rfl (by kernel_rfl) (by kernel_rfl) (by kernel_rfl) (by kernel_rfl) (by kernel_rfl) (fun _ _ _ h => h) hC.out (Or.inl ⟨by rfl, ?_⟩) ?_
            rotate_left 1
            · intro w' hw'
              have z0 := HC1c w' hw'
              go_simp
              first | done | with_reducible rfl
            (try simp only [Act.put])
            (try simp only [List.setIfInBounds_toArray])
            (try simp only [List.set_cons_succ])
            (try simp only [List.set_cons_zero])
            refine takeC (i := 13) (v := ?_) rfl (by kernel_rfl) (by kernel_rfl) (by kernel_rfl) (by kernel_rfl) (by kernel_rfl) (fun _ _ _ h => h) hC.out (Or.inl ⟨by rfl, ?_⟩) ?_
            rotate_left 1
            · intro w' hw'
              skip
              go_simp
              first | done | with_reducible rfl
            (try simp only [Act.put])
            (try simp only [List.setIfInBounds_toArray])
            (try simp only [List.set_cons_succ])
            (try simp only [List.set_cons_zero])
            refine takeC (i := 14) (v := ?_) rfl (by kernel_rfl) (by kernel_rfl) (by kernel_rfl) (by kernel_rfl) (by kernel_rfl) (fun _ _ _ h => h) hC.out (Or.inl ⟨by rfl, ?_⟩) ?_
            rotate_left 1
            · intro w' hw'
              skip
              go_simp
              first | done | with_reducible rfl
            (try simp only [Act.put])
            (try simp only [List.setIfInBounds_toArray])
            (try simp only [List.set_cons_succ])
            (try simp only [List.set_cons_zero])
            refine takeC (i := 15) (v := ?_) rfl (by kernel_rfl) (by kernel_rfl) (by kernel_rfl) (by kernel_rfl) (by kernel_rfl) (fun _ _ _ h => h) hC.out (Or.inl ⟨by rfl, ?_⟩) ?_
            rotate_left 1
            · intro w' hw'
              skip
              go_simp
              first | done | with_reducible rfl
            (try simp only [Act.put])
            (try simp only [List.setIfInBounds_toArray])
            (try simp only [List.set_cons_succ])
            (try simp only [List.set_cons_zero])
            refine readyC (rs := [1]) (by kernel_rfl) (by simp) ?_
            refine ReadyC.cons rfl (fun K hK => ?_) ReadyC.nil
            go_simp
            refine hK _ _ (fun _ => hC.out.alloc hC.out.size _) ?_
            clear hK K
            (try simp only [Act.put])
            (try simp only [List.setIfInBounds_toArray])
            (try simp only [List.set_cons_succ])
            (try simp only [List.set_cons_zero])
            refine nameC (fun Wx1 hW => ?_)
            have hx : Below W0.heap.size W0 Wx1 := by rw [hW]; exact (Below.refl _ _).alloc (Nat.le_refl _) _
            have hO : Hid (OwnF Wx1 W2.heap.size (.slice (some ⟨W0.heap.size, 0, none⟩) 0 0) []) := by show OwnF _ _ _ _; rw [hW]; exact made_files _ _ hC.out.size
            replace hC : Hid (Below W2.heap.size W2 Wx1) := hC.out.trans (hx.mono hC.out.size)
            clear hx hW
            refine readyC (rs := [8]) (by kernel_rfl) (by simp) ?_
            refine ReadyC.cons rfl (fun K hK => ?_) ReadyC.nil
            refine stepC_runs rfl (.tmp 47) (.tmp 53) rfl _ _ rfl rfl _ (app_files hO.out (HFk.out.below hC.out) HS1.out (by have := HLn.out; show 0 + i ≤ _; omega) hC.out.size HCn.out _) ?_
            intro v8 Wx2 hA
            obtain ⟨hA1, hA2, hA3, a8, m8, c8, hv, hm⟩ := hA
            subst hv
            refine hK _ _ (fun _ => hC.out.trans hA2) ?_
            clear hK K
            (try simp only [Act.put])
            (try simp only [List.setIfInBounds_toArray])
            (try simp only [List.set_cons_succ])
            (try simp only [List.set_cons_zero])
            rw [List.nil_append] at hA1
            replace hO : Hid (OwnF Wx2 W2.heap.size (.slice a8 m8 c8) (l.take i)) := hA1
            replace hC : Hid (Below W2.heap.size W2 Wx2) := hC.out.trans hA2
            clear hA1 hA2 hA3 hm
            refine readyC (rs := [16]) (by kernel_rfl) (by simp) ?_
            refine ReadyC.cons rfl (fun K hK => ?_) ReadyC.nil
            refine stepC_runs rfl (.tmp 54) (.tmp 61) rfl _ _ rfl rfl _ (app_files hO.out (HFd.out.below hC.out) HS3.out (by have := HLn.out; rw [List.length_take]; omega) hC.out.size (frA_none HCn.out) _) ?_
            intro v16 Wx3 hA
            obtain ⟨hA1, hA2, hA3, a16, m16, c16, hv, hm⟩ := hA
            subst hv
            refine hK _ _ (fun _ => hC.out.trans hA2) ?_
            clear hK K
            (try simp only [Act.put])
            (try simp only [List.setIfInBounds_toArray])
            (try simp only [List.set_cons_succ])
            (try simp only [List.set_cons_zero])
            replace hO : Hid (OwnF Wx3 W2.heap.size (.slice a16 m16 c16) (l.take i ++ l.drop (i + 1))) := hA1
            replace hC : Hid (Below W2.heap.size W2 Wx3) := hC.out.trans hA2
            clear hA1 hA2 hA3 hm
            refine takeC (i := 17) (v := ?_) rfl (by kernel_rfl) (by kernel_rfl) (by kernel_rfl) (by kernel_rfl) (by kernel_rfl) (fun _ _ _ h => h) hC.out (Or.inl ⟨by rfl, ?_⟩) ?_
            rotate_left 1
            · intro w' hw'
              skip
              go_simp
              first | done | with_reducible rfl
            (try simp only [Act.put])
            (try simp only [List.setIfInBounds_toArray])
            (try simp only [List.set_cons_succ])
            (try simp only [List.set_cons_zero])
            refine takeC (i := 18) (v := ?_) rfl (by kernel_rfl) (by kernel_rfl) (by kernel_rfl) (by kernel_rfl) (by kernel_rfl) (fun _ _ _ h => h) hC.out (Or.inl ⟨by rfl, ?_⟩) ?_
            rotate_left 1
            · intro w' hw'
              skip
              go_simp
              first | done | with_reducible rfl
            (try simp only [Act.put])
            (try simp only [List.setIfInBounds_toArray])
            (try simp only [List.set_cons_succ])
            (try simp only [List.set_cons_zero])
            refine readyC (rs := [19]) (by kernel_rfl) (by simp) ?_
            refine ReadyC.cons rfl (fun K hK => ?_) ReadyC.nil
            have z1 := HC1.out Wx3 hC.out
            have z2 := HFz.out Wx3 hC.out
            go_simp
            refine hK _ _ (fun h => absurd rfl h) ?_
            clear hK K
            (try simp only [Act.put])
            (try simp only [List.setIfInBounds_toArray])
            (try simp only [List.set_cons_succ])
            (try simp only [List.set_cons_zero])
            refine doneC (by kernel_rfl) ?_ _
            clear HC1c
            obtain ⟨hq1, hq2, hq3⟩ := RkW.newrow2 (d' := { failD d with files := delA n (failD d).files }) HR2.out hC.out hO.out HMap.out rfl (okDel HR2.out.ok n) (fun p hp => HR2.out.names p (mem_delA.1 hp).1) HQs.out
            obtain ⟨W3, hW3⟩ : ∃ W3, W3 = Wx3.setCell ⟨b, 1, none⟩ (.slice a16 m16 c16) := ⟨_, rfl⟩
            rw [← hW3] at hq1 hq2
            have hob3 : OwnB W3 0 (.slice va bs.length vc) bs := by
              have q := own_below2 HOb2.out hC.out
              rw [hW3]
              refine ownB_keep q (fun j hj => set_other _ ?_)
              intro e
              obtain ⟨cx, hx⟩ := ownB_block q hj
              have hbb := (HR2.out.below hC.out).blk
              rw [e] at hx
              rw [hbb] at hx
              simp at hx
            have hfb3 : W3.heap[fb]? = some (.cells #[strN to, .slice va bs.length vc, .int .i64 (la : Int)] 71 (0, 0)) := (hq2.block fb (lt_blk HFb2.out) HFbS.out).trans HFb2.out
            have y0 : W3.cell? ⟨fb, 0, none⟩ = some (strN to) := cell_blk hfb3 rfl
            have y1 : W3.cell? ⟨fb, 1, none⟩ = some (.slice va bs.length vc) := cell_blk hfb3 rfl
            have y2 : W3.cell? ⟨fb, 2, none⟩ = some (.int .i64 (la : Int)) := cell_blk hfb3 rfl
            have HR3 : Hid (RkW W3 b (fun k => S k ∨ (Value.slice a16 m16 c16).ownBlock = some k) (.slice a16 m16 c16) (l.take i ++ l.drop (i + 1)) { failD d with files := delA n (failD d).files }) := hq1
            have HF3 : Hid (Fr S w W3) := HF2.out.tr hq2
            have HS3b : Hid (∀ k, (S k ∨ (Value.slice a16 m16 c16).ownBlock = some k) → S k ∨ w.heap.size ≤ k) := fun k hk => by
              rcases hq3 k hk with q | q
              · exact .inl q
              · exact .inr (Nat.le_trans HF2.out.size q)
            have HOb3 : Hid (OwnB W3 0 (.slice va bs.length vc) bs) := hob3
            rw [← hW3]
            clear hq1 hq2 hq3 hob3 hfb3 hW3 hO hC HC1 HFz HMap HQs HFk HFd
            go_wp2_with (fail)
            refine (rput_any HR3.out to va vc bs la HOb3.out (fun g hg => .inl (HVS.out g hg)) HPok.out).mono ?_
            rintro e w4 ⟨rfl, hR4⟩
            have HR4 := (show Hid _ from RidS.trans HF3.out HS3b.out hR4)
            clear hR4
            go_wp2_with (fail)
            go_ret
            exact ⟨rfl, HR4.out⟩

end Go.Proofs.Ytmkgaegodemglaa
