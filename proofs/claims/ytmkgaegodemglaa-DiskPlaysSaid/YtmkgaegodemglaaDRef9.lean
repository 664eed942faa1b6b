/- The document's disk: Cut; walked. -/
import Derived.Test.YtmkgaegodemglaaDRef8
set_option linter.unusedVariables false
namespace Go.Proofs.Ytmkgaegodemglaa
open Go.RowKit

/-- A file's bytes are others, laid anew, and how many of them last. -/
theorem setbl_done {W w2 : World} {b g k c : Nat} {S : Nat → Prop} {l : FV} {d : Dk} {n : Nm} {f : Fl} {v v' : Value} {bs' : List UInt8} {m : Nat} (h : RkW W b S (.slice (some ⟨g, 0, none⟩) l.length c) l d) (hb : Below W.heap.size W w2) (ho : OwnB w2 W.heap.size v' bs') (hl : l[k]? = some ((n, f), v)) (hn : n.length ≤ 140737488355328)
    {d' : Dk} (hd : d' = { d with files := d.files.set k (n, ⟨bs', m⟩) }) (hok : DkOk d') : RidS W b S d' ((w2.setCell ⟨g, k * 3 + 1, none⟩ v').setCell ⟨g, k * 3 + 2, none⟩ (.int .i64 (m : Int))) := by
  have hv : ∀ j, v'.ownBlock = some j → W.heap.size ≤ j ∧ j < w2.heap.size := fun j hj => by
    rcases ho.2 with ⟨rfl, _⟩ | ⟨g', cap, cur, rfl, hB, hgg, _⟩
    · cases hj
    · simp [Value.ownBlock] at hj
      subst hj
      exact ⟨hB, lt_blk hgg⟩
  have hsg : S g := h.sf g rfl
  have hgl := h.lt g hsg
  have hkl : k < l.length := (List.getElem?_eq_some_iff.1 hl).1
  refine ⟨fun j => S j ∨ v'.ownBlock = some j, _, _, RkW.inrow (w := W) (q := ((n, ⟨bs', m⟩), v')) h (by rw [set_size, set_size]; exact hb.size) (fun j hj hne => by rw [set_other _ hne, set_other _ hne]; exact hb.block j hj) ?_ hd hok hn ?_ _ (fun j hj => .inl hj) ?_ (fun j hj => .inr hj), ?_, ?_⟩
  · have hr : w2.ownsRow 0 71 3 (.slice (some ⟨g, 0, none⟩) l.length c) l.length (rkCells l) := row_keep h.row (fun j hj => hb.block j (by simp [Value.ownBlock] at hj; subst hj; exact hgl))
    have e : rkCells (l.set k ((n, ⟨bs', m⟩), v')) = ((rkCells l).set (k * 3 + 1) v').set (k * 3 + 2) (.int .i64 (m : Int)) := by
      rw [set_bytes (bs' := bs') hl, set_lasts (la' := m) (List.getElem?_set_self hkl), List.set_set]
    rw [e]
    exact ((hr.stored (k * 3 + 1) _).1.stored (k * 3 + 2) _).1
  · refine ownB_keep (ownB_lower ho) (fun j hj => ?_)
    have := (hv j hj).1
    rw [set_other _ (by omega), set_other _ (by omega)]
  · intro j hj
    rw [set_size, set_size]
    rcases hj with hj | hj
    · exact Nat.lt_of_lt_of_le (h.lt j hj) hb.size
    · exact (hv j hj).2
  · exact ((Fr.of_below S hb).set (p := ⟨g, k * 3 + 1, none⟩) hsg _).set (p := ⟨g, k * 3 + 2, none⟩) hsg _
  · intro j hj
    rcases hj with hj | hj
    · exact .inl hj
    · exact .inr (hv j hj).1

theorem cell_ne {w : World} {g i j : Nat} {u v : Value} {cur : Array Value} {t : TypeId} (hg : w.heap[g]? = some (.cells cur t (0, 0))) (h : w.cell? ⟨g, j, none⟩ = some u) (hij : i ≠ j) : (w.setCell ⟨g, i, none⟩ v).cell? ⟨g, j, none⟩ = some u := by
  refine cell_blk (set_blk hg i v) ?_
  rw [Array.getElem?_setIfInBounds_ne hij]
  simpa [World.cell?, hg] using h

set_option maxHeartbeats 4000000 in
set_option maxRecDepth 20000 in
theorem rcut_any {w : World} {b : Nat} {S : Nat → Prop} {fs : Value} {l : FV} {d : Dk} (h : RkW w b S fs l d) (n : Nm) (hn : n.length ≤ 140737488355328) (k : Int) (hk : -9223372036854775808 ≤ k ∧ k ≤ 9223372036854775807) :
    Calls Try.prog 29 #[dptr b, strN n, .int .i64 k] w fun e w' => e = .returned (.int .i64 ((cutP d n k).1 : Int)) ∧ RidS w b S (cutP d n k).2 w' := by
  obtain ⟨fa, fc, rfl⟩ := h.shape
  have c2 := h.c2
  have HD : Hid (RkW w b S (.slice fa l.length fc) l d) := h
  have hF := rfind_any h n
  have hfew : l.length ≤ 1048576 := by rw [h.len]; exact h.ok.few
  unfold cutP
  cases hu : d.up with
  | false =>
    rw [hu] at c2
    rw [if_pos (by rw [findV_off hu]; decide), findV_off hu]
    generalize fidx n d.files = Z at *
    clear h
    go_enter Try.func29, Try.ntmps29
    go_wp2_with (go_at_call 47; refine hF.mono ?_; rintro e wa ⟨rfl, hw⟩; subst wa)
    go_ret
    exact ⟨rfl, RidS.mk1 HD.out (Fr.refl S w)⟩
  | true =>
    rw [hu] at c2
    rcases fidx_cases n d.files with ⟨hz, hg⟩ | ⟨i, f, hz, hi, hg⟩
    · rw [hz] at hF
      rw [if_pos (by rw [findV_none hu hg]; decide), findV_none hu hg]
      clear h hz hg
      go_enter Try.func29, Try.ntmps29
      go_wp2_with (go_at_call 47; refine hF.mono ?_; rintro e wa ⟨rfl, hw⟩; subst wa)
      go_ret
      exact ⟨rfl, RidS.mk1 HD.out (Fr.refl S w)⟩
    · rw [hz] at hF
      rw [if_neg (by rw [findV_some hu hg]; decide), theF_some hu hg]
      have HUp : Hid (d.up = true) := hu
      have HI : Hid (d.files[i]? = some (n, f)) := hi
      have n0 : ¬ (i : Int) < 0 := by omega
      have q0 : decide ((i : Int) < 0) = false := by simp
      obtain ⟨bs, la⟩ := f
      simp only
      obtain ⟨L, hL⟩ : ∃ L, L = l.length := ⟨_, rfl⟩
      have HLl : Hid (L = l.length) := hL
      rw [← hL] at HD hfew
      have hiL : i < L := by rw [hL, h.len]; exact (List.getElem?_eq_some_iff.1 hi).1
      have hiL' : (i : Int) < (L : Int) := by omega
      have jL : (L : Int) ≤ 1048576 := by omega
      clear hz hg hL hi h
      obtain ⟨g, va, vc, hfa, hnl, hSg, hlk, _, hvc, hob, c1, p0, p1, p2, pf⟩ := HD.out.here HI.out
      subst hfa
      simp only at p1 p2 hlk hvc hob
      have HLk : Hid (l[i]? = some ((n, ⟨bs, la⟩), .slice va bs.length vc)) := hlk
      have hbl : bs.length ≤ 140737488355328 := by have := usedL_get HD.out.ok.rises (getA_of_mem HD.out.ok.rises (List.mem_of_getElem? HI.out)); have := HD.out.ok.small; simp only at *; omega
      have jb : (bs.length : Int) ≤ 140737488355328 := by omega
      clear hnl hSg hlk hob pf
      by_cases h1 : k < 0
      · have q1 : decide (k < 0) = true := by simpa using h1
        rw [if_pos (.inl h1)]
        go_enter Try.func29, Try.ntmps29
        go_wp2_with (go_at_call 47; refine hF.mono ?_; rintro e wa ⟨rfl, hw⟩; subst wa)
        go_ret
        exact ⟨rfl, RidS.mk1 HD.out (Fr.refl S w)⟩
      · have q1 : decide (k < 0) = false := by simpa using h1
        by_cases h2 : (bs.length : Int) < k
        · have q2 : decide ((bs.length : Int) < k) = true := by simpa using h2
          rw [if_pos (.inr h2)]
          go_enter Try.func29, Try.ntmps29
          go_wp2_with (go_at_call 47; refine hF.mono ?_; rintro e wa ⟨rfl, hw⟩; subst wa)
          go_ret
          exact ⟨rfl, RidS.mk1 HD.out (Fr.refl S w)⟩
        · have q2 : decide ((bs.length : Int) < k) = false := by simpa using h2
          rw [if_neg (by omega)]
          obtain ⟨Kn, hKn⟩ : ∃ Kn : Nat, k = (Kn : Int) := ⟨k.toNat, by omega⟩
          subst hKn
          have hKb : Kn ≤ bs.length := by omega
          have hKb' : (Kn : Int) ≤ (bs.length : Int) := by omega
          have HSz : Hid (la ≤ bs.length ∧ Kn ≤ bs.length ∧ bs.length ≤ 140737488355328) := ⟨HD.out.ok.lasts _ (List.mem_of_getElem? HI.out), hKb, hbl⟩
          rw [Int.toNat_natCast]
          clear h1 h2 hk
          by_cases h0 : d.ahead = 0
          · rw [if_pos h0]
            have HZ : Hid (d.ahead = 0) := h0
            clear h0
            go_enter Try.func29, Try.ntmps29
            go_wp2_with (first
              | (go_at_call 47; refine hF.mono ?_; rintro e wa ⟨rfl, hw⟩; subst wa)
              | (go_at_call 49; refine (rdeed_any HD.out HUp.out).mono ?_; rintro e w1 ⟨he, h1, _⟩; rw [HZ.out] at he; have HR1 := (show Hid _ from h1 HZ.out); clear h1; subst he))
            go_ret
            exact ⟨rfl, HR1.out⟩
          · rw [if_neg h0]
            have HZ : Hid (d.ahead ≠ 0) := h0
            have HFf : Hid ((failD d).files = d.files) := failD_files h0
            have HI1 : Hid ((failD d).files[i]? = some (n, ⟨bs, la⟩)) := by rw [HFf.out]; exact HI.out
            have hla : (la : Int) ≤ 140737488355328 := by have := HSz.out; omega
            have hmn : min (la : Int) (Kn : Int) = ((min la Kn : Nat) : Int) := by omega
            clear h0
            go_enter Try.func29, Try.ntmps29
            go_wp2_with (first
              | (go_at_call 47; refine hF.mono ?_; rintro e wa ⟨rfl, hw⟩; subst wa)
              | (go_at_call 49; refine (rdeed_any HD.out HUp.out).mono ?_; rintro e w1 ⟨he, _, h1⟩; rw [if_neg HZ.out] at he; subst he; obtain ⟨h1a, h1b⟩ := h1 HZ.out; have HR1 : Hid (RkW w1 b S (.slice (some ⟨g, 0, none⟩) L fc) l (failD d)) := h1a; have HF1 : Hid (Fr S w w1) := h1b; clear h1 h1a h1b))
            clear c1 p0 p1 p2
            have HHere : Hid (∀ w', Below w1.heap.size w1 w' → w'.cell? ⟨b, 1, none⟩ = some (.slice (some ⟨g, 0, none⟩) L fc) ∧ w'.cell? ⟨g, i * 3 + 1, none⟩ = some (.slice va bs.length vc) ∧ w'.cell? ⟨g, i * 3 + 2, none⟩ = some (.int .i64 (la : Int)) ∧ ∀ j, w'.frozen? ⟨g, j, none⟩ = false) := fun w' hw' => by
              obtain ⟨g', va', vc', hfa, _, _, hlk, _, _, _, c1, _, p1, p2, pf⟩ := (HR1.out.below hw').here HI1.out
              have e : g = g' := by have := Option.some.inj hfa; exact congrArg Addr.block this
              subst e
              have e2 := HLk.out.symm.trans hlk
              have e3 : Value.slice va bs.length vc = Value.slice va' bs.length vc' := congrArg Prod.snd (Option.some.inj e2)
              rw [← e3] at p1
              exact ⟨c1, p1, p2, pf⟩
            have HC1c : ∀ w', Below w1.heap.size w1 w' → w'.cell? ⟨b, 1, none⟩ = some (.slice (some ⟨g, 0, none⟩) L fc) ∧ w'.cell? ⟨g, i * 3 + 1, none⟩ = some (.slice va bs.length vc) := fun w' hw' => ⟨(HHere.out w' hw').1, (HHere.out w' hw').2.1⟩
            have HX1 : Hid (∀ w', Below w1.heap.size w1 w' → w'.cell? ⟨g, i * 3 + 1, none⟩ = some (.slice va bs.length vc) ∧ w'.frozen? ⟨g, i * 3 + 1, none⟩ = false) := fun w' hw' => ⟨(HHere.out w' hw').2.1, (HHere.out w' hw').2.2.2 _⟩
            have HX2 : Hid (∀ w', Below w1.heap.size w1 w' → w'.cell? ⟨b, 1, none⟩ = some (.slice (some ⟨g, 0, none⟩) L fc) ∧ w'.cell? ⟨g, i * 3 + 2, none⟩ = some (.int .i64 (la : Int)) ∧ w'.frozen? ⟨g, i * 3 + 2, none⟩ = false) := fun w' hw' => ⟨(HHere.out w' hw').1, (HHere.out w' hw').2.2.1, (HHere.out w' hw').2.2.2 _⟩
            have hob1 : OwnB w1 0 (.slice va bs.length vc) bs := HR1.out.bytes _ (List.mem_of_getElem? HLk.out)
            have HBr : Hid (BRow w1 va Kn vc (bs.take Kn)) := (own_brow hob1).pre hKb
            have s1 := slice_to va bs.length vc Kn hKb hvc
            clear hob1
            refine regionC (fun w' => Below w1.heap.size w1 w') 19 (by kernel_rfl) ?_
            (try (change wpAnyC _ _ _ _ _ _ _ _ _ (World.drew _)))
            refine nameC (fun W0 hW0 => ?_)
            have hC : Hid (Below w1.heap.size w1 W0) := by show Below _ _ _; rw [hW0]; exact ⟨rfl, rfl, rfl, Nat.le_refl _, fun _ _ => rfl⟩
            clear hW0
            refine takeC (i := 0) (v := ?_) rfl (by kernel_rfl) (by kernel_rfl) (by kernel_rfl) (by kernel_rfl) (by kernel_rfl) (fun _ _ _ h => h) hC.out (Or.inl ⟨by rfl, ?_⟩) ?_
            rotate_left 1
            · intro w' hw'
              skip
              go_simp
              first | done | with_reducible rfl
            (try simp only [Act.put])
            (try simp only [List.setIfInBounds_toArray])
            (try simp only [List.set_cons_succ])
            (try simp only [List.set_cons_zero])
            refine takeC (i := 1) (v := ?_) rfl (by kernel_rfl) (by kernel_rfl) (by kernel_rfl) (by kernel_rfl) (by kernel_rfl) (fun _ _ _ h => h) hC.out (Or.inl ⟨by rfl, ?_⟩) ?_
            rotate_left 1
            · intro w' hw'
              skip
              go_simp
              first | done | with_reducible rfl
            (try simp only [Act.put])
            (try simp only [List.setIfInBounds_toArray])
            (try simp only [List.set_cons_succ])
            (try simp only [List.set_cons_zero])
            refine takeC (i := 2) (v := ?_) rfl (by kernel_rfl) (by kernel_rfl) (by kernel_rfl) (by kernel_rfl) (by kernel_rfl) (fun _ _ _ h => h) hC.out (Or.inl ⟨by rfl, ?_⟩) ?_
            rotate_left 1
            · intro w' hw'
              skip
              go_simp
              first | done | with_reducible rfl
            (try simp only [Act.put])
            (try simp only [List.setIfInBounds_toArray])
            (try simp only [List.set_cons_succ])
            (try simp only [List.set_cons_zero])
            refine takeC (i := 3) (v := ?_) rfl (by kernel_rfl) (by kernel_rfl) (by kernel_rfl) (by kernel_rfl) (by kernel_rfl) (fun _ _ _ h => h) hC.out (Or.inl ⟨by rfl, ?_⟩) ?_
            rotate_left 1
            · intro w' hw'
              have z0 := HC1c w' hw'
              go_simp
              first | done | with_reducible rfl
            (try simp only [Act.put])
            (try simp only [List.setIfInBounds_toArray])
            (try simp only [List.set_cons_succ])
            (try simp only [List.set_cons_zero])
            refine takeC (i := 4) (v := ?_) rfl (by kernel_rfl) (by kernel_rfl) (by kernel_rfl) (by kernel_rfl) (by kernel_rfl) (fun _ _ _ h => h) hC.out (Or.inl ⟨by rfl, ?_⟩) ?_
            rotate_left 1
            · intro w' hw'
              skip
              go_simp
              first | done | with_reducible rfl
            (try simp only [Act.put])
            (try simp only [List.setIfInBounds_toArray])
            (try simp only [List.set_cons_succ])
            (try simp only [List.set_cons_zero])
            refine takeC (i := 6) (v := ?_) rfl (by kernel_rfl) (by kernel_rfl) (by kernel_rfl) (by kernel_rfl) (by kernel_rfl) (fun _ _ _ h => h) hC.out (Or.inl ⟨by rfl, ?_⟩) ?_
            rotate_left 1
            · intro w' hw'
              skip
              go_simp
              first | done | with_reducible rfl
            (try simp only [Act.put])
            (try simp only [List.setIfInBounds_toArray])
            (try simp only [List.set_cons_succ])
            (try simp only [List.set_cons_zero])
            refine takeC (i := 7) (v := ?_) rfl (by kernel_rfl) (by kernel_rfl) (by kernel_rfl) (by kernel_rfl) (by kernel_rfl) (fun _ _ _ h => h) hC.out (Or.inl ⟨by rfl, ?_⟩) ?_
            rotate_left 1
            · intro w' hw'
              skip
              go_simp
              first | done | with_reducible rfl
            (try simp only [Act.put])
            (try simp only [List.setIfInBounds_toArray])
            (try simp only [List.set_cons_succ])
            (try simp only [List.set_cons_zero])
            refine takeC (i := 8) (v := ?_) rfl (by kernel_rfl) (by kernel_rfl) (by kernel_rfl) (by kernel_rfl) (by kernel_rfl) (fun _ _ _ h => h) hC.out (Or.inl ⟨by rfl, ?_⟩) ?_
            rotate_left 1
            · intro w' hw'
              skip
              go_simp
              first | done | with_reducible rfl
            (try simp only [Act.put])
            (try simp only [List.setIfInBounds_toArray])
            (try simp only [List.set_cons_succ])
            (try simp only [List.set_cons_zero])
            refine takeC (i := 9) (v := ?_) rfl (by kernel_rfl) (by kernel_rfl) (by kernel_rfl) (by kernel_rfl) (by kernel_rfl) (fun _ _ _ h => h) hC.out (Or.inl ⟨by rfl, ?_⟩) ?_
            rotate_left 1
            · intro w' hw'
              have z0 := HC1c w' hw'
              go_simp
              first | done | with_reducible rfl
            (try simp only [Act.put])
            (try simp only [List.setIfInBounds_toArray])
            (try simp only [List.set_cons_succ])
            (try simp only [List.set_cons_zero])
            refine takeC (i := 10) (v := ?_) rfl (by kernel_rfl) (by kernel_rfl) (by kernel_rfl) (by kernel_rfl) (by kernel_rfl) (fun _ _ _ h => h) hC.out (Or.inl ⟨by rfl, ?_⟩) ?_
            rotate_left 1
            · intro w' hw'
              skip
              go_simp
              first | done | with_reducible rfl
            (try simp only [Act.put])
            (try simp only [List.setIfInBounds_toArray])
            (try simp only [List.set_cons_succ])
            (try simp only [List.set_cons_zero])
            refine takeC (i := 11) (v := ?_) rfl (by kernel_rfl) (by kernel_rfl) (by kernel_rfl) (by kernel_rfl) (by kernel_rfl) (fun _ _ _ h => h) hC.out (Or.inl ⟨by rfl, ?_⟩) ?_
            rotate_left 1
            · intro w' hw'
              skip
              go_simp
              first | done | with_reducible rfl
            (try simp only [Act.put])
            (try simp only [List.setIfInBounds_toArray])
            (try simp only [List.set_cons_succ])
            (try simp only [List.set_cons_zero])
            refine takeC (i := 12) (v := ?_) rfl (by kernel_rfl) (by kernel_rfl) (by kernel_rfl) (by kernel_rfl) (by kernel_rfl) (fun _ _ _ h => h) hC.out (Or.inl ⟨by rfl, ?_⟩) ?_
            rotate_left 1
            · intro w' hw'
              skip
              go_simp
              first | done | with_reducible rfl
            (try simp only [Act.put])
            (try simp only [List.setIfInBounds_toArray])
            (try simp only [List.set_cons_succ])
            (try simp only [List.set_cons_zero])
            refine takeC (i := 13) (v := ?_) rfl (by kernel_rfl) (by kernel_rfl) (by kernel_rfl) (by kernel_rfl) (by kernel_rfl) (fun _ _ _ h => h) hC.out (Or.inl ⟨by rfl, ?_⟩) ?_
            rotate_left 1
            · intro w' hw'
              have z0 := HC1c w' hw'
              go_simp
              first | done | with_reducible rfl
            (try simp only [Act.put])
            (try simp only [List.setIfInBounds_toArray])
            (try simp only [List.set_cons_succ])
            (try simp only [List.set_cons_zero])
            refine takeC (i := 14) (v := ?_) rfl (by kernel_rfl) (by kernel_rfl) (by kernel_rfl) (by kernel_rfl) (by kernel_rfl) (fun _ _ _ h => h) hC.out (Or.inl ⟨by rfl, ?_⟩) ?_
            rotate_left 1
            · intro w' hw'
              skip
              go_simp
              first | done | with_reducible rfl
            (try simp only [Act.put])
            (try simp only [List.setIfInBounds_toArray])
            (try simp only [List.set_cons_succ])
            (try simp only [List.set_cons_zero])
            refine takeC (i := 15) (v := ?_) rfl (by kernel_rfl) (by kernel_rfl) (by kernel_rfl) (by kernel_rfl) (by kernel_rfl) (fun _ _ _ h => h) hC.out (Or.inl ⟨by rfl, ?_⟩) ?_
            rotate_left 1
            · intro w' hw'
              skip
              go_simp
              first | done | with_reducible rfl
            (try simp only [Act.put])
            (try simp only [List.setIfInBounds_toArray])
            (try simp only [List.set_cons_succ])
            (try simp only [List.set_cons_zero])
            refine readyC (rs := [5]) (by kernel_rfl) (by simp) ?_
            refine ReadyC.cons rfl (fun K hK => ?_) ReadyC.nil
            go_simp
            refine hK _ _ (fun _ => hC.out.alloc hC.out.size _) ?_
            clear hK K
            (try simp only [Act.put])
            (try simp only [List.setIfInBounds_toArray])
            (try simp only [List.set_cons_succ])
            (try simp only [List.set_cons_zero])
            refine nameC (fun Wx1 hW => ?_)
            have hx : Below W0.heap.size W0 Wx1 := by rw [hW]; exact (Below.refl _ _).alloc (Nat.le_refl _) _
            have hO : Hid (OwnB Wx1 w1.heap.size (.slice (some ⟨W0.heap.size, 0, none⟩) 0 0) []) := by show OwnB _ _ _ _; rw [hW]; exact own_made0 _ _ hC.out.size
            replace hC : Hid (Below w1.heap.size w1 Wx1) := hC.out.trans (hx.mono hC.out.size)
            clear hx hW
            refine readyC (rs := [16]) (by kernel_rfl) (by simp) ?_
            refine ReadyC.cons rfl (fun K hK => ?_) ReadyC.nil
            refine stepC_runs rfl (.tmp 46) (.tmp 56) rfl _ _ rfl rfl _ (app_bytes hO.out (HBr.out.below hC.out) (by have := HSz.out; show 0 + Kn ≤ _; omega) hC.out.size _) ?_
            intro v8 Wx2 hA
            obtain ⟨hA1, hA2, a8, m8, c8, hv, hm⟩ := hA
            subst hv
            refine hK _ _ (fun _ => hC.out.trans hA2) ?_
            clear hK K
            (try simp only [Act.put])
            (try simp only [List.setIfInBounds_toArray])
            (try simp only [List.set_cons_succ])
            (try simp only [List.set_cons_zero])
            rw [List.nil_append] at hA1 hm
            replace hO : Hid (OwnB Wx2 w1.heap.size (.slice a8 m8 c8) (bs.take Kn)) := hA1
            replace hC : Hid (Below w1.heap.size w1 Wx2) := hC.out.trans hA2
            clear hA1 hA2 hm
            refine takeC (i := 17) (v := ?_) rfl (by kernel_rfl) (by kernel_rfl) (by kernel_rfl) (by kernel_rfl) (by kernel_rfl) (fun _ _ _ h => h) hC.out (Or.inl ⟨by rfl, ?_⟩) ?_
            rotate_left 1
            · intro w' hw'
              skip
              go_simp
              first | done | with_reducible rfl
            (try simp only [Act.put])
            (try simp only [List.setIfInBounds_toArray])
            (try simp only [List.set_cons_succ])
            (try simp only [List.set_cons_zero])
            refine takeC (i := 18) (v := ?_) rfl (by kernel_rfl) (by kernel_rfl) (by kernel_rfl) (by kernel_rfl) (by kernel_rfl) (fun _ _ _ h => h) hC.out (Or.inl ⟨by rfl, ?_⟩) ?_
            rotate_left 1
            · intro w' hw'
              skip
              go_simp
              first | done | with_reducible rfl
            (try simp only [Act.put])
            (try simp only [List.setIfInBounds_toArray])
            (try simp only [List.set_cons_succ])
            (try simp only [List.set_cons_zero])
            refine readyC (rs := [19]) (by kernel_rfl) (by simp) ?_
            refine ReadyC.cons rfl (fun K hK => ?_) ReadyC.nil
            obtain ⟨z1, z2⟩ := HX1.out Wx2 hC.out
            go_simp
            refine hK _ _ (fun h => absurd rfl h) ?_
            clear hK K
            (try simp only [Act.put])
            (try simp only [List.setIfInBounds_toArray])
            (try simp only [List.set_cons_succ])
            (try simp only [List.set_cons_zero])
            refine doneC (by kernel_rfl) ?_ _
            clear HC1c
            obtain ⟨y1, y2, y3⟩ := HX2.out Wx2 hC.out
            have hbg : b ≠ g := fun e => HR1.out.ne_f (by rw [e]; rfl)
            obtain ⟨cur, hcur⟩ := row_block (HR1.out.below hC.out).row rfl
            have y1a : ∀ v, (Wx2.setCell ⟨g, i * 3 + 1, none⟩ v).cell? ⟨b, 1, none⟩ = some (.slice (some ⟨g, 0, none⟩) L fc) := fun v => (World.cell?_of_block (w := Wx2) (set_other v hbg)).trans y1
            have y2a : ∀ v, (Wx2.setCell ⟨g, i * 3 + 1, none⟩ v).cell? ⟨g, i * 3 + 2, none⟩ = some (.int .i64 (la : Int)) := fun v => cell_ne hcur y2 (by omega)
            have y3a : ∀ v, (Wx2.setCell ⟨g, i * 3 + 1, none⟩ v).frozen? ⟨g, i * 3 + 2, none⟩ = false := fun v => free_blk (set_blk hcur _ v) _
            clear hcur hbg y1 y2 y3
            go_wp2
            go_region
            go_wp2
            go_ret
            have HR1' : RkW w1 b S (.slice (some ⟨g, 0, none⟩) l.length fc) l (failD d) := by rw [← HLl.out]; exact HR1.out
            have q := setbl_done (m := min la Kn) HR1' hC.out hO.out HLk.out hn rfl (okSet (f := ⟨bs, la⟩) HR1'.ok HI1.out (by rw [List.length_take]; exact Nat.min_le_right _ _) (by rw [List.length_take]; have := HSz.out; omega))
            rw [set_putA HR1'.ok.rises HI1.out] at q
            have q2 := RidS.trans HF1.out (fun j hj => .inl hj) q
            obtain ⟨S9, fs9, l9, q3, q4, q5⟩ := q2
            exact ⟨rfl, S9, fs9, l9, q3.keep (Nat.le_refl _) (fun _ _ => rfl), q4.tr ⟨rfl, rfl, rfl, Nat.le_refl _, fun _ _ _ => rfl⟩, q5⟩

end Go.Proofs.Ytmkgaegodemglaa
