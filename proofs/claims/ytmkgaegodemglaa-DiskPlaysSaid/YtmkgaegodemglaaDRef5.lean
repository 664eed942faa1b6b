/- The document's disk: put; walked. -/
import Derived.Test.YtmkgaegodemglaaDRef4
import Derived.BigQuiet
import Derived.BigRegion
set_option linter.unusedVariables false
namespace Go.Proofs.Ytmkgaegodemglaa
open Go.RowKit

set_option maxHeartbeats 4000000 in
set_option maxRecDepth 20000 in
theorem rput_any {w : World} {b : Nat} {S : Nat → Prop} {fs : Value} {l : FV} {d : Dk} (h : RkW w b S fs l d) (n : Nm) (va : Option Addr) (vc : Nat) (bs : List UInt8) (la : Nat) (hv : OwnB w 0 (.slice va bs.length vc) bs) (hvS : ∀ g, (Value.slice va bs.length vc).ownBlock = some g → S g) (hp : PutOk d n bs la) :
    Calls Try.prog 48 #[dptr b, .agg #[strN n, .slice va bs.length vc, .int .i64 (la : Int)]] w fun e w' => e = .returned (.tuple #[]) ∧ RidS w b S { d with files := putA n ⟨bs, la⟩ d.files } w' := by
  obtain ⟨fa, fc, rfl⟩ := h.shape
  have hfew : l.length ≤ 1048576 := by rw [h.len]; exact h.ok.few
  obtain ⟨W1, hW1⟩ : ∃ W1, W1 = w.alloc (.cells #[strN n, .slice va bs.length vc, .int .i64 (la : Int)] 71) := ⟨_, rfl⟩
  have hb1 : Below w.heap.size w W1 := by rw [hW1]; exact (Below.refl _ w).alloc (Nat.le_refl _) _
  have hk1 : W1.heap[w.heap.size]? = some (.cells #[strN n, .slice va bs.length vc, .int .i64 (la : Int)] 71 (0, 0)) := by
    rw [hW1]
    show (w.heap.push _)[w.heap.size]? = _
    exact Array.getElem?_push_size
  have HD : Hid (RkW W1 b S (.slice fa l.length fc) l d) := h.below hb1
  have HV : Hid (OwnB W1 0 (.slice va bs.length vc) bs) := own_below2 hv hb1
  have HB1 : Hid (Below w.heap.size w W1) := hb1
  have HK1 : Hid (W1.heap[w.heap.size]? = some (.cells #[strN n, .slice va bs.length vc, .int .i64 (la : Int)] 71 (0, 0))) := hk1
  obtain ⟨L, hL⟩ : ∃ L, L = l.length := ⟨_, rfl⟩
  have HLl : Hid (L = l.length) := hL
  have c1 : ∀ k, (W1.drewN k).cell? ⟨b, 1, none⟩ = some (.slice fa L fc) := fun k => by rw [hL]; exact HD.out.c1
  have y0 : ∀ k, (W1.drewN k).cell? ⟨w.heap.size, 0, none⟩ = some (strN n) := fun k => cell_blk (w := W1) hk1 rfl
  rw [← hL] at hfew
  clear hL hk1 hb1 h hv
  go_enter Try.func48, Try.ntmps48
  go_wp2
  rw [← hW1]
  clear hW1
  go_loopw [4] (fun i wr => ∃ (k m : Nat), i = .int .i64 (k : Int) ∧ k ≤ L ∧ Hid (∀ (j : Nat) (p : Nm × Fl), j < k → d.files[j]? = some p → bytesBefore p.1 n = true) ∧ wr = W1.drewN m) (fun i _ => L - (intOf i).toNat)
  case atStart => exact ⟨0, 0, rfl, Nat.zero_le _, (fun j p hj => absurd hj (Nat.not_lt_zero _)), rfl⟩
  case round =>
    obtain ⟨k, m, rfl, hk, HK, rfl⟩ := hrel
    by_cases hlt : k < L
    · have dlt : decide ((k : Int) < (L : Int)) = true := by simpa using hlt
      have hlt' : (k : Int) < (L : Int) := by omega
      obtain ⟨q, hq⟩ : ∃ q, l[k]? = some q := ⟨_, List.getElem?_eq_getElem (by rw [← HLl.out]; exact hlt)⟩
      obtain ⟨g, c, he, hSg, hgb, x0, x1, x2, xf⟩ := HD.out.at hq
      have e1 : fa = some ⟨g, 0, none⟩ := congrArg (fun v => match v with | Value.slice a _ _ => a | _ => none) he
      subst e1
      have hqd := HD.out.put hq
      have x0' : ∀ k', (W1.drewN k').cell? ⟨g, k * 3, none⟩ = some (strN q.1.1) := fun k' => x0
      cases hbb : bytesBefore q.1.1 n with
      | true =>
        have hls : Op.bytesLess q.1.1 n = true := by rw [less_bb]; exact hbb
        have HK2 : Hid (∀ (j : Nat) (p : Nm × Fl), j < k + 1 → d.files[j]? = some p → bytesBefore p.1 n = true) := by
          intro j p hj hp'
          by_cases hjk : j < k
          · exact HK.out j p hjk hp'
          · have : j = k := by omega
            subst this
            rw [hqd] at hp'
            cases hp'
            exact hbb
        generalize q.1.1 = m1 at *
        clear he hq hqd hbb HK x0 x1 x2 xf hSg hgb
        go_wp2
        go_quiet (fail)
        go_wp2
        go_roundw
        case rel => exact ⟨k + 1, _, by go_num, by omega, HK2, rfl⟩
        case measure => simp [intOf]; omega
      | false =>
        have hls : Op.bytesLess q.1.1 n = false := by rw [less_bb]; exact hbb
        have Hqd : Hid (d.files[k]? = some q.1) := hqd
        have Hbb : Hid (bytesBefore q.1.1 n = false) := hbb
        by_cases hnn : q.1.1 = n
        · have hbe : (q.1.1 == n) = true := by simpa using hnn
          have HPut : Hid (putA n (⟨bs, la⟩ : Fl) d.files = d.files.set k (n, ⟨bs, la⟩)) := (putA_pos HD.out.ok.rises k HK.out (fun p hp2 => by have e := Hqd.out.symm.trans hp2; cases e; exact Hbb.out)).1 q.1.2 (by rw [Hqd.out, ← hnn])
          have HLk : Hid (k < l.length) := by show _ < _; rw [← HLl.out]; exact hlt
          have hfc : c = fc := by have := congrArg (fun v => match v with | Value.slice _ _ c => c | _ => 0) he; exact this.symm
          have c1a : W1.cell? ⟨b, 1, none⟩ = some (.slice (some ⟨g, 0, none⟩) L fc) := c1 0
          have y0a := cell_blk HK1.out (i := 0) (v := strN n) rfl
          have y1a := cell_blk HK1.out (i := 1) (v := .slice va bs.length vc) rfl
          have y2a := cell_blk HK1.out (i := 2) (v := .int .i64 (la : Int)) rfl
          have f0 := xf (k * 3)
          have f1 := xf (k * 3 + 1)
          have f2 := xf (k * 3 + 2)
          have Hgb : Hid (g ≠ b) := hgb
          generalize q.1.1 = m1 at *
          generalize (q.1.2.la : Int) = ola at *
          generalize q.2 = ov at *
          clear he hq hqd hbb hnn xf hSg hgb hfc
          go_wp2
          go_quiet (fail)
          go_wp2
          go_quiet (fail)
          go_wp2
          go_region
          go_wp2
          (try simp only [Exit.inBlock, Exit.then])
          refine bodyPost_ret (results_none rfl _ _ _) rfl ?_
          refine ⟨rfl, RidS.trans (w1 := W1) (Fr.of_below S HB1.out) (fun j hj => .inl hj) ⟨S, _, _, RkW.inrow (w := W1) (k := k) (q := ((n, ⟨bs, la⟩), Value.slice va bs.length vc)) (S2 := S) HD.out ?_ ?_ ?_ ?_ (hp.ok HD.out.ok) hp.hn ?_ (fun j hj => hj) ?_ hvS, ?_, fun j hj => .inl hj⟩⟩
          · rw [set_size, set_size, set_size]; exact Nat.le_refl _
          · intro j hj hne
            rw [set_other _ hne, set_other _ hne, set_other _ hne]; rfl
          · rw [← set_three l k _ HLk.out]
            exact (((HD.out.row.stored (k * 3) (strN n)).1.stored (k * 3 + 1) (.slice va bs.length vc)).1.stored (k * 3 + 2) (.int .i64 (la : Int))).1
          · rw [HPut.out]
          · refine ownB_keep HV.out (fun j hj => ?_)
            obtain ⟨cur, hc⟩ := ownB_block HV.out hj
            have hne : j ≠ g := by
              intro e
              subst e
              obtain ⟨cur', hc'⟩ := row_block HD.out.row rfl
              rw [hc] at hc'
              simp at hc'
            rw [set_other _ hne, set_other _ hne, set_other _ hne]; rfl
          · intro j hj
            rw [set_size, set_size, set_size]
            exact HD.out.lt j hj
          · have hSg : S g := HD.out.sf g rfl
            exact Fr.set (p := ⟨g, k * 3 + 2, none⟩) (Fr.set (p := ⟨g, k * 3 + 1, none⟩) (Fr.set (p := ⟨g, k * 3, none⟩) ((Fr.refl S W1).drewN _) hSg _) hSg _) hSg _
        · have hbe : (q.1.1 == n) = false := by simpa using hnn
          have Hnn : Hid (q.1.1 ≠ n) := hnn
          have HPut : Hid (putA n (⟨bs, la⟩ : Fl) d.files = d.files.take k ++ (n, ⟨bs, la⟩) :: d.files.drop k) := (putA_pos HD.out.ok.rises k HK.out (fun p hp2 => by have e := Hqd.out.symm.trans hp2; cases e; exact Hbb.out)).2 (fun p hp2 => by have e := Hqd.out.symm.trans hp2; cases e; exact Hnn.out)
          generalize q.1.1 = m1 at *
          clear he hq hqd hbb hnn x0 x1 x2 xf hSg hgb
          obtain ⟨hn0, hcap, hcn, htk, hdk⟩ := RkW.frow HD.out
          have HFk : Hid (FRow W1 (some (⟨g, 0, none⟩ : Addr)) k (l.take k)) := htk k (by rw [← HLl.out]; exact hk)
          have HFd : Hid (FRow W1 (frA (some (⟨g, 0, none⟩ : Addr)) fc k) (L - k) (l.drop k)) := by show FRow _ _ _ _; rw [HLl.out]; exact hdk k (by rw [← HLl.out]; exact hk)
          have HCn : Hid ((some (⟨g, 0, none⟩ : Addr)) = none → fc = 0) := hcn
          have s1 := slice_toF (some (⟨g, 0, none⟩ : Addr)) L fc k hk (by rw [HLl.out]; exact hcap)
          have s2 := slice_fromF (some (⟨g, 0, none⟩ : Addr)) L fc k hk (by rw [HLl.out]; exact hcap)
          have HSh := (show Hid (Shaped l) from HD.out.shaped)
          have HS1 : Hid (Shaped (l.take k)) := fun q hq => HSh.out q (List.mem_of_mem_take hq)
          have HS2 : Hid (Shaped [((n, ⟨bs, la⟩), Value.slice va bs.length vc)]) := by
            intro q hq
            have : q = ((n, ⟨bs, la⟩), Value.slice va bs.length vc) := by simpa using hq
            subst this
            exact ⟨_, _, _, rfl⟩
          have HS3 : Hid (Shaped (l.drop k)) := fun q hq => HSh.out q (List.mem_of_mem_drop hq)
          have HLn : Hid (l.length ≤ 1048576 ∧ k ≤ l.length) := ⟨by rw [← HLl.out]; exact hfew, by rw [← HLl.out]; exact hk⟩
          have HC1 : Hid (∀ w', Below W1.heap.size W1 w' → w'.cell? ⟨b, 1, none⟩ = some (.slice (some (⟨g, 0, none⟩ : Addr)) L fc)) := fun w' hw' => by rw [HLl.out]; exact (HD.out.below hw').c1
          have HC1c := HC1.out
          have HFz : Hid (∀ w', Below W1.heap.size W1 w' → w'.frozen? ⟨b, 1, none⟩ = false) := fun w' hw' => (HD.out.below hw').fz 1
          have HYc : ∀ w', Below W1.heap.size W1 w' → w'.cell? ⟨w.heap.size, 0, none⟩ = some (strN n) ∧ w'.cell? ⟨w.heap.size, 1, none⟩ = some (.slice va bs.length vc) ∧ w'.cell? ⟨w.heap.size, 2, none⟩ = some (.int .i64 (la : Int)) := fun w' hw' => by
            have hq := (hw'.block _ (lt_blk HK1.out)).trans HK1.out
            exact ⟨cell_blk hq rfl, cell_blk hq rfl, cell_blk hq rfl⟩
          have HMap : Hid (List.map (·.1) (l.take k ++ [((n, ⟨bs, la⟩), Value.slice va bs.length vc)] ++ l.drop k) = putA n (⟨bs, la⟩ : Fl) d.files) := by
            show _ = _
            rw [HPut.out, List.map_append, List.map_append, List.map_take, List.map_drop, HD.out.files]
            simp
          have HQs : Hid (∀ q ∈ l.take k ++ [((n, ⟨bs, la⟩), Value.slice va bs.length vc)] ++ l.drop k, OwnB W1 0 q.2 q.1.2.bs ∧ ∀ g, q.2.ownBlock = some g → S g) := by
            intro q hq
            rcases List.mem_append.1 hq with hq | hq
            · rcases List.mem_append.1 hq with hq | hq
              · exact ⟨HD.out.bytes q (List.mem_of_mem_take hq), HD.out.sr q (List.mem_of_mem_take hq)⟩
              · have : q = ((n, ⟨bs, la⟩), Value.slice va bs.length vc) := by simpa using hq
                subst this
                exact ⟨HV.out, hvS⟩
            · exact ⟨HD.out.bytes q (List.mem_of_mem_drop hq), HD.out.sr q (List.mem_of_mem_drop hq)⟩
          clear hn0 hcap hcn htk hdk
          go_wp2
          go_quiet (fail)
          go_wp2
          go_quiet (fail)
          go_wp2
          clear c1 y0 x0'
          refine regionC (fun w' => Below W1.heap.size W1 w') 21 (by kernel_rfl) ?_
          (try (change wpAnyC _ _ _ _ _ _ _ _ _ (World.drew _)))
          refine nameC (fun W0 hW0 => ?_)
          have hC : Hid (Below W1.heap.size W1 W0) := by show Below _ _ _; rw [hW0]; exact ⟨rfl, rfl, rfl, Nat.le_refl _, fun _ _ => rfl⟩
          clear hW0
          refine takeC (i := 0) (v := ?_) rfl (by kernel_rfl) (by kernel_rfl) (by kernel_rfl) (by kernel_rfl) (by kernel_rfl) (fun _ _ _ h => h) hC.out (Or.inl ⟨by rfl, ?_⟩) ?_
          rotate_left 1
          · intro w' hw'
            skip
            go_simp
            first | done | with_reducible rfl
          (try simp only [Act.put])
          (try simp only [List.setIfInBounds_toArray])
          (try simp only [List.set_cons_succ])
          (try simp only [List.set_cons_zero])
          refine takeC (i := 2) (v := ?_) rfl (by kernel_rfl) (by kernel_rfl) (by kernel_rfl) (by kernel_rfl) (by kernel_rfl) (fun _ _ _ h => h) hC.out (Or.inl ⟨by rfl, ?_⟩) ?_
          rotate_left 1
          · intro w' hw'
            skip
            go_simp
            first | done | with_reducible rfl
          (try simp only [Act.put])
          (try simp only [List.setIfInBounds_toArray])
          (try simp only [List.set_cons_succ])
          (try simp only [List.set_cons_zero])
          refine takeC (i := 3) (v := ?_) rfl (by kernel_rfl) (by kernel_rfl) (by kernel_rfl) (by kernel_rfl) (by kernel_rfl) (fun _ _ _ h => h) hC.out (Or.inl ⟨by rfl, ?_⟩) ?_
          rotate_left 1
          · intro w' hw'
            skip
            go_simp
            first | done | with_reducible rfl
          (try simp only [Act.put])
          (try simp only [List.setIfInBounds_toArray])
          (try simp only [List.set_cons_succ])
          (try simp only [List.set_cons_zero])
          refine takeC (i := 4) (v := ?_) rfl (by kernel_rfl) (by kernel_rfl) (by kernel_rfl) (by kernel_rfl) (by kernel_rfl) (fun _ _ _ h => h) hC.out (Or.inl ⟨by rfl, ?_⟩) ?_
          rotate_left 1
          · intro w' hw'
            skip
            go_simp
            first | done | with_reducible rfl
          (try simp only [Act.put])
          (try simp only [List.setIfInBounds_toArray])
          (try simp only [List.set_cons_succ])
          (try simp only [List.set_cons_zero])
          refine takeC (i := 5) (v := ?_) rfl (by kernel_rfl) (by kernel_rfl) (by kernel_rfl) (by kernel_rfl) (by kernel_rfl) (fun _ _ _ h => h) hC.out (Or.inl ⟨by rfl, ?_⟩) ?_
          rotate_left 1
          · intro w' hw'
            have z0 := HC1c w' hw'; have z1 := HYc w' hw'
            go_simp
            first | done | with_reducible rfl
          (try simp only [Act.put])
          (try simp only [List.setIfInBounds_toArray])
          (try simp only [List.set_cons_succ])
          (try simp only [List.set_cons_zero])
          refine takeC (i := 6) (v := ?_) rfl (by kernel_rfl) (by kernel_rfl) (by kernel_rfl) (by kernel_rfl) (by kernel_rfl) (fun _ _ _ h => h) hC.out (Or.inl ⟨by rfl, ?_⟩) ?_
          rotate_left 1
          · intro w' hw'
            skip
            go_simp
            first | done | with_reducible rfl
          (try simp only [Act.put])
          (try simp only [List.setIfInBounds_toArray])
          (try simp only [List.set_cons_succ])
          (try simp only [List.set_cons_zero])
          refine takeC (i := 7) (v := ?_) rfl (by kernel_rfl) (by kernel_rfl) (by kernel_rfl) (by kernel_rfl) (by kernel_rfl) (fun _ _ _ h => h) hC.out (Or.inl ⟨by rfl, ?_⟩) ?_
          rotate_left 1
          · intro w' hw'
            skip
            go_simp
            first | done | with_reducible rfl
          (try simp only [Act.put])
          (try simp only [List.setIfInBounds_toArray])
          (try simp only [List.set_cons_succ])
          (try simp only [List.set_cons_zero])
          refine takeC (i := 9) (v := ?_) rfl (by kernel_rfl) (by kernel_rfl) (by kernel_rfl) (by kernel_rfl) (by kernel_rfl) (fun _ _ _ h => h) hC.out (Or.inl ⟨by rfl, ?_⟩) ?_
          rotate_left 1
          · intro w' hw'
            have z0 := HC1c w' hw'; have z1 := HYc w' hw'
            go_simp
            first | done | with_reducible rfl
          (try simp only [Act.put])
          (try simp only [List.setIfInBounds_toArray])
          (try simp only [List.set_cons_succ])
          (try simp only [List.set_cons_zero])
          refine takeC (i := 12) (v := ?_) rfl (by kernel_rfl) (by kernel_rfl) (by kernel_rfl) (by kernel_rfl) (by kernel_rfl) (fun _ _ _ h => h) hC.out (Or.inl ⟨by rfl, ?_⟩) ?_
          rotate_left 1
          · intro w' hw'
            skip
            go_simp
            first | done | with_reducible rfl
          (try simp only [Act.put])
          (try simp only [List.setIfInBounds_toArray])
          (try simp only [List.set_cons_succ])
          (try simp only [List.set_cons_zero])
          refine takeC (i := 13) (v := ?_) rfl (by kernel_rfl) (by kernel_rfl) (by kernel_rfl) (by kernel_rfl) (by kernel_rfl) (fun _ _ _ h => h) hC.out (Or.inl ⟨by rfl, ?_⟩) ?_
          rotate_left 1
          · intro w' hw'
            skip
            go_simp
            first | done | with_reducible rfl
          (try simp only [Act.put])
          (try simp only [List.setIfInBounds_toArray])
          (try simp only [List.set_cons_succ])
          (try simp only [List.set_cons_zero])
          refine takeC (i := 14) (v := ?_) rfl (by kernel_rfl) (by kernel_rfl) (by kernel_rfl) (by kernel_rfl) (by kernel_rfl) (fun _ _ _ h => h) hC.out (Or.inl ⟨by rfl, ?_⟩) ?_
          rotate_left 1
          · intro w' hw'
            skip
            go_simp
            first | done | with_reducible rfl
          (try simp only [Act.put])
          (try simp only [List.setIfInBounds_toArray])
          (try simp only [List.set_cons_succ])
          (try simp only [List.set_cons_zero])
          refine takeC (i := 15) (v := ?_) rfl (by kernel_rfl) (by kernel_rfl) (by kernel_rfl) (by kernel_rfl) (by kernel_rfl) (fun _ _ _ h => h) hC.out (Or.inl ⟨by rfl, ?_⟩) ?_
          rotate_left 1
          · intro w' hw'
            have z0 := HC1c w' hw'; have z1 := HYc w' hw'
            go_simp
            first | done | with_reducible rfl
          (try simp only [Act.put])
          (try simp only [List.setIfInBounds_toArray])
          (try simp only [List.set_cons_succ])
          (try simp only [List.set_cons_zero])
          refine takeC (i := 16) (v := ?_) rfl (by kernel_rfl) (by kernel_rfl) (by kernel_rfl) (by kernel_rfl) (by kernel_rfl) (fun _ _ _ h => h) hC.out (Or.inl ⟨by rfl, ?_⟩) ?_
          rotate_left 1
          · intro w' hw'
            skip
            go_simp
            first | done | with_reducible rfl
          (try simp only [Act.put])
          (try simp only [List.setIfInBounds_toArray])
          (try simp only [List.set_cons_succ])
          (try simp only [List.set_cons_zero])
          refine takeC (i := 17) (v := ?_) rfl (by kernel_rfl) (by kernel_rfl) (by kernel_rfl) (by kernel_rfl) (by kernel_rfl) (fun _ _ _ h => h) hC.out (Or.inl ⟨by rfl, ?_⟩) ?_
          rotate_left 1
          · intro w' hw'
            skip
            go_simp
            first | done | with_reducible rfl
          (try simp only [Act.put])
          (try simp only [List.setIfInBounds_toArray])
          (try simp only [List.set_cons_succ])
          (try simp only [List.set_cons_zero])
          refine readyC (rs := [1, 10]) (by kernel_rfl) (by simp) ?_
          refine ReadyC.cons rfl (fun K hK => ?_) ?_
          · go_simp
            refine hK _ _ (fun _ => hC.out.alloc hC.out.size _) ?_
            clear hK K
            (try simp only [Act.put])
            (try simp only [List.setIfInBounds_toArray])
            (try simp only [List.set_cons_succ])
            (try simp only [List.set_cons_zero])
            refine nameC (fun Wx1 hW => ?_)
            have hx : Below W0.heap.size W0 Wx1 := by rw [hW]; exact (Below.refl _ _).alloc (Nat.le_refl _) _
            have hO : Hid (OwnF Wx1 W1.heap.size (.slice (some ⟨W0.heap.size, 0, none⟩) 0 0) []) := by show OwnF _ _ _ _; rw [hW]; exact made_files _ _ hC.out.size
            have hOl : Hid (W0.heap.size < Wx1.heap.size) := by show _ < _; rw [hW]; simp
            replace hC : Hid (Below W1.heap.size W1 Wx1) := hC.out.trans (hx.mono hC.out.size)
            clear hx hW
            refine readyC (rs := [8, 10]) (by kernel_rfl) (by simp) ?_
            refine ReadyC.cons rfl (fun K hK => ?_) ?_
            · refine stepC_runs rfl (.tmp 55) (.tmp 61) rfl _ _ rfl rfl _ (app_files hO.out (HFk.out.below hC.out) HS1.out (by have := HLn.out; show 0 + k ≤ _; omega) hC.out.size HCn.out _) ?_
              intro v8 Wx2 hA
              obtain ⟨hA1, hA2, hA3, a8, m8, c8, hv, hm⟩ := hA
              subst hv
              refine hK _ _ (fun _ => hC.out.trans hA2) ?_
              clear hK K
              (try simp only [Act.put])
              (try simp only [List.setIfInBounds_toArray])
              (try simp only [List.set_cons_succ])
              (try simp only [List.set_cons_zero])
              rw [List.nil_append] at hA1
              replace hO : Hid (OwnF Wx2 W1.heap.size (.slice a8 m8 c8) (l.take k)) := hA1
              replace hC : Hid (Below W1.heap.size W1 Wx2) := hC.out.trans hA2
              clear hA1 hA2 hA3 hm
              refine readyC (rs := [10]) (by kernel_rfl) (by simp) ?_
              refine ReadyC.cons rfl (fun K hK => ?_) ReadyC.nil
              go_simp
              refine hK _ _ (fun _ => hC.out.alloc hC.out.size _) ?_
              clear hK K
              (try simp only [Act.put])
              (try simp only [List.setIfInBounds_toArray])
              (try simp only [List.set_cons_succ])
              (try simp only [List.set_cons_zero])
              refine nameC (fun Wx3 hW => ?_)
              have hx : Below Wx2.heap.size Wx2 Wx3 := by rw [hW]; exact (Below.refl _ _).alloc (Nat.le_refl _) _
              have hLit0 : FRow Wx3 (some ⟨Wx2.heap.size, 0, none⟩) 1 [((n, ⟨bs, la⟩), Value.slice va bs.length vc)] := by rw [hW]; exact frow_lit Wx2 ((n, ⟨bs, la⟩), Value.slice va bs.length vc)
              obtain ⟨lg, hlg⟩ : ∃ lg, Wx2.heap.size = lg := ⟨_, rfl⟩
              rw [hlg] at hLit0 ⊢
              have hLit : Hid (FRow Wx3 (some ⟨lg, 0, none⟩) 1 [((n, ⟨bs, la⟩), Value.slice va bs.length vc)]) := hLit0
              have hLg : Hid (lg < Wx3.heap.size) := by show _ < _; rw [hW, ← hlg]; simp
              replace hO := (show Hid (OwnF Wx3 W1.heap.size _ _) from OwnF.below hO.out hx)
              replace hC : Hid (Below W1.heap.size W1 Wx3) := hC.out.trans (hx.mono hC.out.size)
              clear hx hW hLit0 hlg
              refine readyC (rs := [11]) (by kernel_rfl) (by simp) ?_
              refine ReadyC.cons rfl (fun K hK => ?_) ReadyC.nil
              refine stepC_runs rfl (.tmp 62) (.tmp 64) rfl _ _ rfl rfl _ (app_files hO.out hLit.out HS2.out (by have := HLn.out; rw [List.length_take]; omega) hC.out.size (fun h => nomatch h) _) ?_
              intro v11 Wx4 hA
              obtain ⟨hA1, hA2, hA3, a11, m11, c11, hv, hm⟩ := hA
              subst hv
              refine hK _ _ (fun _ => hC.out.trans hA2) ?_
              clear hK K
              (try simp only [Act.put])
              (try simp only [List.setIfInBounds_toArray])
              (try simp only [List.set_cons_succ])
              (try simp only [List.set_cons_zero])
              replace hO : Hid (OwnF Wx4 W1.heap.size (.slice a11 m11 c11) (l.take k ++ [((n, ⟨bs, la⟩), Value.slice va bs.length vc)])) := hA1
              replace hC : Hid (Below W1.heap.size W1 Wx4) := hC.out.trans hA2
              clear hA1 hA2 hA3 hm
              refine readyC (rs := [18]) (by kernel_rfl) (by simp) ?_
              refine ReadyC.cons rfl (fun K hK => ?_) ReadyC.nil
              refine stepC_runs rfl (.tmp 65) (.tmp 71) rfl _ _ rfl rfl _ (app_files hO.out (HFd.out.below hC.out) HS3.out (by have := HLn.out; have := HLl.out; rw [List.length_append, List.length_take, List.length_singleton]; omega) hC.out.size (frA_none HCn.out) _) ?_
              intro v18 Wx5 hA
              obtain ⟨hA1, hA2, hA3, a18, m18, c18, hv, hm⟩ := hA
              subst hv
              refine hK _ _ (fun _ => hC.out.trans hA2) ?_
              clear hK K
              (try simp only [Act.put])
              (try simp only [List.setIfInBounds_toArray])
              (try simp only [List.set_cons_succ])
              (try simp only [List.set_cons_zero])
              replace hO : Hid (OwnF Wx5 W1.heap.size (.slice a18 m18 c18) (l.take k ++ [((n, ⟨bs, la⟩), Value.slice va bs.length vc)] ++ l.drop k)) := hA1
              replace hC : Hid (Below W1.heap.size W1 Wx5) := hC.out.trans hA2
              clear hA1 hA2 hA3 hm
              refine takeC (i := 19) (v := ?_) rfl (by kernel_rfl) (by kernel_rfl) (by kernel_rfl) (by kernel_rfl) (by kernel_rfl) (fun _ _ _ h => h) hC.out (Or.inl ⟨by rfl, ?_⟩) ?_
              rotate_left 1
              · intro w' hw'
                skip
                go_simp
                first | done | with_reducible rfl
              (try simp only [Act.put])
              (try simp only [List.setIfInBounds_toArray])
              (try simp only [List.set_cons_succ])
              (try simp only [List.set_cons_zero])
              refine takeC (i := 20) (v := ?_) rfl (by kernel_rfl) (by kernel_rfl) (by kernel_rfl) (by kernel_rfl) (by kernel_rfl) (fun _ _ _ h => h) hC.out (Or.inl ⟨by rfl, ?_⟩) ?_
              rotate_left 1
              · intro w' hw'
                skip
                go_simp
                first | done | with_reducible rfl
              (try simp only [Act.put])
              (try simp only [List.setIfInBounds_toArray])
              (try simp only [List.set_cons_succ])
              (try simp only [List.set_cons_zero])
              refine readyC (rs := [21]) (by kernel_rfl) (by simp) ?_
              refine ReadyC.cons rfl (fun K hK => ?_) ReadyC.nil
              have z1 := HC1.out Wx5 hC.out
              have z2 := HFz.out Wx5 hC.out
              go_simp
              refine hK _ _ (fun h => absurd rfl h) ?_
              clear hK K
              (try simp only [Act.put])
              (try simp only [List.setIfInBounds_toArray])
              (try simp only [List.set_cons_succ])
              (try simp only [List.set_cons_zero])
              refine doneC (by kernel_rfl) ?_ _
              clear HC1c HYc
              go_end0
              refine ⟨rfl, RidS.trans (Fr.of_below S HB1.out) (fun j hj => .inl hj) (RkW.newrow HD.out hC.out hO.out HMap.out rfl (hp.ok HD.out.ok) (hp.names HD.out) HQs.out)⟩
            refine ReadyC.cons rfl (fun K hK => ?_) ReadyC.nil
            go_simp
            refine hK _ _ (fun _ => hC.out.alloc hC.out.size _) ?_
            clear hK K
            (try simp only [Act.put])
            (try simp only [List.setIfInBounds_toArray])
            (try simp only [List.set_cons_succ])
            (try simp only [List.set_cons_zero])
            refine nameC (fun Wx2 hW => ?_)
            have hx : Below Wx1.heap.size Wx1 Wx2 := by rw [hW]; exact (Below.refl _ _).alloc (Nat.le_refl _) _
            have hLit0 : FRow Wx2 (some ⟨Wx1.heap.size, 0, none⟩) 1 [((n, ⟨bs, la⟩), Value.slice va bs.length vc)] := by rw [hW]; exact frow_lit Wx1 ((n, ⟨bs, la⟩), Value.slice va bs.length vc)
            obtain ⟨lg, hlg⟩ : ∃ lg, Wx1.heap.size = lg := ⟨_, rfl⟩
            rw [hlg] at hLit0 ⊢
            have hLit : Hid (FRow Wx2 (some ⟨lg, 0, none⟩) 1 [((n, ⟨bs, la⟩), Value.slice va bs.length vc)]) := hLit0
            have hLg : Hid (lg < Wx2.heap.size) := by show _ < _; rw [hW, ← hlg]; simp
            have hNe : Hid (some W0.heap.size ≠ some lg) := by intro e; have := Option.some.inj e; have h1 := hOl.out; omega
            replace hO := (show Hid (OwnF Wx2 W1.heap.size _ _) from OwnF.below hO.out hx)
            replace hC : Hid (Below W1.heap.size W1 Wx2) := hC.out.trans (hx.mono hC.out.size)
            clear hx hW hLit0 hlg
            refine readyC (rs := [8]) (by kernel_rfl) (by simp) ?_
            refine ReadyC.cons rfl (fun K hK => ?_) ReadyC.nil
            refine stepC_runs rfl (.tmp 55) (.tmp 61) rfl _ _ rfl rfl _ (app_files hO.out (HFk.out.below hC.out) HS1.out (by have := HLn.out; show 0 + k ≤ _; omega) hC.out.size HCn.out _) ?_
            intro v8 Wx3 hA
            obtain ⟨hA1, hA2, hA3, a8, m8, c8, hv, hm⟩ := hA
            subst hv
            refine hK _ _ (fun _ => hC.out.trans hA2) ?_
            clear hK K
            (try simp only [Act.put])
            (try simp only [List.setIfInBounds_toArray])
            (try simp only [List.set_cons_succ])
            (try simp only [List.set_cons_zero])
            rw [List.nil_append] at hA1
            replace hLit : Hid (FRow Wx3 (some ⟨lg, 0, none⟩) 1 [((n, ⟨bs, la⟩), Value.slice va bs.length vc)]) := hLit.out.grown hA3 hNe.out
            replace hO : Hid (OwnF Wx3 W1.heap.size (.slice a8 m8 c8) (l.take k)) := hA1
            replace hC : Hid (Below W1.heap.size W1 Wx3) := hC.out.trans hA2
            clear hA1 hA2 hA3 hm
            refine readyC (rs := [11]) (by kernel_rfl) (by simp) ?_
            refine ReadyC.cons rfl (fun K hK => ?_) ReadyC.nil
            refine stepC_runs rfl (.tmp 62) (.tmp 64) rfl _ _ rfl rfl _ (app_files hO.out hLit.out HS2.out (by have := HLn.out; rw [List.length_take]; omega) hC.out.size (fun h => nomatch h) _) ?_
            intro v11 Wx4 hA
            obtain ⟨hA1, hA2, hA3, a11, m11, c11, hv, hm⟩ := hA
            subst hv
            refine hK _ _ (fun _ => hC.out.trans hA2) ?_
            clear hK K
            (try simp only [Act.put])
            (try simp only [List.setIfInBounds_toArray])
            (try simp only [List.set_cons_succ])
            (try simp only [List.set_cons_zero])
            replace hO : Hid (OwnF Wx4 W1.heap.size (.slice a11 m11 c11) (l.take k ++ [((n, ⟨bs, la⟩), Value.slice va bs.length vc)])) := hA1
            replace hC : Hid (Below W1.heap.size W1 Wx4) := hC.out.trans hA2
            clear hA1 hA2 hA3 hm
            refine readyC (rs := [18]) (by kernel_rfl) (by simp) ?_
            refine ReadyC.cons rfl (fun K hK => ?_) ReadyC.nil
            refine stepC_runs rfl (.tmp 65) (.tmp 71) rfl _ _ rfl rfl _ (app_files hO.out (HFd.out.below hC.out) HS3.out (by have := HLn.out; have := HLl.out; rw [List.length_append, List.length_take, List.length_singleton]; omega) hC.out.size (frA_none HCn.out) _) ?_
            intro v18 Wx5 hA
            obtain ⟨hA1, hA2, hA3, a18, m18, c18, hv, hm⟩ := hA
            subst hv
            refine hK _ _ (fun _ => hC.out.trans hA2) ?_
            clear hK K
            (try simp only [Act.put])
            (try simp only [List.setIfInBounds_toArray])
            (try simp only [List.set_cons_succ])
            (try simp only [List.set_cons_zero])
            replace hO : Hid (OwnF Wx5 W1.heap.size (.slice a18 m18 c18) (l.take k ++ [((n, ⟨bs, la⟩), Value.slice va bs.length vc)] ++ l.drop k)) := hA1
            replace hC : Hid (Below W1.heap.size W1 Wx5) := hC.out.trans hA2
            clear hA1 hA2 hA3 hm
            refine takeC (i := 19) (v := ?_) rfl (by kernel_rfl) (by kernel_rfl) (by kernel_rfl) (by kernel_rfl) (by kernel_rfl) (fun _ _ _ h => h) hC.out (Or.inl ⟨by rfl, ?_⟩) ?_
            rotate_left 1
            · intro w' hw'
              skip
              go_simp
              first | done | with_reducible rfl
            (try simp only [Act.put])
            (try simp only [List.setIfInBounds_toArray])
            (try simp only [List.set_cons_succ])
            (try simp only [List.set_cons_zero])
            refine takeC (i := 20) (v := ?_) rfl (by kernel_rfl) (by kernel_rfl) (by kernel_rfl) (by kernel_rfl) (by kernel_rfl) (fun _ _ _ h => h) hC.out (Or.inl ⟨by rfl, ?_⟩) ?_
            rotate_left 1
            · intro w' hw'
              skip
              go_simp
              first | done | with_reducible rfl
            (try simp only [Act.put])
            (try simp only [List.setIfInBounds_toArray])
            (try simp only [List.set_cons_succ])
            (try simp only [List.set_cons_zero])
            refine readyC (rs := [21]) (by kernel_rfl) (by simp) ?_
            refine ReadyC.cons rfl (fun K hK => ?_) ReadyC.nil
            have z1 := HC1.out Wx5 hC.out
            have z2 := HFz.out Wx5 hC.out
            go_simp
            refine hK _ _ (fun h => absurd rfl h) ?_
            clear hK K
            (try simp only [Act.put])
            (try simp only [List.setIfInBounds_toArray])
            (try simp only [List.set_cons_succ])
            (try simp only [List.set_cons_zero])
            refine doneC (by kernel_rfl) ?_ _
            clear HC1c HYc
            go_end0
            refine ⟨rfl, RidS.trans (Fr.of_below S HB1.out) (fun j hj => .inl hj) (RkW.newrow HD.out hC.out hO.out HMap.out rfl (hp.ok HD.out.ok) (hp.names HD.out) HQs.out)⟩
          refine ReadyC.cons rfl (fun K hK => ?_) ReadyC.nil
          go_simp
          refine hK _ _ (fun _ => hC.out.alloc hC.out.size _) ?_
          clear hK K
          (try simp only [Act.put])
          (try simp only [List.setIfInBounds_toArray])
          (try simp only [List.set_cons_succ])
          (try simp only [List.set_cons_zero])
          refine nameC (fun Wx1 hW => ?_)
          have hx : Below W0.heap.size W0 Wx1 := by rw [hW]; exact (Below.refl _ _).alloc (Nat.le_refl _) _
          have hLit0 : FRow Wx1 (some ⟨W0.heap.size, 0, none⟩) 1 [((n, ⟨bs, la⟩), Value.slice va bs.length vc)] := by rw [hW]; exact frow_lit W0 ((n, ⟨bs, la⟩), Value.slice va bs.length vc)
          obtain ⟨lg, hlg⟩ : ∃ lg, W0.heap.size = lg := ⟨_, rfl⟩
          rw [hlg] at hLit0 ⊢
          have hLit : Hid (FRow Wx1 (some ⟨lg, 0, none⟩) 1 [((n, ⟨bs, la⟩), Value.slice va bs.length vc)]) := hLit0
          have hLg : Hid (lg < Wx1.heap.size) := by show _ < _; rw [hW, ← hlg]; simp
          replace hC : Hid (Below W1.heap.size W1 Wx1) := hC.out.trans (hx.mono hC.out.size)
          clear hx hW hLit0 hlg
          refine readyC (rs := [1]) (by kernel_rfl) (by simp) ?_
          refine ReadyC.cons rfl (fun K hK => ?_) ReadyC.nil
          go_simp
          refine hK _ _ (fun _ => hC.out.alloc hC.out.size _) ?_
          clear hK K
          (try simp only [Act.put])
          (try simp only [List.setIfInBounds_toArray])
          (try simp only [List.set_cons_succ])
          (try simp only [List.set_cons_zero])
          refine nameC (fun Wx2 hW => ?_)
          have hx : Below Wx1.heap.size Wx1 Wx2 := by rw [hW]; exact (Below.refl _ _).alloc (Nat.le_refl _) _
          have hO : Hid (OwnF Wx2 W1.heap.size (.slice (some ⟨Wx1.heap.size, 0, none⟩) 0 0) []) := by show OwnF _ _ _ _; rw [hW]; exact made_files _ _ hC.out.size
          have hOl : Hid (Wx1.heap.size < Wx2.heap.size) := by show _ < _; rw [hW]; simp
          have hNe : Hid (some Wx1.heap.size ≠ some lg) := by have := hLg.out; intro e; have := Option.some.inj e; omega
          replace hLit : Hid (FRow Wx2 (some ⟨lg, 0, none⟩) 1 [((n, ⟨bs, la⟩), Value.slice va bs.length vc)]) := hLit.out.below hx
          replace hC : Hid (Below W1.heap.size W1 Wx2) := hC.out.trans (hx.mono hC.out.size)
          clear hx hW
          refine readyC (rs := [8]) (by kernel_rfl) (by simp) ?_
          refine ReadyC.cons rfl (fun K hK => ?_) ReadyC.nil
          refine stepC_runs rfl (.tmp 55) (.tmp 61) rfl _ _ rfl rfl _ (app_files hO.out (HFk.out.below hC.out) HS1.out (by have := HLn.out; show 0 + k ≤ _; omega) hC.out.size HCn.out _) ?_
          intro v8 Wx3 hA
          obtain ⟨hA1, hA2, hA3, a8, m8, c8, hv, hm⟩ := hA
          subst hv
          refine hK _ _ (fun _ => hC.out.trans hA2) ?_
          clear hK K
          (try simp only [Act.put])
          (try simp only [List.setIfInBounds_toArray])
          (try simp only [List.set_cons_succ])
          (try simp only [List.set_cons_zero])
          rw [List.nil_append] at hA1
          replace hLit : Hid (FRow Wx3 (some ⟨lg, 0, none⟩) 1 [((n, ⟨bs, la⟩), Value.slice va bs.length vc)]) := hLit.out.grown hA3 hNe.out
          replace hO : Hid (OwnF Wx3 W1.heap.size (.slice a8 m8 c8) (l.take k)) := hA1
          replace hC : Hid (Below W1.heap.size W1 Wx3) := hC.out.trans hA2
          clear hA1 hA2 hA3 hm
          refine readyC (rs := [11]) (by kernel_rfl) (by simp) ?_
          refine ReadyC.cons rfl (fun K hK => ?_) ReadyC.nil
          refine stepC_runs rfl (.tmp 62) (.tmp 64) rfl _ _ rfl rfl _ (app_files hO.out hLit.out HS2.out (by have := HLn.out; rw [List.length_take]; omega) hC.out.size (fun h => nomatch h) _) ?_
          intro v11 Wx4 hA
          obtain ⟨hA1, hA2, hA3, a11, m11, c11, hv, hm⟩ := hA
          subst hv
          refine hK _ _ (fun _ => hC.out.trans hA2) ?_
          clear hK K
          (try simp only [Act.put])
          (try simp only [List.setIfInBounds_toArray])
          (try simp only [List.set_cons_succ])
          (try simp only [List.set_cons_zero])
          replace hO : Hid (OwnF Wx4 W1.heap.size (.slice a11 m11 c11) (l.take k ++ [((n, ⟨bs, la⟩), Value.slice va bs.length vc)])) := hA1
          replace hC : Hid (Below W1.heap.size W1 Wx4) := hC.out.trans hA2
          clear hA1 hA2 hA3 hm
          refine readyC (rs := [18]) (by kernel_rfl) (by simp) ?_
          refine ReadyC.cons rfl (fun K hK => ?_) ReadyC.nil
          refine stepC_runs rfl (.tmp 65) (.tmp 71) rfl _ _ rfl rfl _ (app_files hO.out (HFd.out.below hC.out) HS3.out (by have := HLn.out; have := HLl.out; rw [List.length_append, List.length_take, List.length_singleton]; omega) hC.out.size (frA_none HCn.out) _) ?_
          intro v18 Wx5 hA
          obtain ⟨hA1, hA2, hA3, a18, m18, c18, hv, hm⟩ := hA
          subst hv
          refine hK _ _ (fun _ => hC.out.trans hA2) ?_
          clear hK K
          (try simp only [Act.put])
          (try simp only [List.setIfInBounds_toArray])
          (try simp only [List.set_cons_succ])
          (try simp only [List.set_cons_zero])
          replace hO : Hid (OwnF Wx5 W1.heap.size (.slice a18 m18 c18) (l.take k ++ [((n, ⟨bs, la⟩), Value.slice va bs.length vc)] ++ l.drop k)) := hA1
          replace hC : Hid (Below W1.heap.size W1 Wx5) := hC.out.trans hA2
          clear hA1 hA2 hA3 hm
          refine takeC (i := 19) (v := ?_) rfl (by kernel_rfl) (by kernel_rfl) (by kernel_rfl) (by kernel_rfl) (by kernel_rfl) (fun _ _ _ h => h) hC.out (Or.inl ⟨by rfl, ?_⟩) ?_
          rotate_left 1
          · intro w' hw'
            skip
            go_simp
            first | done | with_reducible rfl
          (try simp only [Act.put])
          (try simp only [List.setIfInBounds_toArray])
          (try simp only [List.set_cons_succ])
          (try simp only [List.set_cons_zero])
          refine takeC (i := 20) (v := ?_) rfl (by kernel_rfl) (by kernel_rfl) (by kernel_rfl) (by kernel_rfl) (by kernel_rfl) (fun _ _ _ h => h) hC.out (Or.inl ⟨by rfl, ?_⟩) ?_
          rotate_left 1
          · intro w' hw'
            skip
            go_simp
            first | done | with_reducible rfl
          (try simp only [Act.put])
          (try simp only [List.setIfInBounds_toArray])
          (try simp only [List.set_cons_succ])
          (try simp only [List.set_cons_zero])
          refine readyC (rs := [21]) (by kernel_rfl) (by simp) ?_
          refine ReadyC.cons rfl (fun K hK => ?_) ReadyC.nil
          have z1 := HC1.out Wx5 hC.out
          have z2 := HFz.out Wx5 hC.out
          go_simp
          refine hK _ _ (fun h => absurd rfl h) ?_
          clear hK K
          (try simp only [Act.put])
          (try simp only [List.setIfInBounds_toArray])
          (try simp only [List.set_cons_succ])
          (try simp only [List.set_cons_zero])
          refine doneC (by kernel_rfl) ?_ _
          clear HC1c HYc
          go_end0
          refine ⟨rfl, RidS.trans (Fr.of_below S HB1.out) (fun j hj => .inl hj) (RkW.newrow HD.out hC.out hO.out HMap.out rfl (hp.ok HD.out.ok) (hp.names HD.out) HQs.out)⟩
    · have dlt : decide ((k : Int) < (L : Int)) = false := by simpa using hlt
      have hge : ¬ ((k : Int) < (L : Int)) := by omega
      have HPut : Hid (putA n (⟨bs, la⟩ : Fl) d.files = d.files.take k ++ (n, ⟨bs, la⟩) :: d.files.drop k) := (putA_pos HD.out.ok.rises k HK.out (fun p hp2 => absurd (List.getElem?_eq_some_iff.1 hp2).1 (by rw [← HD.out.len, ← HLl.out]; omega))).2 (fun p hp2 => absurd (List.getElem?_eq_some_iff.1 hp2).1 (by rw [← HD.out.len, ← HLl.out]; omega))
      obtain ⟨hn0, hcap, hcn, htk, hdk⟩ := RkW.frow HD.out
      have HFk : Hid (FRow W1 fa k (l.take k)) := htk k (by rw [← HLl.out]; exact hk)
      have HFd : Hid (FRow W1 (frA fa fc k) (L - k) (l.drop k)) := by show FRow _ _ _ _; rw [HLl.out]; exact hdk k (by rw [← HLl.out]; exact hk)
      have HCn : Hid (fa = none → fc = 0) := hcn
      have s1 := slice_toF fa L fc k hk (by rw [HLl.out]; exact hcap)
      have s2 := slice_fromF fa L fc k hk (by rw [HLl.out]; exact hcap)
      have HSh := (show Hid (Shaped l) from HD.out.shaped)
      have HS1 : Hid (Shaped (l.take k)) := fun q hq => HSh.out q (List.mem_of_mem_take hq)
      have HS2 : Hid (Shaped [((n, ⟨bs, la⟩), Value.slice va bs.length vc)]) := by
        intro q hq
        have : q = ((n, ⟨bs, la⟩), Value.slice va bs.length vc) := by simpa using hq
        subst this
        exact ⟨_, _, _, rfl⟩
      have HS3 : Hid (Shaped (l.drop k)) := fun q hq => HSh.out q (List.mem_of_mem_drop hq)
      have HLn : Hid (l.length ≤ 1048576 ∧ k ≤ l.length) := ⟨by rw [← HLl.out]; exact hfew, by rw [← HLl.out]; exact hk⟩
      have HC1 : Hid (∀ w', Below W1.heap.size W1 w' → w'.cell? ⟨b, 1, none⟩ = some (.slice fa L fc)) := fun w' hw' => by rw [HLl.out]; exact (HD.out.below hw').c1
      have HC1c := HC1.out
      have HFz : Hid (∀ w', Below W1.heap.size W1 w' → w'.frozen? ⟨b, 1, none⟩ = false) := fun w' hw' => (HD.out.below hw').fz 1
      have HYc : ∀ w', Below W1.heap.size W1 w' → w'.cell? ⟨w.heap.size, 0, none⟩ = some (strN n) ∧ w'.cell? ⟨w.heap.size, 1, none⟩ = some (.slice va bs.length vc) ∧ w'.cell? ⟨w.heap.size, 2, none⟩ = some (.int .i64 (la : Int)) := fun w' hw' => by
        have hq := (hw'.block _ (lt_blk HK1.out)).trans HK1.out
        exact ⟨cell_blk hq rfl, cell_blk hq rfl, cell_blk hq rfl⟩
      have HMap : Hid (List.map (·.1) (l.take k ++ [((n, ⟨bs, la⟩), Value.slice va bs.length vc)] ++ l.drop k) = putA n (⟨bs, la⟩ : Fl) d.files) := by
        show _ = _
        rw [HPut.out, List.map_append, List.map_append, List.map_take, List.map_drop, HD.out.files]
        simp
      have HQs : Hid (∀ q ∈ l.take k ++ [((n, ⟨bs, la⟩), Value.slice va bs.length vc)] ++ l.drop k, OwnB W1 0 q.2 q.1.2.bs ∧ ∀ g, q.2.ownBlock = some g → S g) := by
        intro q hq
        rcases List.mem_append.1 hq with hq | hq
        · rcases List.mem_append.1 hq with hq | hq
          · exact ⟨HD.out.bytes q (List.mem_of_mem_take hq), HD.out.sr q (List.mem_of_mem_take hq)⟩
          · have : q = ((n, ⟨bs, la⟩), Value.slice va bs.length vc) := by simpa using hq
            subst this
            exact ⟨HV.out, hvS⟩
        · exact ⟨HD.out.bytes q (List.mem_of_mem_drop hq), HD.out.sr q (List.mem_of_mem_drop hq)⟩
      clear hn0 hcap hcn htk hdk
      go_wp2
      go_quiet (fail)
      go_wp2
      go_quiet (fail)
      go_wp2
      clear c1 y0
      refine regionC (fun w' => Below W1.heap.size W1 w') 21 (by kernel_rfl) ?_
      (try (change wpAnyC _ _ _ _ _ _ _ _ _ (World.drew _)))
      refine nameC (fun W0 hW0 => ?_)
      have hC : Hid (Below W1.heap.size W1 W0) := by show Below _ _ _; rw [hW0]; exact ⟨rfl, rfl, rfl, Nat.le_refl _, fun _ _ => rfl⟩
      clear hW0
      refine takeC (i := 0) (v := ?_) rfl (by kernel_rfl) (by kernel_rfl) (by kernel_rfl) (by kernel_rfl) (by kernel_rfl) (fun _ _ _ h => h) hC.out (Or.inl ⟨by rfl, ?_⟩) ?_
      rotate_left 1
      · intro w' hw'
        skip
        go_simp
        first | done | with_reducible rfl
      (try simp only [Act.put])
      (try simp only [List.setIfInBounds_toArray])
      (try simp only [List.set_cons_succ])
      (try simp only [List.set_cons_zero])
      refine takeC (i := 2) (v := ?_) rfl (by kernel_rfl) (by kernel_rfl) (by kernel_rfl) (by kernel_rfl) (by kernel_rfl) (fun _ _ _ h => h) hC.out (Or.inl ⟨by rfl, ?_⟩) ?_
      rotate_left 1
      · intro w' hw'
        skip
        go_simp
        first | done | with_reducible rfl
      (try simp only [Act.put])
      (try simp only [List.setIfInBounds_toArray])
      (try simp only [List.set_cons_succ])
      (try simp only [List.set_cons_zero])
      refine takeC (i := 3) (v := ?_) rfl (by kernel_rfl) (by kernel_rfl) (by kernel_rfl) (by kernel_rfl) (by kernel_rfl) (fun _ _ _ h => h) hC.out (Or.inl ⟨by rfl, ?_⟩) ?_
      rotate_left 1
      · intro w' hw'
        skip
        go_simp
        first | done | with_reducible rfl
      (try simp only [Act.put])
      (try simp only [List.setIfInBounds_toArray])
      (try simp only [List.set_cons_succ])
      (try simp only [List.set_cons_zero])
      refine takeC (i := 4) (v := ?_) rfl (by kernel_rfl) (by kernel_rfl) (by kernel_rfl) (by kernel_rfl) (by kernel_rfl) (fun _ _ _ h => h) hC.out (Or.inl ⟨by rfl, ?_⟩) ?_
      rotate_left 1
      · intro w' hw'
        skip
        go_simp
        first | done | with_reducible rfl
      (try simp only [Act.put])
      (try simp only [List.setIfInBounds_toArray])
      (try simp only [List.set_cons_succ])
      (try simp only [List.set_cons_zero])
      refine takeC (i := 5) (v := ?_) rfl (by kernel_rfl) (by kernel_rfl) (by kernel_rfl) (by kernel_rfl) (by kernel_rfl) (fun _ _ _ h => h) hC.out (Or.inl ⟨by rfl, ?_⟩) ?_
      rotate_left 1
      · intro w' hw'
        have z0 := HC1c w' hw'; have z1 := HYc w' hw'
        go_simp
        first | done | with_reducible rfl
      (try simp only [Act.put])
      (try simp only [List.setIfInBounds_toArray])
      (try simp only [List.set_cons_succ])
      (try simp only [List.set_cons_zero])
      refine takeC (i := 6) (v := ?_) rfl (by kernel_rfl) (by kernel_rfl) (by kernel_rfl) (by kernel_rfl) (by kernel_rfl) (fun _ _ _ h => h) hC.out (Or.inl ⟨by rfl, ?_⟩) ?_
      rotate_left 1
      · intro w' hw'
        skip
        go_simp
        first | done | with_reducible rfl
      (try simp only [Act.put])
      (try simp only [List.setIfInBounds_toArray])
      (try simp only [List.set_cons_succ])
      (try simp only [List.set_cons_zero])
      refine takeC (i := 7) (v := ?_) rfl (by kernel_rfl) (by kernel_rfl) (by kernel_rfl) (by kernel_rfl) (by kernel_rfl) (fun _ _ _ h => h) hC.out (Or.inl ⟨by rfl, ?_⟩) ?_
      rotate_left 1
      · intro w' hw'
        skip
        go_simp
        first | done | with_reducible rfl
      (try simp only [Act.put])
      (try simp only [List.setIfInBounds_toArray])
      (try simp only [List.set_cons_succ])
      (try simp only [List.set_cons_zero])
      refine takeC (i := 9) (v := ?_) rfl (by kernel_rfl) (by kernel_rfl) (by kernel_rfl) (by kernel_rfl) (by kernel_rfl) (fun _ _ _ h => h) hC.out (Or.inl ⟨by rfl, ?_⟩) ?_
      rotate_left 1
      · intro w' hw'
        have z0 := HC1c w' hw'; have z1 := HYc w' hw'
        go_simp
        first | done | with_reducible rfl
      (try simp only [Act.put])
      (try simp only [List.setIfInBounds_toArray])
      (try simp only [List.set_cons_succ])
      (try simp only [List.set_cons_zero])
      refine takeC (i := 12) (v := ?_) rfl (by kernel_rfl) (by kernel_rfl) (by kernel_rfl) (by kernel_rfl) (by kernel_rfl) (fun _ _ _ h => h) hC.out (Or.inl ⟨by rfl, ?_⟩) ?_
      rotate_left 1
      · intro w' hw'
        skip
        go_simp
        first | done | with_reducible rfl
      (try simp only [Act.put])
      (try simp only [List.setIfInBounds_toArray])
      (try simp only [List.set_cons_succ])
      (try simp only [List.set_cons_zero])
      refine takeC (i := 13) (v := ?_) rfl (by kernel_rfl) (by kernel_rfl) (by kernel_rfl) (by kernel_rfl) (by kernel_rfl) (fun _ _ _ h => h) hC.out (Or.inl ⟨by rfl, ?_⟩) ?_
      rotate_left 1
      · intro w' hw'
        skip
        go_simp
        first | done | with_reducible rfl
      (try simp only [Act.put])
      (try simp only [List.setIfInBounds_toArray])
      (try simp only [List.set_cons_succ])
      (try simp only [List.set_cons_zero])
      refine takeC (i := 14) (v := ?_) rfl (by kernel_rfl) (by kernel_rfl) (by kernel_rfl) (by kernel_rfl) (by kernel_rfl) (fun _ _ _ h => h) hC.out (Or.inl ⟨by rfl, ?_⟩) ?_
      rotate_left 1
      · intro w' hw'
        skip
        go_simp
        first | done | with_reducible rfl
      (try simp only [Act.put])
      (try simp only [List.setIfInBounds_toArray])
      (try simp only [List.set_cons_succ])
      (try simp only [List.set_cons_zero])
      refine takeC (i := 15) (v := ?_) rfl (by kernel_rfl) (by kernel_rfl) (by kernel_rfl) (by kernel_rfl) (by kernel_rfl) (fun _ _ _ h => h) hC.out (Or.inl ⟨by rfl, ?_⟩) ?_
      rotate_left 1
      · intro w' hw'
        have z0 := HC1c w' hw'; have z1 := HYc w' hw'
        go_simp
        first | done | with_reducible rfl
      (try simp only [Act.put])
      (try simp only [List.setIfInBounds_toArray])
      (try simp only [List.set_cons_succ])
      (try simp only [List.set_cons_zero])
      refine takeC (i := 16) (v := ?_) rfl (by kernel_rfl) (by kernel_rfl) (by kernel_rfl) (by kernel_rfl) (by kernel_rfl) (fun _ _ _ h => h) hC.out (Or.inl ⟨by rfl, ?_⟩) ?_
      rotate_left 1
      · intro w' hw'
        skip
        go_simp
        first | done | with_reducible rfl
      (try simp only [Act.put])
      (try simp only [List.setIfInBounds_toArray])
      (try simp only [List.set_cons_succ])
      (try simp only [List.set_cons_zero])
      refine takeC (i := 17) (v := ?_) rfl (by kernel_rfl) (by kernel_rfl) (by kernel_rfl) (by kernel_rfl) (by kernel_rfl) (fun _ _ _ h => h) hC.out (Or.inl ⟨by rfl, ?_⟩) ?_
      rotate_left 1
      · intro w' hw'
        skip
        go_simp
        first | done | with_reducible rfl
      (try simp only [Act.put])
      (try simp only [List.setIfInBounds_toArray])
      (try simp only [List.set_cons_succ])
      (try simp only [List.set_cons_zero])
      refine readyC (rs := [1, 10]) (by kernel_rfl) (by simp) ?_
      refine ReadyC.cons rfl (fun K hK => ?_) ?_
      · go_simp
        refine hK _ _ (fun _ => hC.out.alloc hC.out.size _) ?_
        clear hK K
        (try simp only [Act.put])
        (try simp only [List.setIfInBounds_toArray])
        (try simp only [List.set_cons_succ])
        (try simp only [List.set_cons_zero])
        refine nameC (fun Wx1 hW => ?_)
        have hx : Below W0.heap.size W0 Wx1 := by rw [hW]; exact (Below.refl _ _).alloc (Nat.le_refl _) _
        have hO : Hid (OwnF Wx1 W1.heap.size (.slice (some ⟨W0.heap.size, 0, none⟩) 0 0) []) := by show OwnF _ _ _ _; rw [hW]; exact made_files _ _ hC.out.size
        have hOl : Hid (W0.heap.size < Wx1.heap.size) := by show _ < _; rw [hW]; simp
        replace hC : Hid (Below W1.heap.size W1 Wx1) := hC.out.trans (hx.mono hC.out.size)
        clear hx hW
        refine readyC (rs := [8, 10]) (by kernel_rfl) (by simp) ?_
        refine ReadyC.cons rfl (fun K hK => ?_) ?_
        · refine stepC_runs rfl (.tmp 55) (.tmp 61) rfl _ _ rfl rfl _ (app_files hO.out (HFk.out.below hC.out) HS1.out (by have := HLn.out; show 0 + k ≤ _; omega) hC.out.size HCn.out _) ?_
          intro v8 Wx2 hA
          obtain ⟨hA1, hA2, hA3, a8, m8, c8, hv, hm⟩ := hA
          subst hv
          refine hK _ _ (fun _ => hC.out.trans hA2) ?_
          clear hK K
          (try simp only [Act.put])
          (try simp only [List.setIfInBounds_toArray])
          (try simp only [List.set_cons_succ])
          (try simp only [List.set_cons_zero])
          rw [List.nil_append] at hA1
          replace hO : Hid (OwnF Wx2 W1.heap.size (.slice a8 m8 c8) (l.take k)) := hA1
          replace hC : Hid (Below W1.heap.size W1 Wx2) := hC.out.trans hA2
          clear hA1 hA2 hA3 hm
          refine readyC (rs := [10]) (by kernel_rfl) (by simp) ?_
          refine ReadyC.cons rfl (fun K hK => ?_) ReadyC.nil
          go_simp
          refine hK _ _ (fun _ => hC.out.alloc hC.out.size _) ?_
          clear hK K
          (try simp only [Act.put])
          (try simp only [List.setIfInBounds_toArray])
          (try simp only [List.set_cons_succ])
          (try simp only [List.set_cons_zero])
          refine nameC (fun Wx3 hW => ?_)
          have hx : Below Wx2.heap.size Wx2 Wx3 := by rw [hW]; exact (Below.refl _ _).alloc (Nat.le_refl _) _
          have hLit0 : FRow Wx3 (some ⟨Wx2.heap.size, 0, none⟩) 1 [((n, ⟨bs, la⟩), Value.slice va bs.length vc)] := by rw [hW]; exact frow_lit Wx2 ((n, ⟨bs, la⟩), Value.slice va bs.length vc)
          obtain ⟨lg, hlg⟩ : ∃ lg, Wx2.heap.size = lg := ⟨_, rfl⟩
          rw [hlg] at hLit0 ⊢
          have hLit : Hid (FRow Wx3 (some ⟨lg, 0, none⟩) 1 [((n, ⟨bs, la⟩), Value.slice va bs.length vc)]) := hLit0
          have hLg : Hid (lg < Wx3.heap.size) := by show _ < _; rw [hW, ← hlg]; simp
          replace hO := (show Hid (OwnF Wx3 W1.heap.size _ _) from OwnF.below hO.out hx)
          replace hC : Hid (Below W1.heap.size W1 Wx3) := hC.out.trans (hx.mono hC.out.size)
          clear hx hW hLit0 hlg
          refine readyC (rs := [11]) (by kernel_rfl) (by simp) ?_
          refine ReadyC.cons rfl (fun K hK => ?_) ReadyC.nil
          refine stepC_runs rfl (.tmp 62) (.tmp 64) rfl _ _ rfl rfl _ (app_files hO.out hLit.out HS2.out (by have := HLn.out; rw [List.length_take]; omega) hC.out.size (fun h => nomatch h) _) ?_
          intro v11 Wx4 hA
          obtain ⟨hA1, hA2, hA3, a11, m11, c11, hv, hm⟩ := hA
          subst hv
          refine hK _ _ (fun _ => hC.out.trans hA2) ?_
          clear hK K
          (try simp only [Act.put])
          (try simp only [List.setIfInBounds_toArray])
          (try simp only [List.set_cons_succ])
          (try simp only [List.set_cons_zero])
          replace hO : Hid (OwnF Wx4 W1.heap.size (.slice a11 m11 c11) (l.take k ++ [((n, ⟨bs, la⟩), Value.slice va bs.length vc)])) := hA1
          replace hC : Hid (Below W1.heap.size W1 Wx4) := hC.out.trans hA2
          clear hA1 hA2 hA3 hm
          refine readyC (rs := [18]) (by kernel_rfl) (by simp) ?_
          refine ReadyC.cons rfl (fun K hK => ?_) ReadyC.nil
          refine stepC_runs rfl (.tmp 65) (.tmp 71) rfl _ _ rfl rfl _ (app_files hO.out (HFd.out.below hC.out) HS3.out (by have := HLn.out; have := HLl.out; rw [List.length_append, List.length_take, List.length_singleton]; omega) hC.out.size (frA_none HCn.out) _) ?_
          intro v18 Wx5 hA
          obtain ⟨hA1, hA2, hA3, a18, m18, c18, hv, hm⟩ := hA
          subst hv
          refine hK _ _ (fun _ => hC.out.trans hA2) ?_
          clear hK K
          (try simp only [Act.put])
          (try simp only [List.setIfInBounds_toArray])
          (try simp only [List.set_cons_succ])
          (try simp only [List.set_cons_zero])
          replace hO : Hid (OwnF Wx5 W1.heap.size (.slice a18 m18 c18) (l.take k ++ [((n, ⟨bs, la⟩), Value.slice va bs.length vc)] ++ l.drop k)) := hA1
          replace hC : Hid (Below W1.heap.size W1 Wx5) := hC.out.trans hA2
          clear hA1 hA2 hA3 hm
          refine takeC (i := 19) (v := ?_) rfl (by kernel_rfl) (by kernel_rfl) (by kernel_rfl) (by kernel_rfl) (by kernel_rfl) (fun _ _ _ h => h) hC.out (Or.inl ⟨by rfl, ?_⟩) ?_
          rotate_left 1
          · intro w' hw'
            skip
            go_simp
            first | done | with_reducible rfl
          (try simp only [Act.put])
          (try simp only [List.setIfInBounds_toArray])
          (try simp only [List.set_cons_succ])
          (try simp only [List.set_cons_zero])
          refine takeC (i := 20) (v := ?_) rfl (by kernel_rfl) (by kernel_rfl) (by kernel_rfl) (by kernel_rfl) (by kernel_rfl) (fun _ _ _ h => h) hC.out (Or.inl ⟨by rfl, ?_⟩) ?_
          rotate_left 1
          · intro w' hw'
            skip
            go_simp
            first | done | with_reducible rfl
          (try simp only [Act.put])
          (try simp only [List.setIfInBounds_toArray])
          (try simp only [List.set_cons_succ])
          (try simp only [List.set_cons_zero])
          refine readyC (rs := [21]) (by kernel_rfl) (by simp) ?_
          refine ReadyC.cons rfl (fun K hK => ?_) ReadyC.nil
          have z1 := HC1.out Wx5 hC.out
          have z2 := HFz.out Wx5 hC.out
          go_simp
          refine hK _ _ (fun h => absurd rfl h) ?_
          clear hK K
          (try simp only [Act.put])
          (try simp only [List.setIfInBounds_toArray])
          (try simp only [List.set_cons_succ])
          (try simp only [List.set_cons_zero])
          refine doneC (by kernel_rfl) ?_ _
          clear HC1c HYc
          go_end0
          refine ⟨rfl, RidS.trans (Fr.of_below S HB1.out) (fun j hj => .inl hj) (RkW.newrow HD.out hC.out hO.out HMap.out rfl (hp.ok HD.out.ok) (hp.names HD.out) HQs.out)⟩
        refine ReadyC.cons rfl (fun K hK => ?_) ReadyC.nil
        go_simp
        refine hK _ _ (fun _ => hC.out.alloc hC.out.size _) ?_
        clear hK K
        (try simp only [Act.put])
        (try simp only [List.setIfInBounds_toArray])
        (try simp only [List.set_cons_succ])
        (try simp only [List.set_cons_zero])
        refine nameC (fun Wx2 hW => ?_)
        have hx : Below Wx1.heap.size Wx1 Wx2 := by rw [hW]; exact (Below.refl _ _).alloc (Nat.le_refl _) _
        have hLit0 : FRow Wx2 (some ⟨Wx1.heap.size, 0, none⟩) 1 [((n, ⟨bs, la⟩), Value.slice va bs.length vc)] := by rw [hW]; exact frow_lit Wx1 ((n, ⟨bs, la⟩), Value.slice va bs.length vc)
        obtain ⟨lg, hlg⟩ : ∃ lg, Wx1.heap.size = lg := ⟨_, rfl⟩
        rw [hlg] at hLit0 ⊢
        have hLit : Hid (FRow Wx2 (some ⟨lg, 0, none⟩) 1 [((n, ⟨bs, la⟩), Value.slice va bs.length vc)]) := hLit0
        have hLg : Hid (lg < Wx2.heap.size) := by show _ < _; rw [hW, ← hlg]; simp
        have hNe : Hid (some W0.heap.size ≠ some lg) := by intro e; have := Option.some.inj e; have h1 := hOl.out; omega
        replace hO := (show Hid (OwnF Wx2 W1.heap.size _ _) from OwnF.below hO.out hx)
        replace hC : Hid (Below W1.heap.size W1 Wx2) := hC.out.trans (hx.mono hC.out.size)
        clear hx hW hLit0 hlg
        refine readyC (rs := [8]) (by kernel_rfl) (by simp) ?_
        refine ReadyC.cons rfl (fun K hK => ?_) ReadyC.nil
        refine stepC_runs rfl (.tmp 55) (.tmp 61) rfl _ _ rfl rfl _ (app_files hO.out (HFk.out.below hC.out) HS1.out (by have := HLn.out; show 0 + k ≤ _; omega) hC.out.size HCn.out _) ?_
        intro v8 Wx3 hA
        obtain ⟨hA1, hA2, hA3, a8, m8, c8, hv, hm⟩ := hA
        subst hv
        refine hK _ _ (fun _ => hC.out.trans hA2) ?_
        clear hK K
        (try simp only [Act.put])
        (try simp only [List.setIfInBounds_toArray])
        (try simp only [List.set_cons_succ])
        (try simp only [List.set_cons_zero])
        rw [List.nil_append] at hA1
        replace hLit : Hid (FRow Wx3 (some ⟨lg, 0, none⟩) 1 [((n, ⟨bs, la⟩), Value.slice va bs.length vc)]) := hLit.out.grown hA3 hNe.out
        replace hO : Hid (OwnF Wx3 W1.heap.size (.slice a8 m8 c8) (l.take k)) := hA1
        replace hC : Hid (Below W1.heap.size W1 Wx3) := hC.out.trans hA2
        clear hA1 hA2 hA3 hm
        refine readyC (rs := [11]) (by kernel_rfl) (by simp) ?_
        refine ReadyC.cons rfl (fun K hK => ?_) ReadyC.nil
        refine stepC_runs rfl (.tmp 62) (.tmp 64) rfl _ _ rfl rfl _ (app_files hO.out hLit.out HS2.out (by have := HLn.out; rw [List.length_take]; omega) hC.out.size (fun h => nomatch h) _) ?_
        intro v11 Wx4 hA
        obtain ⟨hA1, hA2, hA3, a11, m11, c11, hv, hm⟩ := hA
        subst hv
        refine hK _ _ (fun _ => hC.out.trans hA2) ?_
        clear hK K
        (try simp only [Act.put])
        (try simp only [List.setIfInBounds_toArray])
        (try simp only [List.set_cons_succ])
        (try simp only [List.set_cons_zero])
        replace hO : Hid (OwnF Wx4 W1.heap.size (.slice a11 m11 c11) (l.take k ++ [((n, ⟨bs, la⟩), Value.slice va bs.length vc)])) := hA1
        replace hC : Hid (Below W1.heap.size W1 Wx4) := hC.out.trans hA2
        clear hA1 hA2 hA3 hm
        refine readyC (rs := [18]) (by kernel_rfl) (by simp) ?_
        refine ReadyC.cons rfl (fun K hK => ?_) ReadyC.nil
        refine stepC_runs rfl (.tmp 65) (.tmp 71) rfl _ _ rfl rfl _ (app_files hO.out (HFd.out.below hC.out) HS3.out (by have := HLn.out; have := HLl.out; rw [List.length_append, List.length_take, List.length_singleton]; omega) hC.out.size (frA_none HCn.out) _) ?_
        intro v18 Wx5 hA
        obtain ⟨hA1, hA2, hA3, a18, m18, c18, hv, hm⟩ := hA
        subst hv
        refine hK _ _ (fun _ => hC.out.trans hA2) ?_
        clear hK K
        (try simp only [Act.put])
        (try simp only [List.setIfInBounds_toArray])
        (try simp only [List.set_cons_succ])
        (try simp only [List.set_cons_zero])
        replace hO : Hid (OwnF Wx5 W1.heap.size (.slice a18 m18 c18) (l.take k ++ [((n, ⟨bs, la⟩), Value.slice va bs.length vc)] ++ l.drop k)) := hA1
        replace hC : Hid (Below W1.heap.size W1 Wx5) := hC.out.trans hA2
        clear hA1 hA2 hA3 hm
        refine takeC (i := 19) (v := ?_) rfl (by kernel_rfl) (by kernel_rfl) (by kernel_rfl) (by kernel_rfl) (by kernel_rfl) (fun _ _ _ h => h) hC.out (Or.inl ⟨by rfl, ?_⟩) ?_
        rotate_left 1
        · intro w' hw'
          skip
          go_simp
          first | done | with_reducible rfl
        (try simp only [Act.put])
        (try simp only [List.setIfInBounds_toArray])
        (try simp only [List.set_cons_succ])
        (try simp only [List.set_cons_zero])
        refine takeC (i := 20) (v := ?_) rfl (by kernel_rfl) (by kernel_rfl) (by kernel_rfl) (by kernel_rfl) (by kernel_rfl) (fun _ _ _ h => h) hC.out (Or.inl ⟨by rfl, ?_⟩) ?_
        rotate_left 1
        · intro w' hw'
          skip
          go_simp
          first | done | with_reducible rfl
        (try simp only [Act.put])
        (try simp only [List.setIfInBounds_toArray])
        (try simp only [List.set_cons_succ])
        (try simp only [List.set_cons_zero])
        refine readyC (rs := [21]) (by kernel_rfl) (by simp) ?_
        refine ReadyC.cons rfl (fun K hK => ?_) ReadyC.nil
        have z1 := HC1.out Wx5 hC.out
        have z2 := HFz.out Wx5 hC.out
        go_simp
        refine hK _ _ (fun h => absurd rfl h) ?_
        clear hK K
        (try simp only [Act.put])
        (try simp only [List.setIfInBounds_toArray])
        (try simp only [List.set_cons_succ])
        (try simp only [List.set_cons_zero])
        refine doneC (by kernel_rfl) ?_ _
        clear HC1c HYc
        go_end0
        refine ⟨rfl, RidS.trans (Fr.of_below S HB1.out) (fun j hj => .inl hj) (RkW.newrow HD.out hC.out hO.out HMap.out rfl (hp.ok HD.out.ok) (hp.names HD.out) HQs.out)⟩
      refine ReadyC.cons rfl (fun K hK => ?_) ReadyC.nil
      go_simp
      refine hK _ _ (fun _ => hC.out.alloc hC.out.size _) ?_
      clear hK K
      (try simp only [Act.put])
      (try simp only [List.setIfInBounds_toArray])
      (try simp only [List.set_cons_succ])
      (try simp only [List.set_cons_zero])
      refine nameC (fun Wx1 hW => ?_)
      have hx : Below W0.heap.size W0 Wx1 := by rw [hW]; exact (Below.refl _ _).alloc (Nat.le_refl _) _
      have hLit0 : FRow Wx1 (some ⟨W0.heap.size, 0, none⟩) 1 [((n, ⟨bs, la⟩), Value.slice va bs.length vc)] := by rw [hW]; exact frow_lit W0 ((n, ⟨bs, la⟩), Value.slice va bs.length vc)
      obtain ⟨lg, hlg⟩ : ∃ lg, W0.heap.size = lg := ⟨_, rfl⟩
      rw [hlg] at hLit0 ⊢
      have hLit : Hid (FRow Wx1 (some ⟨lg, 0, none⟩) 1 [((n, ⟨bs, la⟩), Value.slice va bs.length vc)]) := hLit0
      have hLg : Hid (lg < Wx1.heap.size) := by show _ < _; rw [hW, ← hlg]; simp
      replace hC : Hid (Below W1.heap.size W1 Wx1) := hC.out.trans (hx.mono hC.out.size)
      clear hx hW hLit0 hlg
      refine readyC (rs := [1]) (by kernel_rfl) (by simp) ?_
      refine ReadyC.cons rfl (fun K hK => ?_) ReadyC.nil
      go_simp
      refine hK _ _ (fun _ => hC.out.alloc hC.out.size _) ?_
      clear hK K
      (try simp only [Act.put])
      (try simp only [List.setIfInBounds_toArray])
      (try simp only [List.set_cons_succ])
      (try simp only [List.set_cons_zero])
      refine nameC (fun Wx2 hW => ?_)
      have hx : Below Wx1.heap.size Wx1 Wx2 := by rw [hW]; exact (Below.refl _ _).alloc (Nat.le_refl _) _
      have hO : Hid (OwnF Wx2 W1.heap.size (.slice (some ⟨Wx1.heap.size, 0, none⟩) 0 0) []) := by show OwnF _ _ _ _; rw [hW]; exact made_files _ _ hC.out.size
      have hOl : Hid (Wx1.heap.size < Wx2.heap.size) := by show _ < _; rw [hW]; simp
      have hNe : Hid (some Wx1.heap.size ≠ some lg) := by have := hLg.out; intro e; have := Option.some.inj e; omega
      replace hLit : Hid (FRow Wx2 (some ⟨lg, 0, none⟩) 1 [((n, ⟨bs, la⟩), Value.slice va bs.length vc)]) := hLit.out.below hx
      replace hC : Hid (Below W1.heap.size W1 Wx2) := hC.out.trans (hx.mono hC.out.size)
      clear hx hW
      refine readyC (rs := [8]) (by kernel_rfl) (by simp) ?_
      refine ReadyC.cons rfl (fun K hK => ?_) ReadyC.nil
      refine stepC_runs rfl (.tmp 55) (.tmp 61) rfl _ _ rfl rfl _ (app_files hO.out (HFk.out.below hC.out) HS1.out (by have := HLn.out; show 0 + k ≤ _; omega) hC.out.size HCn.out _) ?_
      intro v8 Wx3 hA
      obtain ⟨hA1, hA2, hA3, a8, m8, c8, hv, hm⟩ := hA
      subst hv
      refine hK _ _ (fun _ => hC.out.trans hA2) ?_
      clear hK K
      (try simp only [Act.put])
      (try simp only [List.setIfInBounds_toArray])
      (try simp only [List.set_cons_succ])
      (try simp only [List.set_cons_zero])
      rw [List.nil_append] at hA1
      replace hLit : Hid (FRow Wx3 (some ⟨lg, 0, none⟩) 1 [((n, ⟨bs, la⟩), Value.slice va bs.length vc)]) := hLit.out.grown hA3 hNe.out
      replace hO : Hid (OwnF Wx3 W1.heap.size (.slice a8 m8 c8) (l.take k)) := hA1
      replace hC : Hid (Below W1.heap.size W1 Wx3) := hC.out.trans hA2
      clear hA1 hA2 hA3 hm
      refine readyC (rs := [11]) (by kernel_rfl) (by simp) ?_
      refine ReadyC.cons rfl (fun K hK => ?_) ReadyC.nil
      refine stepC_runs rfl (.tmp 62) (.tmp 64) rfl _ _ rfl rfl _ (app_files hO.out hLit.out HS2.out (by have := HLn.out; rw [List.length_take]; omega) hC.out.size (fun h => nomatch h) _) ?_
      intro v11 Wx4 hA
      obtain ⟨hA1, hA2, hA3, a11, m11, c11, hv, hm⟩ := hA
      subst hv
      refine hK _ _ (fun _ => hC.out.trans hA2) ?_
      clear hK K
      (try simp only [Act.put])
      (try simp only [List.setIfInBounds_toArray])
      (try simp only [List.set_cons_succ])
      (try simp only [List.set_cons_zero])
      replace hO : Hid (OwnF Wx4 W1.heap.size (.slice a11 m11 c11) (l.take k ++ [((n, ⟨bs, la⟩), Value.slice va bs.length vc)])) := hA1
      replace hC : Hid (Below W1.heap.size W1 Wx4) := hC.out.trans hA2
      clear hA1 hA2 hA3 hm
      refine readyC (rs := [18]) (by kernel_rfl) (by simp) ?_
      refine ReadyC.cons rfl (fun K hK => ?_) ReadyC.nil
      refine stepC_runs rfl (.tmp 65) (.tmp 71) rfl _ _ rfl rfl _ (app_files hO.out (HFd.out.below hC.out) HS3.out (by have := HLn.out; have := HLl.out; rw [List.length_append, List.length_take, List.length_singleton]; omega) hC.out.size (frA_none HCn.out) _) ?_
      intro v18 Wx5 hA
      obtain ⟨hA1, hA2, hA3, a18, m18, c18, hv, hm⟩ := hA
      subst hv
      refine hK _ _ (fun _ => hC.out.trans hA2) ?_
      clear hK K
      (try simp only [Act.put])
      (try simp only [List.setIfInBounds_toArray])
      (try simp only [List.set_cons_succ])
      (try simp only [List.set_cons_zero])
      replace hO : Hid (OwnF Wx5 W1.heap.size (.slice a18 m18 c18) (l.take k ++ [((n, ⟨bs, la⟩), Value.slice va bs.length vc)] ++ l.drop k)) := hA1
      replace hC : Hid (Below W1.heap.size W1 Wx5) := hC.out.trans hA2
      clear hA1 hA2 hA3 hm
      refine takeC (i := 19) (v := ?_) rfl (by kernel_rfl) (by kernel_rfl) (by kernel_rfl) (by kernel_rfl) (by kernel_rfl) (fun _ _ _ h => h) hC.out (Or.inl ⟨by rfl, ?_⟩) ?_
      rotate_left 1
      · intro w' hw'
        skip
        go_simp
        first | done | with_reducible rfl
      (try simp only [Act.put])
      (try simp only [List.setIfInBounds_toArray])
      (try simp only [List.set_cons_succ])
      (try simp only [List.set_cons_zero])
      refine takeC (i := 20) (v := ?_) rfl (by kernel_rfl) (by kernel_rfl) (by kernel_rfl) (by kernel_rfl) (by kernel_rfl) (fun _ _ _ h => h) hC.out (Or.inl ⟨by rfl, ?_⟩) ?_
      rotate_left 1
      · intro w' hw'
        skip
        go_simp
        first | done | with_reducible rfl
      (try simp only [Act.put])
      (try simp only [List.setIfInBounds_toArray])
      (try simp only [List.set_cons_succ])
      (try simp only [List.set_cons_zero])
      refine readyC (rs := [21]) (by kernel_rfl) (by simp) ?_
      refine ReadyC.cons rfl (fun K hK => ?_) ReadyC.nil
      have z1 := HC1.out Wx5 hC.out
      have z2 := HFz.out Wx5 hC.out
      go_simp
      refine hK _ _ (fun h => absurd rfl h) ?_
      clear hK K
      (try simp only [Act.put])
      (try simp only [List.setIfInBounds_toArray])
      (try simp only [List.set_cons_succ])
      (try simp only [List.set_cons_zero])
      refine doneC (by kernel_rfl) ?_ _
      clear HC1c HYc
      go_end0
      refine ⟨rfl, RidS.trans (Fr.of_below S HB1.out) (fun j hj => .inl hj) (RkW.newrow HD.out hC.out hO.out HMap.out rfl (hp.ok HD.out.ok) (hp.names HD.out) HQs.out)⟩
end Go.Proofs.Ytmkgaegodemglaa
