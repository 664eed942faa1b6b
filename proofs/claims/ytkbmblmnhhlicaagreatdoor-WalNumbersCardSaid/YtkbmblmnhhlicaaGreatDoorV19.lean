/- Several texts in one. -/
import Derived.Test.YtkbmblmnhhlicaaGreatDoorV03
import Derived.Deep.CutRange
import Derived.Test.YtkbmblmnhhlicaaGreatDoorV18
set_option linter.unusedVariables false
/- Append, walked: a segment with room. -/
namespace Go.Proofs.YtkbmblmnhhlicaaGreatDoor
open Go.RowKit

set_option maxHeartbeats 8000000 in
set_option maxRecDepth 40000 in
theorem wapp_room {w0 w : World} {b m : Nat} {S : Nat → Prop} {d : Dk} {p : Nat} {T : Nat → Prop} {vs : Value} {q : Sgs} {N : Nat} {pl : List Nat} {xv : Value} (h : Wl w0 w b m S d p T vs (q ++ [(⟨N, pl⟩, xv)])) {ba : Option Addr} {n bc : Nat} {l : List UInt8} (hk : ∀ w', Fr (fun k => S k ∨ T k) w w' → BRow w' ba n bc l) (hn : n ≤ 8192) (X A : Nat) (hX : N + pl.length - 1 = X) (hXm : X < 1000000) (hA : pl.getLastD 0 = A) (hA2 : A < 2048) (hu : usedL d.files + (8 + n) ≤ 1099511627776) (hf : d.files.length + 1 ≤ 1048576) (D' : Nat × Dk) (hD : appendP d (nameL N) (frameL X l) = D') :
    Calls Tryz.prog 17 #[dptr p, .slice ba n bc] w fun e w' => e = .returned (.int .i64 (D'.1 : Int)) ∧ (D'.1 ≠ 0 → DidW w0 w b m S p T D'.2 (q.map (·.1) ++ [⟨N, pl⟩]) w') ∧ (D'.1 = 0 → DidW w0 w b m S p T D'.2 (q.map (·.1) ++ [⟨N, pl ++ [A + (8 + n)]⟩]) w') := by
  have HUt : Hid (usedL d.files + (8 + n) ≤ 1099511627776 ∧ d.files.length + 1 ≤ 1048576) := ⟨hu, hf⟩
  have HDt : Hid (appendP d (nameL N) (frameL X l) = D') := hD
  have HA2 : Hid (A < 2048) := hA2
  clear hD hu hf
  have hl0 : 1 ≤ pl.length := List.length_pos_iff.2 (h.lg.ne (⟨N, pl⟩, xv) (by simp))
  have hN9 : N ≤ 999999 := h.lg.num (⟨N, pl⟩, xv) (by simp)
  have hox : OwnI w 0 xv pl := h.lg.pls (⟨N, pl⟩, xv) (by simp)
  obtain ⟨g, c, rfl, hc, hgl, _, hcm⟩ := ownI_form hox (h.lg.ne (⟨N, pl⟩, xv) (by simp))
  obtain ⟨r, rc, hvs, hrc, hTr, hrm⟩ := h.lg.form (by simp)
  obtain ⟨nn, hnn⟩ : ∃ nn, (q ++ [((⟨N, pl⟩ : Sg), Value.slice (some ⟨g, 0, none⟩) pl.length c)]).length = nn := ⟨_, rfl⟩
  rw [hnn] at hvs hrc
  obtain ⟨K, hK0⟩ : ∃ K, q.length = K := ⟨_, rfl⟩
  have hnK : nn = K + 1 := by rw [← hnn, List.length_append, hK0]; rfl
  have hTg : T g := h.lg.ts (⟨N, pl⟩, Value.slice (some ⟨g, 0, none⟩) pl.length c) (by simp) g rfl
  have hgp : g ≠ p := by
    obtain ⟨cur, hcu⟩ := ownI_type hox (g := g) rfl
    exact ne_types hcu h.lg.blk (by decide)
  have hgr : r ≠ g := by
    obtain ⟨cur, hcu⟩ := ownI_type hox (g := g) rfl
    obtain ⟨cu2, hcu2⟩ := ownQ_type h.lg.row (g := r) (by rw [hvs]; rfl)
    exact ne_types hcu2 hcu (by decide)
  have hfew := h.lg.few
  rw [hnn] at hfew
  have hap0 : ∀ y ∈ q, y.2.ownBlock ≠ some g := fun y hy => by
    have := (List.pairwise_append.1 h.lg.apart).2.2 y hy _ (List.mem_singleton.2 rfl)
    exact this
  have hSlt : ∀ k, S k → k < w.heap.size := by
    obtain ⟨sl, hd⟩ := h.lv.dk
    exact hd.lt
  have hL : Calls Tryz.prog 18 #[dptr p] w fun e w' => e = .returned (.int .i64 ((X : Int) - 1)) ∧ Below w.heap.size w w' := (lastn_any h.lg).mono fun e w' q => ⟨by rw [q.1]; unfold Sg.next; rw [hX], q.2⟩
  have HW : Hid (Wl w0 w b m S d p T vs (q ++ [(⟨N, pl⟩, .slice (some ⟨g, 0, none⟩) pl.length c)])) := h
  have HK : Hid (∀ w', Fr (fun k => S k ∨ T k) w w' → BRow w' ba n bc l) := hk
  have HVS : Hid (vs = .slice (some ⟨r, 0, none⟩) nn rc) := hvs
  have HPlt : Hid (p < w.heap.size) := lt_blk h.lg.blk
  have HF0 : Hid (1 ≤ pl.length ∧ N ≤ 999999 ∧ N + pl.length - 1 = X ∧ X < 1000000) := ⟨hl0, hN9, hX, hXm⟩
  have HAe : Hid (pl.getLastD 0 = A ∧ n ≤ 8192) := ⟨hA, hn⟩
  have HG0 : Hid (T g ∧ g ≠ p ∧ r ≠ g ∧ T r ∧ g < w.heap.size ∧ nn ≤ rc) := ⟨hTg, hgp, hgr, hTr, hgl, hrc⟩
  have HAp : Hid (∀ y ∈ q, y.2.ownBlock ≠ some g) := hap0
  have HSl : Hid (∀ k, S k → k < w.heap.size) := hSlt
  have HKn : Hid (q.length = K ∧ nn = K + 1 ∧ nn ≤ 1048576) := ⟨hK0, hnK, hfew⟩
  have HLL : Hid (l.length = n) := (hk w (Fr.refl _ _)).1
  have bn : (n : Int) ≤ 8192 := by omega
  obtain ⟨LN, hLN⟩ : ∃ LN : Int, (X : Int) - 1 = LN := ⟨_, rfl⟩
  have qL : (LN == 999999) = false := by simp; omega
  have bL : LN ≤ 999998 := by omega
  rw [hLN] at hL
  have eK : (nn : Int) - 1 = (K : Int) := by omega
  have bK : (nn : Int) ≤ 1048576 := by omega
  have wK : IntKind.i64.wrap (K : Int) = (K : Int) := by rw [IntKind.wrap_i64]; omega
  have bA : (A : Int) < 2048 := by omega
  clear h hk hl0 hN9 hX hXm hox hc hgl hcm hrc hTr hrm hnn hK0 hnK hTg hgp hgr hfew hap0 hSlt hLN hA hn hA2
  go_enter Tryz.func17, Tryz.ntmps17
  go_wp2_with (fail)
  refine hL.mono ?_
  rintro e w1 ⟨rfl, hb1⟩
  have HB1 : Hid (Below w.heap.size w w1) := hb1
  clear hL hb1
  go_upto_region 5 with fail
  go_cut [5, 6] from 10 to 78 (fun X5 Y6 wx => ∃ sb, X5 = dptr sb ∧ Y6 = .int .i64 (K : Int) ∧ Hid (SgB w wx sb N (.slice (some ⟨g, 0, none⟩) pl.length c)))
  case first =>
    have HPS : Hid (w1.heap[p]? = some (.cells #[dptr b, vs] 99 (0, 0))) := (HW.out.same HB1.out).lg.blk
    have n1 : ∀ w' : World, w'.heap[p]? = some (.cells #[dptr b, vs] 99 (0, 0)) → w'.cell? ⟨p, 1, none⟩ = some (.slice (some ⟨r, 0, none⟩) nn rc) := fun w' hw => by rw [← HVS.out]; exact cell_blk hw rfl
    have FL1 : Hid (∀ u, Below w1.heap.size w1 u → Calls Tryz.prog 64 #[dptr p] u fun e w' => e = .returned (sgV N (.slice (some ⟨g, 0, none⟩) pl.length c)) ∧ Below u.heap.size u w') := fun u hu => last_any ((HW.out.same HB1.out).same hu).lg
    refine regionC (fun (w' : World) => w'.heap[p]? = some (.cells #[dptr b, vs] 99 (0, 0))) 10 (by kernel_rfl) ?_
    (try (change wpAnyC _ _ _ _ _ _ _ _ _ (World.drew _)))
    refine nameW (fun W0 hW0 => ?_)
    have hC : Hid (W0.heap[p]? = some (.cells #[dptr b, vs] 99 (0, 0))) := by show _ = _; rw [hW0]; exact HPS.out
    have hB : Hid (Below w1.heap.size w1 W0) := by show Below _ _ _; rw [hW0]; exact ⟨rfl, rfl, rfl, Nat.le_refl _, fun _ _ => rfl⟩
    clear hW0
    refine takeC (i := 0) (v := ?_) rfl (by kernel_rfl) (by kernel_rfl) (by kernel_rfl) (by kernel_rfl) (by kernel_rfl) (fun _ _ _ h => h) hC.out (Or.inl ⟨by rfl, ?_⟩) ?_
    rotate_left 1
    · intro w' hw'
      skip
      go_simp
      first | done | with_reducible rfl
    (try simp only [Act.put])
    (try simp only [List.setIfInBounds_toArray])
    (try simp only [List.set_cons_succ])
    (try simp only [List.set_cons_zero])
    refine takeC (i := 2) (v := ?_) rfl (by kernel_rfl) (by kernel_rfl) (by kernel_rfl) (by kernel_rfl) (by kernel_rfl) (fun _ _ _ h => h) hC.out (Or.inl ⟨by rfl, ?_⟩) ?_
    rotate_left 1
    · intro w' hw'
      skip
      go_simp
      first | done | with_reducible rfl
    (try simp only [Act.put])
    (try simp only [List.setIfInBounds_toArray])
    (try simp only [List.set_cons_succ])
    (try simp only [List.set_cons_zero])
    refine takeC (i := 3) (v := ?_) rfl (by kernel_rfl) (by kernel_rfl) (by kernel_rfl) (by kernel_rfl) (by kernel_rfl) (fun _ _ _ h => h) hC.out (Or.inl ⟨by rfl, ?_⟩) ?_
    rotate_left 1
    · intro w' hw'
      skip
      go_simp
      first | done | with_reducible rfl
    (try simp only [Act.put])
    (try simp only [List.setIfInBounds_toArray])
    (try simp only [List.set_cons_succ])
    (try simp only [List.set_cons_zero])
    refine takeC (i := 4) (v := ?_) rfl (by kernel_rfl) (by kernel_rfl) (by kernel_rfl) (by kernel_rfl) (by kernel_rfl) (fun _ _ _ h => h) hC.out (Or.inl ⟨by rfl, ?_⟩) ?_
    rotate_left 1
    · intro w' hw'
      skip
      go_simp
      first | done | with_reducible rfl
    (try simp only [Act.put])
    (try simp only [List.setIfInBounds_toArray])
    (try simp only [List.set_cons_succ])
    (try simp only [List.set_cons_zero])
    refine takeC (i := 5) (v := ?_) rfl (by kernel_rfl) (by kernel_rfl) (by kernel_rfl) (by kernel_rfl) (by kernel_rfl) (fun _ _ _ h => h) hC.out (Or.inl ⟨by rfl, ?_⟩) ?_
    rotate_left 1
    · intro w' hw'
      have z0 := n1 w' hw'
      go_simp
      first | done | with_reducible rfl
    (try simp only [Act.put])
    (try simp only [List.setIfInBounds_toArray])
    (try simp only [List.set_cons_succ])
    (try simp only [List.set_cons_zero])
    refine takeC (i := 6) (v := ?_) rfl (by kernel_rfl) (by kernel_rfl) (by kernel_rfl) (by kernel_rfl) (by kernel_rfl) (fun _ _ _ h => h) hC.out (Or.inl ⟨by rfl, ?_⟩) ?_
    rotate_left 1
    · intro w' hw'
      skip
      go_simp
      first | done | with_reducible rfl
    (try simp only [Act.put])
    (try simp only [List.setIfInBounds_toArray])
    (try simp only [List.set_cons_succ])
    (try simp only [List.set_cons_zero])
    refine takeC (i := 7) (v := ?_) rfl (by kernel_rfl) (by kernel_rfl) (by kernel_rfl) (by kernel_rfl) (by kernel_rfl) (fun _ _ _ h => h) hC.out (Or.inl ⟨by rfl, ?_⟩) ?_
    rotate_left 1
    · intro w' hw'
      skip
      go_simp
      first | done | with_reducible rfl
    (try simp only [Act.put])
    (try simp only [List.setIfInBounds_toArray])
    (try simp only [List.set_cons_succ])
    (try simp only [List.set_cons_zero])
    refine readyC (rs := [1, 8]) (by kernel_rfl) (by simp) ?_
    refine ReadyC.cons rfl (fun K hK => ?_) ?_
    · refine stepV_call rfl 64 #[dptr p] (by kernel_rfl) (FL1.out W0 hB.out) (fun e w' h => ⟨_, h.1⟩) ?_
      intro v1 W1 hq
      obtain ⟨hv1, hq⟩ := hq
      have hv1' := Ending.returned.inj hv1
      subst hv1'
      have hq2 : Below w1.heap.size w1 W1 := hB.out.trans (hq.mono hB.out.size)
      have hq3 : W1.heap[p]? = some (.cells #[dptr b, vs] 99 (0, 0)) := (hq2.block _ (lt_blk HPS.out)).trans HPS.out
      refine hK _ _ (fun _ => hq3) ?_
      clear hK K
      (try simp only [Act.put])
      (try simp only [List.setIfInBounds_toArray])
      (try simp only [List.set_cons_succ])
      (try simp only [List.set_cons_zero])
      replace hC : Hid (W1.heap[p]? = some (.cells #[dptr b, vs] 99 (0, 0))) := hq3
      replace hB : Hid (Below w1.heap.size w1 W1) := hq2
      clear hv1 hq hq2 hq3
      refine readyC (rs := [8]) (by kernel_rfl) (by simp) ?_
      refine ReadyC.cons rfl (fun K hK => ?_) ReadyC.nil
      go_simp
      refine hK _ _ (fun _ => (heap_alloc_old W1 _ (lt_blk hC.out)).trans hC.out) ?_
      clear hK K
      (try simp only [Act.put])
      (try simp only [List.setIfInBounds_toArray])
      (try simp only [List.set_cons_succ])
      (try simp only [List.set_cons_zero])
      refine nameW (fun W2 hW => ?_)
      have hx : Below W1.heap.size W1 W2 := by rw [hW]; exact (Below.refl _ _).alloc (Nat.le_refl _) _
      obtain ⟨sb, hsb⟩ : ∃ sb, sb = W1.heap.size := ⟨_, rfl⟩
      have hG : Hid (W2.heap[sb]? = some (.cells #[.int .i64 (0 : Int), .slice none 0 0] 101 (0, 0))) := by show _ = _; rw [hW, hsb]; exact heap_alloc_new _ _
      have hsg : Hid (w.heap.size ≤ sb) := by show _ ≤ _; rw [hsb]; exact Nat.le_trans HB1.out.size hB.out.size
      rw [← hsb]
      replace hB : Hid (Below w1.heap.size w1 W2) := hB.out.trans (hx.mono hB.out.size)
      replace hC : Hid (W2.heap[p]? = some (.cells #[dptr b, vs] 99 (0, 0))) := (hB.out.block _ (lt_blk HPS.out)).trans HPS.out
      clear hx hW hsb
      refine readyC (rs := [9]) (by kernel_rfl) (by simp) ?_
      refine ReadyC.cons rfl (fun K hK => ?_) ReadyC.nil
      have y0 : W2.cell? ⟨sb, 0, none⟩ = some (.int .i64 0) := cell_blk hG.out rfl
      have y1 : W2.cell? ⟨sb, 1, none⟩ = some (.slice none 0 0) := cell_blk hG.out rfl
      have y2 := free_blk hG.out
      have hps : p ≠ sb := by have := hsg.out; have := HPlt.out; omega
      go_simp
      refine hK _ _ (fun _ => by show _ = _; rw [set_other _ hps, set_other _ hps]; exact hC.out) ?_
      clear hK K
      (try simp only [Act.put])
      (try simp only [List.setIfInBounds_toArray])
      (try simp only [List.set_cons_succ])
      (try simp only [List.set_cons_zero])
      refine nameW (fun W3 hW => ?_)
      have hS : Hid (SgB w W3 sb N (.slice (some ⟨g, 0, none⟩) pl.length c)) := by
        refine ⟨?_, hsg.out, by rw [hW]; exact set_blk (set_blk hG.out 0 _) 1 _⟩
        have hbb := HB1.out.trans (hB.out.mono HB1.out.size)
        rw [hW]
        refine ⟨hbb.os, hbb.tape, hbb.output, by rw [set_size, set_size]; exact hbb.size, fun k hk => ?_⟩
        rw [set_other _ (by have := hsg.out; omega), set_other _ (by have := hsg.out; omega)]
        exact hbb.block k hk
      replace hC : Hid (W3.heap[p]? = some (.cells #[dptr b, vs] 99 (0, 0))) := by show _ = _; rw [hW, set_other _ hps, set_other _ hps]; exact hC.out
      clear y0 y1 y2 hps hW hB hG
      refine readyC (rs := [10]) (by kernel_rfl) (by simp) ?_
      refine ReadyC.cons rfl (fun K hK => ?_) ReadyC.nil
      go_simp
      refine hK _ _ (fun _ => hC.out) ?_
      clear hK K
      (try simp only [Act.put])
      (try simp only [List.setIfInBounds_toArray])
      (try simp only [List.set_cons_succ])
      (try simp only [List.set_cons_zero])
      refine doneC (by kernel_rfl) ?_ _
      clear n1 FL1
      go_wp2_with (fail)
      go_meet
      case rel => exact ⟨sb, rfl, rfl, hS⟩
    refine ReadyC.cons rfl (fun K hK => ?_) ReadyC.nil
    go_simp
    refine hK _ _ (fun _ => (heap_alloc_old W0 _ (lt_blk hC.out)).trans hC.out) ?_
    clear hK K
    (try simp only [Act.put])
    (try simp only [List.setIfInBounds_toArray])
    (try simp only [List.set_cons_succ])
    (try simp only [List.set_cons_zero])
    refine nameW (fun W1 hW => ?_)
    have hx : Below W0.heap.size W0 W1 := by rw [hW]; exact (Below.refl _ _).alloc (Nat.le_refl _) _
    obtain ⟨sb, hsb⟩ : ∃ sb, sb = W0.heap.size := ⟨_, rfl⟩
    have hG : Hid (W1.heap[sb]? = some (.cells #[.int .i64 (0 : Int), .slice none 0 0] 101 (0, 0))) := by show _ = _; rw [hW, hsb]; exact heap_alloc_new _ _
    have hsg : Hid (w.heap.size ≤ sb) := by show _ ≤ _; rw [hsb]; exact Nat.le_trans HB1.out.size hB.out.size
    rw [← hsb]
    replace hB : Hid (Below w1.heap.size w1 W1) := hB.out.trans (hx.mono hB.out.size)
    replace hC : Hid (W1.heap[p]? = some (.cells #[dptr b, vs] 99 (0, 0))) := (hB.out.block _ (lt_blk HPS.out)).trans HPS.out
    clear hx hW hsb
    refine readyC (rs := [1]) (by kernel_rfl) (by simp) ?_
    refine ReadyC.cons rfl (fun K hK => ?_) ReadyC.nil
    refine stepV_call rfl 64 #[dptr p] (by kernel_rfl) (FL1.out W1 hB.out) (fun e w' h => ⟨_, h.1⟩) ?_
    intro v1 W2 hq
    obtain ⟨hv1, hq⟩ := hq
    have hv1' := Ending.returned.inj hv1
    subst hv1'
    have hq2 : Below w1.heap.size w1 W2 := hB.out.trans (hq.mono hB.out.size)
    have hq3 : W2.heap[p]? = some (.cells #[dptr b, vs] 99 (0, 0)) := (hq2.block _ (lt_blk HPS.out)).trans HPS.out
    refine hK _ _ (fun _ => hq3) ?_
    clear hK K
    (try simp only [Act.put])
    (try simp only [List.setIfInBounds_toArray])
    (try simp only [List.set_cons_succ])
    (try simp only [List.set_cons_zero])
    replace hG : Hid (W2.heap[sb]? = some (.cells #[.int .i64 (0 : Int), .slice none 0 0] 101 (0, 0))) := (hq.block _ (lt_blk hG.out)).trans hG.out
    replace hC : Hid (W2.heap[p]? = some (.cells #[dptr b, vs] 99 (0, 0))) := hq3
    replace hB : Hid (Below w1.heap.size w1 W2) := hq2
    clear hv1 hq hq2 hq3
    refine readyC (rs := [9]) (by kernel_rfl) (by simp) ?_
    refine ReadyC.cons rfl (fun K hK => ?_) ReadyC.nil
    have y0 : W2.cell? ⟨sb, 0, none⟩ = some (.int .i64 0) := cell_blk hG.out rfl
    have y1 : W2.cell? ⟨sb, 1, none⟩ = some (.slice none 0 0) := cell_blk hG.out rfl
    have y2 := free_blk hG.out
    have hps : p ≠ sb := by have := hsg.out; have := HPlt.out; omega
    go_simp
    refine hK _ _ (fun _ => by show _ = _; rw [set_other _ hps, set_other _ hps]; exact hC.out) ?_
    clear hK K
    (try simp only [Act.put])
    (try simp only [List.setIfInBounds_toArray])
    (try simp only [List.set_cons_succ])
    (try simp only [List.set_cons_zero])
    refine nameW (fun W3 hW => ?_)
    have hS : Hid (SgB w W3 sb N (.slice (some ⟨g, 0, none⟩) pl.length c)) := by
      refine ⟨?_, hsg.out, by rw [hW]; exact set_blk (set_blk hG.out 0 _) 1 _⟩
      have hbb := HB1.out.trans (hB.out.mono HB1.out.size)
      rw [hW]
      refine ⟨hbb.os, hbb.tape, hbb.output, by rw [set_size, set_size]; exact hbb.size, fun k hk => ?_⟩
      rw [set_other _ (by have := hsg.out; omega), set_other _ (by have := hsg.out; omega)]
      exact hbb.block k hk
    replace hC : Hid (W3.heap[p]? = some (.cells #[dptr b, vs] 99 (0, 0))) := by show _ = _; rw [hW, set_other _ hps, set_other _ hps]; exact hC.out
    clear y0 y1 y2 hps hW hB hG
    refine readyC (rs := [10]) (by kernel_rfl) (by simp) ?_
    refine ReadyC.cons rfl (fun K hK => ?_) ReadyC.nil
    go_simp
    refine hK _ _ (fun _ => hC.out) ?_
    clear hK K
    (try simp only [Act.put])
    (try simp only [List.setIfInBounds_toArray])
    (try simp only [List.set_cons_succ])
    (try simp only [List.set_cons_zero])
    refine doneC (by kernel_rfl) ?_ _
    clear n1 FL1
    go_wp2_with (fail)
    go_meet
    case rel => exact ⟨sb, rfl, rfl, hS⟩
  case rest =>
    obtain ⟨sb, h5, h6, HSb⟩ := hcut
    subst h5 h6
    obtain ⟨w5, hw5⟩ : ∃ w5, w5 = wc := ⟨_, rfl⟩
    subst hw5
    clear HB1 hvs qL bL
    have s0 : w5.cell? ⟨sb, 0, none⟩ = some (.int .i64 (N : Int)) := cell_blk HSb.out.2.2 rfl
    have s1 : w5.cell? ⟨sb, 1, none⟩ = some (.slice (some ⟨g, 0, none⟩) pl.length c) := cell_blk HSb.out.2.2 rfl
    have hSz : Calls Tryz.prog 65 #[sgV N (.slice (some ⟨g, 0, none⟩) pl.length c)] w5 fun e w' => e = .returned (.int .i64 (A : Int)) ∧ Below w5.heap.size w5 w' :=
      (size_any N ((HW.out.same HSb.out.1).lg.pls (⟨N, pl⟩, Value.slice (some ⟨g, 0, none⟩) pl.length c) (by simp)) (List.length_pos_iff.1 HF0.out.1) (by have := HF0.out; omega) (by have := HF0.out; show pl.length ≤ _; omega)).mono fun e w' q => ⟨by rw [q.1, ← HAe.out.1], q.2⟩
    go_wp2_with (fail)
    refine hSz.mono ?_
    rintro e w6 ⟨rfl, hb6⟩
    have HB6 : Hid (Below w.heap.size w w6) := HSb.out.1.trans (hb6.mono HSb.out.1.size)
    have HS6 : Hid (w6.heap[sb]? = some (.cells #[.int .i64 (N : Int), .slice (some ⟨g, 0, none⟩) pl.length c] 101 (0, 0))) := (hb6.block _ (lt_blk HSb.out.2.2)).trans HSb.out.2.2
    have Hsb : Hid (w.heap.size ≤ sb) := HSb.out.2.1
    have HsT : Hid (¬ T sb ∧ ¬ S sb) := ⟨fun e => by have := HW.out.lg.lt _ e; have := Hsb.out; omega, fun e => by have := HSl.out _ e; have := Hsb.out; omega⟩
    clear hSz hb6 s0 s1 HSb
    obtain ⟨wt, hwt⟩ : ∃ wt, wt = w6 := ⟨_, rfl⟩
    subst hwt
    have HWt : Hid (Wl w0 wt b m S d p T vs ((q ++ [(⟨N, pl⟩, .slice (some ⟨g, 0, none⟩) pl.length c)] : Sgs))) := HW.out.same HB6.out
    have HStt : Hid (StW w S T wt S T) := StW.same S T HB6.out
    have HSbt : Hid (wt.heap[sb]? = some (.cells #[.int .i64 (N : Int), .slice (some ⟨g, 0, none⟩) pl.length c] 101 (0, 0))) := HS6.out
    have HOt : Hid (OwnI wt 0 (.slice (some ⟨g, 0, none⟩) pl.length c) pl) := HWt.out.lg.pls (⟨N, pl⟩, Value.slice (some ⟨g, 0, none⟩) pl.length c) (by simp)
    have HFt := HF0
    have HAt : Hid (pl.getLastD 0 = A ∧ A < 2048) := ⟨HAe.out.1, HA2.out⟩
    have HGt : Hid ((T g ∨ w.heap.size ≤ g) ∧ ¬ S g ∧ g < wt.heap.size ∧ g ≠ p ∧ r ≠ g) := ⟨.inl HG0.out.1, HW.out.ap g HG0.out.1, Nat.lt_of_lt_of_le HG0.out.2.2.2.2.1 HB6.out.size, HG0.out.2.1, HG0.out.2.2.1⟩
    have HApt : Hid (∀ y ∈ ((q ++ [(⟨N, pl⟩, .slice (some ⟨g, 0, none⟩) pl.length c)] : Sgs)).take K, y.2.ownBlock ≠ some g) := by
      show ∀ y ∈ _, _
      rw [← HKn.out.1, List.take_left' rfl]
      exact HAp.out
    have HKt : Hid (K ≤ ((q ++ [(⟨N, pl⟩, .slice (some ⟨g, 0, none⟩) pl.length c)] : Sgs)).length ∧ K + 1 ≤ 1048576 ∧ K ≤ rc) := by
      have h1 := HKn.out
      have h2 := HG0.out.2.2.2.2.2
      refine ⟨?_, ?_, ?_⟩
      · rw [List.length_append]; omega
      · omega
      · omega
    clear HB6 HS6 bK eK wK
    have t0 : wt.cell? ⟨sb, 0, none⟩ = some (.int .i64 (N : Int)) := cell_blk HSbt.out rfl
    have t1 : wt.cell? ⟨sb, 1, none⟩ = some (.slice (some ⟨g, 0, none⟩) pl.length c) := cell_blk HSbt.out rfl
    have hNx : Calls Tryz.prog 67 #[sgV N (.slice (some ⟨g, 0, none⟩) pl.length c)] wt fun e w' => e = .returned (.int .i64 (X : Int)) ∧ Below wt.heap.size wt w' :=
      (next_any wt N _ _ _ (by have := HFt.out; omega) (by have := HFt.out; omega) (by have := HFt.out; omega)).mono fun e w' q => ⟨by rw [q.1]; have := HFt.out; congr 2; (try omega), q.2⟩
    go_wp2_with (fail)
    refine hNx.mono ?_
    rintro e w7 ⟨rfl, hb7⟩
    have HB7 : Hid (Below wt.heap.size wt w7) := hb7
    clear hb7 hNx t0 t1
    have hFm := frame_any (w := w7) (HWt.out.same HB7.out).tabs X (by have := HFt.out; omega) (HK.out w7 (HStt.out.1.tr (Fr.of_below _ HB7.out))) HAe.out.2
    go_wp2_with (fail)
    refine hFm.mono ?_
    rintro e w8 ⟨fv, rfl, ho8, hb8⟩
    obtain ⟨fa, fc, hfv⟩ := own_slice ho8
    subst hfv
    have hrw8 := own_brow ho8
    have hfl : (frameL X l).length = 8 + n := by rw [frameL_length, HLL.out]
    rw [hfl] at hrw8 ⊢
    obtain ⟨fl, hfl2⟩ : ∃ fl, 8 + n = fl := ⟨_, rfl⟩
    rw [hfl2] at hrw8 ⊢
    have HF8 : Hid (BRow w8 fa fl fc (frameL X l)) := hrw8
    have HFL : Hid (8 + n = fl) := hfl2
    have HFLL : Hid ((frameL X l).length = fl) := by show _ = _; rw [hfl, hfl2]
    have HB8 : Hid (Below wt.heap.size wt w8) := HB7.out.trans (hb8.mono HB7.out.size)
    have HW8 : Hid (Wl w0 w8 b m S d p T vs ((q ++ [(⟨N, pl⟩, .slice (some ⟨g, 0, none⟩) pl.length c)] : Sgs))) := HWt.out.same HB8.out
    have HPS : Hid (w8.heap[p]? = some (.cells #[dptr b, vs] 99 (0, 0)) ∧ w8.heap[sb]? = some (.cells #[.int .i64 (N : Int), .slice (some ⟨g, 0, none⟩) pl.length c] 101 (0, 0))) := ⟨HW8.out.lg.blk, (HB8.out.block _ (lt_blk HSbt.out)).trans HSbt.out⟩
    have HO8 : Hid (OwnI w8 0 (.slice (some ⟨g, 0, none⟩) pl.length c) (pl)) := ownI_below HOt.out HB8.out
    have HST8 : Hid (StW w S T w8 S T) := HStt.out.trans (StW.same S T HB8.out)
    have n0 : ∀ w' : World, w'.heap[p]? = some (.cells #[dptr b, vs] 99 (0, 0)) ∧ w'.heap[sb]? = some (.cells #[.int .i64 (N : Int), .slice (some ⟨g, 0, none⟩) pl.length c] 101 (0, 0)) → w'.cell? ⟨p, 0, none⟩ = some (dptr b) := fun w' hw => cell_blk hw.1 rfl
    have m0 : ∀ w' : World, w'.heap[p]? = some (.cells #[dptr b, vs] 99 (0, 0)) ∧ w'.heap[sb]? = some (.cells #[.int .i64 (N : Int), .slice (some ⟨g, 0, none⟩) pl.length c] 101 (0, 0)) → w'.cell? ⟨sb, 0, none⟩ = some (.int .i64 (N : Int)) := fun w' hw => cell_blk hw.2 rfl
    have m1 : ∀ w' : World, w'.heap[p]? = some (.cells #[dptr b, vs] 99 (0, 0)) ∧ w'.heap[sb]? = some (.cells #[.int .i64 (N : Int), .slice (some ⟨g, 0, none⟩) pl.length c] 101 (0, 0)) → w'.cell? ⟨sb, 1, none⟩ = some (.slice (some ⟨g, 0, none⟩) pl.length c) := fun w' hw => cell_blk hw.2 rfl
    have FN8 : Hid (∀ u, Below w8.heap.size w8 u → Calls Tryz.prog 69 #[sgV N (.slice (some ⟨g, 0, none⟩) pl.length c)] u fun e w' => e = .returned (strN (nameL N)) ∧ Below u.heap.size u w') := fun u hu => name_any (HW8.out.same hu).tabs _ (by have := HFt.out; omega) _
    clear hFm ho8 hb8 hrw8 hfl hfl2 HB7
    go_wp2_with (fail)
    refine regionC (fun (w' : World) => w'.heap[p]? = some (.cells #[dptr b, vs] 99 (0, 0)) ∧ w'.heap[sb]? = some (.cells #[.int .i64 (N : Int), .slice (some ⟨g, 0, none⟩) pl.length c] 101 (0, 0))) 8 (by kernel_rfl) ?_
    (try (change wpAnyC _ _ _ _ _ _ _ _ _ (World.drew _)))
    refine nameW (fun W0 hW0 => ?_)
    have hC : Hid (W0.heap[p]? = some (.cells #[dptr b, vs] 99 (0, 0)) ∧ W0.heap[sb]? = some (.cells #[.int .i64 (N : Int), .slice (some ⟨g, 0, none⟩) pl.length c] 101 (0, 0))) := by show _ ∧ _; rw [hW0]; exact HPS.out
    have hB : Hid (Below w8.heap.size w8 W0) := by show Below _ _ _; rw [hW0]; exact ⟨rfl, rfl, rfl, Nat.le_refl _, fun _ _ => rfl⟩
    clear hW0
    refine takeC (i := 0) (v := ?_) rfl (by kernel_rfl) (by kernel_rfl) (by kernel_rfl) (by kernel_rfl) (by kernel_rfl) (fun _ _ _ h => h) hC.out (Or.inl ⟨by rfl, ?_⟩) ?_
    rotate_left 1
    · intro w' hw'
      skip
      go_simp
      first | done | with_reducible rfl
    (try simp only [Act.put])
    (try simp only [List.setIfInBounds_toArray])
    (try simp only [List.set_cons_succ])
    (try simp only [List.set_cons_zero])
    refine takeC (i := 1) (v := ?_) rfl (by kernel_rfl) (by kernel_rfl) (by kernel_rfl) (by kernel_rfl) (by kernel_rfl) (fun _ _ _ h => h) hC.out (Or.inl ⟨by rfl, ?_⟩) ?_
    rotate_left 1
    · intro w' hw'
      skip
      go_simp
      first | done | with_reducible rfl
    (try simp only [Act.put])
    (try simp only [List.setIfInBounds_toArray])
    (try simp only [List.set_cons_succ])
    (try simp only [List.set_cons_zero])
    refine takeC (i := 2) (v := ?_) rfl (by kernel_rfl) (by kernel_rfl) (by kernel_rfl) (by kernel_rfl) (by kernel_rfl) (fun _ _ _ h => h) hC.out (Or.inl ⟨by rfl, ?_⟩) ?_
    rotate_left 1
    · intro w' hw'
      skip
      go_simp
      first | done | with_reducible rfl
    (try simp only [Act.put])
    (try simp only [List.setIfInBounds_toArray])
    (try simp only [List.set_cons_succ])
    (try simp only [List.set_cons_zero])
    refine takeC (i := 3) (v := ?_) rfl (by kernel_rfl) (by kernel_rfl) (by kernel_rfl) (by kernel_rfl) (by kernel_rfl) (fun _ _ _ h => h) hC.out (Or.inl ⟨by rfl, ?_⟩) ?_
    rotate_left 1
    · intro w' hw'
      have z0 := n0 w' hw'; have z1 := m0 w' hw'; have z2 := m1 w' hw'
      go_simp
      first | done | with_reducible rfl
    (try simp only [Act.put])
    (try simp only [List.setIfInBounds_toArray])
    (try simp only [List.set_cons_succ])
    (try simp only [List.set_cons_zero])
    refine takeC (i := 4) (v := ?_) rfl (by kernel_rfl) (by kernel_rfl) (by kernel_rfl) (by kernel_rfl) (by kernel_rfl) (fun _ _ _ h => h) hC.out (Or.inl ⟨by rfl, ?_⟩) ?_
    rotate_left 1
    · intro w' hw'
      have z0 := n0 w' hw'; have z1 := m0 w' hw'; have z2 := m1 w' hw'
      go_simp
      first | done | with_reducible rfl
    (try simp only [Act.put])
    (try simp only [List.setIfInBounds_toArray])
    (try simp only [List.set_cons_succ])
    (try simp only [List.set_cons_zero])
    refine takeC (i := 6) (v := ?_) rfl (by kernel_rfl) (by kernel_rfl) (by kernel_rfl) (by kernel_rfl) (by kernel_rfl) (fun _ _ _ h => h) hC.out (Or.inl ⟨by rfl, ?_⟩) ?_
    rotate_left 1
    · intro w' hw'
      skip
      go_simp
      first | done | with_reducible rfl
    (try simp only [Act.put])
    (try simp only [List.setIfInBounds_toArray])
    (try simp only [List.set_cons_succ])
    (try simp only [List.set_cons_zero])
    refine readyC (rs := [5]) (by kernel_rfl) (by simp) ?_
    refine ReadyC.cons rfl (fun K hK => ?_) ReadyC.nil
    refine stepV_call rfl 69 #[sgV N (.slice (some ⟨g, 0, none⟩) pl.length c)] (by kernel_rfl) (FN8.out W0 hB.out) (fun e w' h => ⟨_, h.1⟩) ?_
    intro v1 W1 hq
    obtain ⟨hv1, hq⟩ := hq
    have hv1' := Ending.returned.inj hv1
    subst hv1'
    have hq2 : Below w8.heap.size w8 W1 := hB.out.trans (hq.mono hB.out.size)
    have hq3 : W1.heap[p]? = some (.cells #[dptr b, vs] 99 (0, 0)) ∧ W1.heap[sb]? = some (.cells #[.int .i64 (N : Int), .slice (some ⟨g, 0, none⟩) pl.length c] 101 (0, 0)) := ⟨(hq2.block _ (lt_blk HPS.out.1)).trans HPS.out.1, (hq2.block _ (lt_blk HPS.out.2)).trans HPS.out.2⟩
    refine hK _ _ (fun _ => hq3) ?_
    clear hK K
    (try simp only [Act.put])
    (try simp only [List.setIfInBounds_toArray])
    (try simp only [List.set_cons_succ])
    (try simp only [List.set_cons_zero])
    replace hC : Hid (W1.heap[p]? = some (.cells #[dptr b, vs] 99 (0, 0)) ∧ W1.heap[sb]? = some (.cells #[.int .i64 (N : Int), .slice (some ⟨g, 0, none⟩) pl.length c] 101 (0, 0))) := hq3
    replace hB : Hid (Below w8.heap.size w8 W1) := hq2
    clear hv1 hq hq2 hq3
    refine readyC (rs := [7]) (by kernel_rfl) (by simp) ?_
    refine ReadyC.cons rfl (fun K hK => ?_) ReadyC.nil
    refine stepV_call rfl 43 #[dptr b, strN (nameL N), .slice fa fl fc] (by kernel_rfl) (appendL (HW8.out.same hB.out).lv (nameL N) (by rw [nameL_length]; omega) (HF8.out.below hB.out) (by rw [HFLL.out, ← HFL.out]; exact HUt.out.1) HUt.out.2) (fun e w' h => ⟨_, h.1⟩) ?_
    intro v9 W2 hq
    obtain ⟨hv9, S9, hlv, hst⟩ := hq
    have hv9' := Ending.returned.inj hv9
    subst hv9'
    rw [HDt.out] at hlv ⊢
    obtain ⟨hwl, hstw⟩ := (HW8.out.same hB.out).disk hlv hst
    have hgc : g < W1.heap.size := Nat.lt_of_lt_of_le HGt.out.2.2.1 (Nat.le_trans HB8.out.size hB.out.size)
    have hkk : W2.heap[p]? = some (.cells #[dptr b, vs] 99 (0, 0)) ∧ W2.heap[sb]? = some (.cells #[.int .i64 (N : Int), .slice (some ⟨g, 0, none⟩) pl.length c] 101 (0, 0)) := ⟨hwl.lg.blk, (hst.1.block sb (lt_blk hC.out.2) HsT.out.2).trans hC.out.2⟩
    refine hK _ _ (fun _ => hkk) ?_
    clear hK K
    (try simp only [Act.put])
    (try simp only [List.setIfInBounds_toArray])
    (try simp only [List.set_cons_succ])
    (try simp only [List.set_cons_zero])
    replace hC : Hid (W2.heap[p]? = some (.cells #[dptr b, vs] 99 (0, 0)) ∧ W2.heap[sb]? = some (.cells #[.int .i64 (N : Int), .slice (some ⟨g, 0, none⟩) pl.length c] 101 (0, 0))) := hkk
    have HX9 : Hid (Wl w0 W2 b m S9 D'.2 p T vs ((q ++ [(⟨N, pl⟩, .slice (some ⟨g, 0, none⟩) pl.length c)] : Sgs))) := hwl
    have HST9 : Hid (StW w S T W2 S9 T) := HST8.out.trans ((StW.same S T hB.out).trans hstw)
    have HO9 : Hid (OwnI W2 0 (.slice (some ⟨g, 0, none⟩) pl.length c) (pl)) := ownI_keep (ownI_below HO8.out hB.out) (fun k hk => by cases hk; exact hst.1.block _ hgc HGt.out.2.1)
    have HS9 : Hid (¬ S9 g ∧ ¬ S9 sb) := ⟨fun e => (hst.2 _ e).elim HGt.out.2.1 (fun e => by omega), fun e => (hst.2 _ e).elim HsT.out.2 (fun e => by have := lt_blk HPS.out.2; have := hB.out.size; omega)⟩
    have HZ9 : Hid (W1.heap.size ≤ W2.heap.size ∧ g < W2.heap.size) := ⟨hst.1.size, Nat.lt_of_lt_of_le hgc hst.1.size⟩
    clear hkk hv9 hlv hst hwl hstw hB hgc
    refine readyC (rs := [8]) (by kernel_rfl) (by simp) ?_
    refine ReadyC.cons rfl (fun K hK => ?_) ReadyC.nil
    go_simp
    refine hK _ _ (fun _ => hC.out) ?_
    clear hK K
    (try simp only [Act.put])
    (try simp only [List.setIfInBounds_toArray])
    (try simp only [List.set_cons_succ])
    (try simp only [List.set_cons_zero])
    refine doneC (by kernel_rfl) ?_ _
    clear n0 FN8 m0 m1
    obtain ⟨w9, hw9⟩ : ∃ w9, w9 = W2 := ⟨_, rfl⟩
    subst hw9
    obtain ⟨e9, he9⟩ : ∃ e9, D'.1 = e9 := ⟨_, rfl⟩
    rw [he9]
    have HE9 : Hid (D'.1 = e9) := he9
    clear he9
    by_cases hz : e9 = 0
    · subst hz
      have HPS2 : Hid (w9.heap[p]? = some (.cells #[dptr b, vs] 99 (0, 0)) ∧ w9.heap[sb]? = some (.cells #[.int .i64 (N : Int), .slice (some ⟨g, 0, none⟩) pl.length c] 101 (0, 0))) := hC.out
      clear HPS
      have HPS := HPS2
      clear hC HPS2
      have m0 : ∀ w' : World, w'.heap[p]? = some (.cells #[dptr b, vs] 99 (0, 0)) ∧ w'.heap[sb]? = some (.cells #[.int .i64 (N : Int), .slice (some ⟨g, 0, none⟩) pl.length c] 101 (0, 0)) → w'.cell? ⟨sb, 0, none⟩ = some (.int .i64 (N : Int)) := fun w' hw => cell_blk hw.2 rfl
      have m1 : ∀ w' : World, w'.heap[p]? = some (.cells #[dptr b, vs] 99 (0, 0)) ∧ w'.heap[sb]? = some (.cells #[.int .i64 (N : Int), .slice (some ⟨g, 0, none⟩) pl.length c] 101 (0, 0)) → w'.cell? ⟨sb, 1, none⟩ = some (.slice (some ⟨g, 0, none⟩) pl.length c) := fun w' hw => cell_blk hw.2 rfl
      obtain ⟨Y, hY⟩ : ∃ Y, A + fl = Y := ⟨_, rfl⟩
      have eY : ((A : Nat) : Int) + (fl : Int) = (Y : Int) := by omega
      have bfl : (fl : Int) ≤ 8200 := by have := HFL.out; omega
      have bY : (Y : Int) ≤ 12000 := by have := HFL.out; have := HAt.out.2; omega
      have wY : IntKind.i64.wrap (Y : Int) = (Y : Int) := by rw [IntKind.wrap_i64]; omega
      have HYE : Hid (A + fl = Y) := hY
      have FS9 : Hid (∀ u, Below w9.heap.size w9 u → Calls Tryz.prog 65 #[sgV N (.slice (some ⟨g, 0, none⟩) pl.length c)] u fun e w' => e = .returned (.int .i64 ((A : Nat) : Int)) ∧ Below u.heap.size u w') := fun u hu =>
        (size_any N (ownI_below HO9.out hu) (List.length_pos_iff.1 HFt.out.1) (by have := HFt.out; omega) (by have := HFt.out; omega)).mono fun e w' q => ⟨by rw [q.1, HAt.out.1], q.2⟩
      have HGn : Hid (g ≠ sb) := sg_ne HO9.out HPS.out.2 rfl
      have HPl : Hid ((pl).length + 1 ≤ 17592186044416) := by show _ ≤ _; have := HFt.out; omega
      clear hY
      go_wp2_with (fail)
      refine regionC (fun (w' : World) => w'.heap[p]? = some (.cells #[dptr b, vs] 99 (0, 0)) ∧ w'.heap[sb]? = some (.cells #[.int .i64 (N : Int), .slice (some ⟨g, 0, none⟩) pl.length c] 101 (0, 0))) 10 (by kernel_rfl) ?_
      (try (change wpAnyC _ _ _ _ _ _ _ _ _ (World.drew _)))
      refine nameW (fun W0 hW0 => ?_)
      have hC : Hid (W0.heap[p]? = some (.cells #[dptr b, vs] 99 (0, 0)) ∧ W0.heap[sb]? = some (.cells #[.int .i64 (N : Int), .slice (some ⟨g, 0, none⟩) pl.length c] 101 (0, 0))) := by show _ ∧ _; rw [hW0]; exact HPS.out
      have hB : Hid (Below w9.heap.size w9 W0) := by show Below _ _ _; rw [hW0]; exact ⟨rfl, rfl, rfl, Nat.le_refl _, fun _ _ => rfl⟩
      clear hW0
      refine takeC (i := 0) (v := ?_) rfl (by kernel_rfl) (by kernel_rfl) (by kernel_rfl) (by kernel_rfl) (by kernel_rfl) (fun _ _ _ h => h) hC.out (Or.inl ⟨by rfl, ?_⟩) ?_
      rotate_left 1
      · intro w' hw'
        skip
        go_simp
        first | done | with_reducible rfl
      (try simp only [Act.put])
      (try simp only [List.setIfInBounds_toArray])
      (try simp only [List.set_cons_succ])
      (try simp only [List.set_cons_zero])
      refine takeC (i := 1) (v := ?_) rfl (by kernel_rfl) (by kernel_rfl) (by kernel_rfl) (by kernel_rfl) (by kernel_rfl) (fun _ _ _ h => h) hC.out (Or.inl ⟨by rfl, ?_⟩) ?_
      rotate_left 1
      · intro w' hw'
        have z0 := m0 w' hw'; have z1 := m1 w' hw'
        go_simp
        first | done | with_reducible rfl
      (try simp only [Act.put])
      (try simp only [List.setIfInBounds_toArray])
      (try simp only [List.set_cons_succ])
      (try simp only [List.set_cons_zero])
      refine takeC (i := 2) (v := ?_) rfl (by kernel_rfl) (by kernel_rfl) (by kernel_rfl) (by kernel_rfl) (by kernel_rfl) (fun _ _ _ h => h) hC.out (Or.inl ⟨by rfl, ?_⟩) ?_
      rotate_left 1
      · intro w' hw'
        have z0 := m0 w' hw'; have z1 := m1 w' hw'
        go_simp
        first | done | with_reducible rfl
      (try simp only [Act.put])
      (try simp only [List.setIfInBounds_toArray])
      (try simp only [List.set_cons_succ])
      (try simp only [List.set_cons_zero])
      refine takeC (i := 4) (v := ?_) rfl (by kernel_rfl) (by kernel_rfl) (by kernel_rfl) (by kernel_rfl) (by kernel_rfl) (fun _ _ _ h => h) hC.out (Or.inl ⟨by rfl, ?_⟩) ?_
      rotate_left 1
      · intro w' hw'
        skip
        go_simp
        first | done | with_reducible rfl
      (try simp only [Act.put])
      (try simp only [List.setIfInBounds_toArray])
      (try simp only [List.set_cons_succ])
      (try simp only [List.set_cons_zero])
      refine takeC (i := 5) (v := ?_) rfl (by kernel_rfl) (by kernel_rfl) (by kernel_rfl) (by kernel_rfl) (by kernel_rfl) (fun _ _ _ h => h) hC.out (Or.inl ⟨by rfl, ?_⟩) ?_
      rotate_left 1
      · intro w' hw'
        skip
        go_simp
        first | done | with_reducible rfl
      (try simp only [Act.put])
      (try simp only [List.setIfInBounds_toArray])
      (try simp only [List.set_cons_succ])
      (try simp only [List.set_cons_zero])
      refine readyC (rs := [3]) (by kernel_rfl) (by simp) ?_
      refine ReadyC.cons rfl (fun K hK => ?_) ReadyC.nil
      refine stepV_call rfl 65 #[sgV N (.slice (some ⟨g, 0, none⟩) pl.length c)] (by kernel_rfl) (FS9.out W0 hB.out) (fun e w' h => ⟨_, h.1⟩) ?_
      intro v1 W1 hq
      obtain ⟨hv1, hq⟩ := hq
      have hv1' := Ending.returned.inj hv1
      subst hv1'
      have hq2 : Below w9.heap.size w9 W1 := hB.out.trans (hq.mono hB.out.size)
      have hq3 : W1.heap[p]? = some (.cells #[dptr b, vs] 99 (0, 0)) ∧ W1.heap[sb]? = some (.cells #[.int .i64 (N : Int), .slice (some ⟨g, 0, none⟩) pl.length c] 101 (0, 0)) := ⟨(hq2.block _ (lt_blk HPS.out.1)).trans HPS.out.1, (hq2.block _ (lt_blk HPS.out.2)).trans HPS.out.2⟩
      refine hK _ _ (fun _ => hq3) ?_
      clear hK K
      (try simp only [Act.put])
      (try simp only [List.setIfInBounds_toArray])
      (try simp only [List.set_cons_succ])
      (try simp only [List.set_cons_zero])
      replace hC : Hid (W1.heap[p]? = some (.cells #[dptr b, vs] 99 (0, 0)) ∧ W1.heap[sb]? = some (.cells #[.int .i64 (N : Int), .slice (some ⟨g, 0, none⟩) pl.length c] 101 (0, 0))) := hq3
      replace hB : Hid (Below w9.heap.size w9 W1) := hq2
      clear hv1 hq hq2 hq3
      refine takeC (i := 6) (v := ?_) rfl (by kernel_rfl) (by kernel_rfl) (by kernel_rfl) (by kernel_rfl) (by kernel_rfl) (fun _ _ _ h => h) hC.out (Or.inl ⟨by rfl, ?_⟩) ?_
      rotate_left 1
      · intro w' hw'
        skip
        go_simp
        first | done | with_reducible rfl
      (try simp only [Act.put])
      (try simp only [List.setIfInBounds_toArray])
      (try simp only [List.set_cons_succ])
      (try simp only [List.set_cons_zero])
      refine readyC (rs := [7]) (by kernel_rfl) (by simp) ?_
      refine ReadyC.cons rfl (fun K hK => ?_) ReadyC.nil
      go_simp
      refine hK _ _ (fun _ => ⟨(heap_alloc_old W1 _ (lt_blk hC.out.1)).trans hC.out.1, (heap_alloc_old W1 _ (lt_blk hC.out.2)).trans hC.out.2⟩) ?_
      clear hK K
      (try simp only [Act.put])
      (try simp only [List.setIfInBounds_toArray])
      (try simp only [List.set_cons_succ])
      (try simp only [List.set_cons_zero])
      refine nameW (fun W2 hW => ?_)
      have hx : Below W1.heap.size W1 W2 := by rw [hW]; exact (Below.refl _ _).alloc (Nat.le_refl _) _
      have hcl : Hid (W2.cell? ⟨W1.heap.size, 0, none⟩ = some (placeV Y)) := by show _ = _; rw [hW]; exact lit_cells W1 [placeV Y] 3 0 _ rfl
      replace hB : Hid (Below w9.heap.size w9 W2) := hB.out.trans (hx.mono hB.out.size)
      replace hC : Hid (W2.heap[p]? = some (.cells #[dptr b, vs] 99 (0, 0)) ∧ W2.heap[sb]? = some (.cells #[.int .i64 (N : Int), .slice (some ⟨g, 0, none⟩) pl.length c] 101 (0, 0))) := ⟨(hB.out.block _ (lt_blk HPS.out.1)).trans HPS.out.1, (hB.out.block _ (lt_blk HPS.out.2)).trans HPS.out.2⟩
      clear hx hW
      refine readyC (rs := [8]) (by kernel_rfl) (by simp) ?_
      refine ReadyC.cons rfl (fun K hK => ?_) ReadyC.nil
      refine stepC_runs rfl (.tmp 58) (.tmp 64) rfl _ _ rfl rfl _ (append_placeG (ownI_below HO9.out hB.out) _ _ Y hcl.out HPl.out _) ?_
      intro v9 W3 hA
      obtain ⟨hA1, hA2, hA3⟩ := hA
      obtain ⟨g9, c9, K9, h9⟩ : ∃ g c K, v9 = .slice (some ⟨g, 0, none⟩) K c := by
        obtain ⟨g9, c9, h9, _⟩ := ownI_form hA1 (by simp)
        exact ⟨g9, c9, _, h9⟩
      subst h9
      have hkk : W3.heap[p]? = some (.cells #[dptr b, vs] 99 (0, 0)) ∧ W3.heap[sb]? = some (.cells #[.int .i64 (N : Int), .slice (some ⟨g, 0, none⟩) pl.length c] 101 (0, 0)) := ⟨(hA2.block p (lt_blk hC.out.1) (by intro e; exact HGt.out.2.2.2.1 (Option.some.inj e).symm)).trans hC.out.1, (hA2.block sb (lt_blk hC.out.2) (by intro e; exact HGn.out (Option.some.inj e).symm)).trans hC.out.2⟩
      refine hK _ _ (fun _ => hkk) ?_
      clear hK K
      (try simp only [Act.put])
      (try simp only [List.setIfInBounds_toArray])
      (try simp only [List.set_cons_succ])
      (try simp only [List.set_cons_zero])
      have HOA : Hid (OwnI W3 0 (.slice (some ⟨g9, 0, none⟩) K9 c9) ((pl) ++ [Y])) := hA1
      have HFA : Hid (Fr (fun k => k = g ∨ k = sb) w9 W3) := (Fr.of_below _ hB.out).grown hA2 (fun k hk => .inl (Option.some.inj hk).symm)
      have HGA : Hid (∀ k, (Value.slice (some ⟨g9, 0, none⟩) K9 c9).ownBlock = some k → k = g ∨ w9.heap.size ≤ k) := fun k hk => (hA3 k hk).imp (fun e => (Option.some.inj e).symm) (fun e => Nat.le_trans hB.out.size e)
      replace hC : Hid (W3.heap[p]? = some (.cells #[dptr b, vs] 99 (0, 0)) ∧ W3.heap[sb]? = some (.cells #[.int .i64 (N : Int), .slice (some ⟨g, 0, none⟩) pl.length c] 101 (0, 0))) := hkk
      clear hA1 hA2 hA3 hkk hcl hB
      refine takeC (i := 9) (v := ?_) rfl (by kernel_rfl) (by kernel_rfl) (by kernel_rfl) (by kernel_rfl) (by kernel_rfl) (fun _ _ _ h => h) hC.out (Or.inl ⟨by rfl, ?_⟩) ?_
      rotate_left 1
      · intro w' hw'
        skip
        go_simp
        first | done | with_reducible rfl
      (try simp only [Act.put])
      (try simp only [List.setIfInBounds_toArray])
      (try simp only [List.set_cons_succ])
      (try simp only [List.set_cons_zero])
      refine readyC (rs := [10]) (by kernel_rfl) (by simp) ?_
      refine ReadyC.cons rfl (fun K hK => ?_) ReadyC.nil
      have y1 := m1 W3 hC.out
      have y2 := free_blk hC.out.2
      go_simp
      refine hK _ _ (fun h => absurd rfl h) ?_
      clear hK K
      (try simp only [Act.put])
      (try simp only [List.setIfInBounds_toArray])
      (try simp only [List.set_cons_succ])
      (try simp only [List.set_cons_zero])
      refine nameW (fun W4 hW => ?_)
      have hps : p ≠ sb := fun e => HsT.out.1 (e ▸ HX9.out.lg.tp)
      have HS10 : Hid (W4.heap[sb]? = some (.cells #[.int .i64 (N : Int), .slice (some ⟨g9, 0, none⟩) K9 c9] 101 (0, 0))) := by show _ = _; rw [hW]; exact set_blk hC.out.2 1 _
      have HP10 : Hid (W4.heap[p]? = some (.cells #[dptr b, vs] 99 (0, 0))) := by show _ = _; rw [hW, set_other _ hps]; exact hC.out.1
      have HO10 : Hid (OwnI W4 0 (.slice (some ⟨g9, 0, none⟩) K9 c9) ((pl) ++ [Y])) := ownI_keep HOA.out (fun k hk => by rw [hW, set_other _ (sg_ne HOA.out hC.out.2 hk)])
      have HF10 : Hid (Fr (fun k => k = g ∨ k = sb) w9 W4) := by show Fr _ _ _; rw [hW]; exact HFA.out.set (p := ⟨sb, 1, none⟩) (.inr rfl) _
      clear hps hW HFA HOA y1 y2 hC
      refine doneC (by kernel_rfl) ?_ _
      obtain ⟨w10, hw10⟩ : ∃ w10, w10 = W4 := ⟨_, rfl⟩
      subst hw10
      clear HPS m0 m1 FS9
      have HPS : Hid (w10.heap[p]? = some (.cells #[dptr b, vs] 99 (0, 0)) ∧ w10.heap[sb]? = some (.cells #[.int .i64 (N : Int), .slice (some ⟨g9, 0, none⟩) K9 c9] 101 (0, 0))) := ⟨HP10.out, HS10.out⟩
      have HQ10 : Hid (OwnQ w10 0 (.slice (some ⟨r, 0, none⟩) K rc) (((q ++ [(⟨N, pl⟩, .slice (some ⟨g, 0, none⟩) pl.length c)] : Sgs)).take K)) := by
        have h1 := HX9.out.lg
        rw [HVS.out] at h1
        exact ownQ_keep (ownQ_take h1.row K HKt.out.1 (by simp)) (fun k hk => by
          cases hk
          exact HF10.out.block r (h1.lt r HG0.out.2.2.2.1) (fun e => e.elim HGt.out.2.2.2.2 (fun e => HsT.out.1 (e ▸ HG0.out.2.2.2.1))))
      have HQl : Hid ((((q ++ [(⟨N, pl⟩, .slice (some ⟨g, 0, none⟩) pl.length c)] : Sgs)).take K).length + 1 ≤ 1048577) := by have := HKt.out; show _ ≤ _; rw [List.length_take]; omega
      have n1 : ∀ w' : World, w'.heap[p]? = some (.cells #[dptr b, vs] 99 (0, 0)) ∧ w'.heap[sb]? = some (.cells #[.int .i64 (N : Int), .slice (some ⟨g9, 0, none⟩) K9 c9] 101 (0, 0)) → w'.cell? ⟨p, 1, none⟩ = some (.slice (some ⟨r, 0, none⟩) nn rc) := fun w' hw => by rw [← HVS.out]; exact cell_blk hw.1 rfl
      have k0 : ∀ w' : World, w'.heap[p]? = some (.cells #[dptr b, vs] 99 (0, 0)) ∧ w'.heap[sb]? = some (.cells #[.int .i64 (N : Int), .slice (some ⟨g9, 0, none⟩) K9 c9] 101 (0, 0)) → w'.cell? ⟨sb, 0, none⟩ = some (.int .i64 (N : Int)) := fun w' hw => cell_blk hw.2 rfl
      have k1 : ∀ w' : World, w'.heap[p]? = some (.cells #[dptr b, vs] 99 (0, 0)) ∧ w'.heap[sb]? = some (.cells #[.int .i64 (N : Int), .slice (some ⟨g9, 0, none⟩) K9 c9] 101 (0, 0)) → w'.cell? ⟨sb, 1, none⟩ = some (.slice (some ⟨g9, 0, none⟩) K9 c9) := fun w' hw => cell_blk hw.2 rfl
      have z16 := seg_cut (some ⟨r, 0, none⟩) nn rc K HKt.out.2.2
      clear HP10 HS10 eY bY bfl wY
      go_wp2_with (fail)
      refine regionC (fun (w' : World) => w'.heap[p]? = some (.cells #[dptr b, vs] 99 (0, 0)) ∧ w'.heap[sb]? = some (.cells #[.int .i64 (N : Int), .slice (some ⟨g9, 0, none⟩) K9 c9] 101 (0, 0))) 12 (by kernel_rfl) ?_
      (try (change wpAnyC _ _ _ _ _ _ _ _ _ (World.drew _)))
      refine nameW (fun W0 hW0 => ?_)
      have hC : Hid (W0.heap[p]? = some (.cells #[dptr b, vs] 99 (0, 0)) ∧ W0.heap[sb]? = some (.cells #[.int .i64 (N : Int), .slice (some ⟨g9, 0, none⟩) K9 c9] 101 (0, 0))) := by show _ ∧ _; rw [hW0]; exact HPS.out
      have hB : Hid (Below w10.heap.size w10 W0) := by show Below _ _ _; rw [hW0]; exact ⟨rfl, rfl, rfl, Nat.le_refl _, fun _ _ => rfl⟩
      clear hW0
      refine takeC (i := 0) (v := ?_) rfl (by kernel_rfl) (by kernel_rfl) (by kernel_rfl) (by kernel_rfl) (by kernel_rfl) (fun _ _ _ h => h) hC.out (Or.inl ⟨by rfl, ?_⟩) ?_
      rotate_left 1
      · intro w' hw'
        skip
        go_simp
        first | done | with_reducible rfl | exact z16 _
      (try simp only [Act.put])
      (try simp only [List.setIfInBounds_toArray])
      (try simp only [List.set_cons_succ])
      (try simp only [List.set_cons_zero])
      refine takeC (i := 1) (v := ?_) rfl (by kernel_rfl) (by kernel_rfl) (by kernel_rfl) (by kernel_rfl) (by kernel_rfl) (fun _ _ _ h => h) hC.out (Or.inl ⟨by rfl, ?_⟩) ?_
      rotate_left 1
      · intro w' hw'
        skip
        go_simp
        first | done | with_reducible rfl | exact z16 _
      (try simp only [Act.put])
      (try simp only [List.setIfInBounds_toArray])
      (try simp only [List.set_cons_succ])
      (try simp only [List.set_cons_zero])
      refine takeC (i := 2) (v := ?_) rfl (by kernel_rfl) (by kernel_rfl) (by kernel_rfl) (by kernel_rfl) (by kernel_rfl) (fun _ _ _ h => h) hC.out (Or.inl ⟨by rfl, ?_⟩) ?_
      rotate_left 1
      · intro w' hw'
        skip
        go_simp
        first | done | with_reducible rfl | exact z16 _
      (try simp only [Act.put])
      (try simp only [List.setIfInBounds_toArray])
      (try simp only [List.set_cons_succ])
      (try simp only [List.set_cons_zero])
      refine takeC (i := 3) (v := ?_) rfl (by kernel_rfl) (by kernel_rfl) (by kernel_rfl) (by kernel_rfl) (by kernel_rfl) (fun _ _ _ h => h) hC.out (Or.inl ⟨by rfl, ?_⟩) ?_
      rotate_left 1
      · intro w' hw'
        skip
        go_simp
        first | done | with_reducible rfl | exact z16 _
      (try simp only [Act.put])
      (try simp only [List.setIfInBounds_toArray])
      (try simp only [List.set_cons_succ])
      (try simp only [List.set_cons_zero])
      refine takeC (i := 4) (v := ?_) rfl (by kernel_rfl) (by kernel_rfl) (by kernel_rfl) (by kernel_rfl) (by kernel_rfl) (fun _ _ _ h => h) hC.out (Or.inl ⟨by rfl, ?_⟩) ?_
      rotate_left 1
      · intro w' hw'
        have z0 := n1 w' hw'; have z1 := k0 w' hw'; have z2 := k1 w' hw'
        go_simp
        first | done | with_reducible rfl | exact z16 _
      (try simp only [Act.put])
      (try simp only [List.setIfInBounds_toArray])
      (try simp only [List.set_cons_succ])
      (try simp only [List.set_cons_zero])
      refine takeC (i := 5) (v := ?_) rfl (by kernel_rfl) (by kernel_rfl) (by kernel_rfl) (by kernel_rfl) (by kernel_rfl) (fun _ _ _ h => h) hC.out (Or.inl ⟨by rfl, ?_⟩) ?_
      rotate_left 1
      · intro w' hw'
        skip
        go_simp
        first | done | with_reducible rfl | exact z16 _
      (try simp only [Act.put])
      (try simp only [List.setIfInBounds_toArray])
      (try simp only [List.set_cons_succ])
      (try simp only [List.set_cons_zero])
      refine takeC (i := 6) (v := ?_) rfl (by kernel_rfl) (by kernel_rfl) (by kernel_rfl) (by kernel_rfl) (by kernel_rfl) (fun _ _ _ h => h) hC.out (Or.inl ⟨by rfl, ?_⟩) ?_
      rotate_left 1
      · intro w' hw'
        skip
        go_simp
        first | done | with_reducible rfl | exact z16 _
      (try simp only [Act.put])
      (try simp only [List.setIfInBounds_toArray])
      (try simp only [List.set_cons_succ])
      (try simp only [List.set_cons_zero])
      refine takeC (i := 7) (v := ?_) rfl (by kernel_rfl) (by kernel_rfl) (by kernel_rfl) (by kernel_rfl) (by kernel_rfl) (fun _ _ _ h => h) hC.out (Or.inl ⟨by rfl, ?_⟩) ?_
      rotate_left 1
      · intro w' hw'
        have z0 := n1 w' hw'; have z1 := k0 w' hw'; have z2 := k1 w' hw'
        go_simp
        first | done | with_reducible rfl | exact z16 _
      (try simp only [Act.put])
      (try simp only [List.setIfInBounds_toArray])
      (try simp only [List.set_cons_succ])
      (try simp only [List.set_cons_zero])
      refine readyC (rs := [8]) (by kernel_rfl) (by simp) ?_
      refine ReadyC.cons rfl (fun K hK => ?_) ReadyC.nil
      go_simp
      refine hK _ _ (fun _ => ⟨(heap_alloc_old W0 _ (lt_blk hC.out.1)).trans hC.out.1, (heap_alloc_old W0 _ (lt_blk hC.out.2)).trans hC.out.2⟩) ?_
      clear hK K
      (try simp only [Act.put])
      (try simp only [List.setIfInBounds_toArray])
      (try simp only [List.set_cons_succ])
      (try simp only [List.set_cons_zero])
      refine nameW (fun W1 hW => ?_)
      have hx : Below W0.heap.size W0 W1 := by rw [hW]; exact (Below.refl _ _).alloc (Nat.le_refl _) _
      have hc0 : Hid (W1.cell? ⟨W0.heap.size, 0, none⟩ = some (.int .i64 (N : Int))) := by show _ = _; rw [hW]; exact lit_cells W0 [.int .i64 (N : Int), .slice (some ⟨g9, 0, none⟩) K9 c9] 101 0 _ rfl
      have hc1 : Hid (W1.cell? ((⟨W0.heap.size, 0, none⟩ : Addr).add 1) = some (.slice (some ⟨g9, 0, none⟩) K9 c9)) := by show _ = _; rw [hW]; exact lit_cells W0 [.int .i64 (N : Int), .slice (some ⟨g9, 0, none⟩) K9 c9] 101 1 _ rfl
      replace hB : Hid (Below w10.heap.size w10 W1) := hB.out.trans (hx.mono hB.out.size)
      replace hC : Hid (W1.heap[p]? = some (.cells #[dptr b, vs] 99 (0, 0)) ∧ W1.heap[sb]? = some (.cells #[.int .i64 (N : Int), .slice (some ⟨g9, 0, none⟩) K9 c9] 101 (0, 0))) := ⟨(hB.out.block _ (lt_blk HPS.out.1)).trans HPS.out.1, (hB.out.block _ (lt_blk HPS.out.2)).trans HPS.out.2⟩
      clear hx hW
      refine readyC (rs := [9]) (by kernel_rfl) (by simp) ?_
      refine ReadyC.cons rfl (fun K hK => ?_) ReadyC.nil
      refine stepC_runs rfl (.tmp 73) (.tmp 75) rfl _ _ rfl rfl _ (append_seg (x := (⟨N, (pl) ++ [Y]⟩, .slice (some ⟨g9, 0, none⟩) K9 c9)) (ownQ_keep HQ10.out (fun k hk => hB.out.block k (HQ10.out.lt k hk).2)) _ _ hc0.out hc1.out rfl HQl.out _) ?_
      intro vo W2 hA
      obtain ⟨go, co, Ko, ho⟩ : ∃ g c K, vo = .slice (some ⟨g, 0, none⟩) K c := by
        rcases hA.1.2 with ⟨_, h0⟩ | ⟨go, co, cur, ho, _⟩
        · simp at h0
        · exact ⟨go, co, _, ho⟩
      subst ho
      have hrp : r ≠ p := by
        intro e
        obtain ⟨cur, hcu⟩ := ownQ_type HQ10.out (g := r) rfl
        exact ne_types hcu HPS.out.1 (by decide) e
      have hkk : W2.heap[p]? = some (.cells #[dptr b, vs] 99 (0, 0)) ∧ W2.heap[sb]? = some (.cells #[.int .i64 (N : Int), .slice (some ⟨g9, 0, none⟩) K9 c9] 101 (0, 0)) := ⟨(hA.2.1.block p (lt_blk hC.out.1) (by intro e; exact hrp (Option.some.inj e).symm)).trans hC.out.1, (hA.2.1.block sb (lt_blk hC.out.2) (by intro e; exact HsT.out.1 (by rw [Option.some.inj e]; exact HG0.out.2.2.2.1))).trans hC.out.2⟩
      refine hK _ _ (fun _ => hkk) ?_
      clear hK K
      (try simp only [Act.put])
      (try simp only [List.setIfInBounds_toArray])
      (try simp only [List.set_cons_succ])
      (try simp only [List.set_cons_zero])
      have HPu : Hid (PushedQ W1 (.slice (some ⟨r, 0, none⟩) K rc) (((q ++ [(⟨N, pl⟩, .slice (some ⟨g, 0, none⟩) pl.length c)] : Sgs)).take K) (⟨N, (pl) ++ [Y]⟩, .slice (some ⟨g9, 0, none⟩) K9 c9) (.slice (some ⟨go, 0, none⟩) Ko co) W2) := hA
      have HB16 : Hid (Below w10.heap.size w10 W1) := hB.out
      replace hC : Hid (W2.heap[p]? = some (.cells #[dptr b, vs] 99 (0, 0)) ∧ W2.heap[sb]? = some (.cells #[.int .i64 (N : Int), .slice (some ⟨g9, 0, none⟩) K9 c9] 101 (0, 0))) := hkk
      clear hA hkk hrp hc0 hc1 hB
      refine takeC (i := 10) (v := ?_) rfl (by kernel_rfl) (by kernel_rfl) (by kernel_rfl) (by kernel_rfl) (by kernel_rfl) (fun _ _ _ h => h) hC.out (Or.inl ⟨by rfl, ?_⟩) ?_
      rotate_left 1
      · intro w' hw'
        skip
        go_simp
        first | done | with_reducible rfl | exact z16 _
      (try simp only [Act.put])
      (try simp only [List.setIfInBounds_toArray])
      (try simp only [List.set_cons_succ])
      (try simp only [List.set_cons_zero])
      refine takeC (i := 11) (v := ?_) rfl (by kernel_rfl) (by kernel_rfl) (by kernel_rfl) (by kernel_rfl) (by kernel_rfl) (fun _ _ _ h => h) hC.out (Or.inl ⟨by rfl, ?_⟩) ?_
      rotate_left 1
      · intro w' hw'
        skip
        go_simp
        first | done | with_reducible rfl | exact z16 _
      (try simp only [Act.put])
      (try simp only [List.setIfInBounds_toArray])
      (try simp only [List.set_cons_succ])
      (try simp only [List.set_cons_zero])
      refine readyC (rs := [12]) (by kernel_rfl) (by simp) ?_
      refine ReadyC.cons rfl (fun K hK => ?_) ReadyC.nil
      have y1 := n1 W2 hC.out
      have y2 := free_blk hC.out.1
      go_simp
      refine hK _ _ (fun h => absurd rfl h) ?_
      clear hK K
      (try simp only [Act.put])
      (try simp only [List.setIfInBounds_toArray])
      (try simp only [List.set_cons_succ])
      (try simp only [List.set_cons_zero])
      refine nameW (fun W3 hW => ?_)
      have HD16 : Hid (DidW w0 w b m S p T D'.2 (q.map (·.1) ++ [⟨N, pl ++ [A + (8 + n)]⟩]) W3) := by
        have h1 := HX9.out
        rw [HVS.out] at h1
        obtain ⟨T', hwl, hfr, hT'⟩ := h1.put (B := w.heap.size) HKt.out.1 (by simp) HF10.out HO10.out HGA.out (by simp) HFt.out.2.1 (by have := HPl.out; rw [List.length_append]; have := HFt.out; (first | done | omega | (simp; done) | (simp; omega))) HApt.out HGt.out.2.2.2.1 (fun k hk => by cases hk; exact HGt.out.2.2.2.2) HsT.out.1 HS9.out.2 HS9.out.1 HGt.out.1 Hsb.out HW.out.lv.below.size HST9.out.1.size HKt.out.2.1 HB16.out HPu.out hW
        exact ⟨S9, T', _, _, hwl, by rw [← HKn.out.1, List.take_left' rfl, List.map_append, ← HYE.out, ← HFL.out]; rfl, HST9.out.more hfr hT'⟩
      clear hW y1 y2 hC
      refine doneC (by kernel_rfl) ?_ _
      clear n1 k0 k1 z16
      go_wp2_with (fail)
      go_ret
      exact ⟨by rw [HE9.out]; rfl, fun e => absurd HE9.out e, fun _ => HD16.out⟩
    · have q9 : ((e9 : Int) != 0) = true := by simp; omega
      have q8 : ((e9 : Int) == 0) = false := by simp; omega
      have HE0 : Hid (e9 ≠ 0) := hz
      clear hz
      go_wp2_with (fail)
      go_ret
      exact ⟨by rw [HE9.out]; rfl, fun _ => ⟨S9, T, vs, _, HX9.out, by simp, HST9.out⟩, fun e => absurd (HE9.out.symm.trans e) HE0.out⟩
end Go.Proofs.YtkbmblmnhhlicaaGreatDoor

/- Append, walked: a full segment. -/
namespace Go.Proofs.YtkbmblmnhhlicaaGreatDoor
open Go.RowKit

set_option maxHeartbeats 8000000 in
set_option maxRecDepth 40000 in
theorem wapp_full {w0 w : World} {b m : Nat} {S : Nat → Prop} {d : Dk} {p : Nat} {T : Nat → Prop} {vs : Value} {q : Sgs} {N : Nat} {pl : List Nat} {xv : Value} (h : Wl w0 w b m S d p T vs (q ++ [(⟨N, pl⟩, xv)])) {ba : Option Addr} {n bc : Nat} {l : List UInt8} (hk : ∀ w', Fr (fun k => S k ∨ T k) w w' → BRow w' ba n bc l) (hn : n ≤ 8192) (X A : Nat) (hX : N + pl.length - 1 = X) (hXm : X < 1000000) (hA : pl.getLastD 0 = A) (hA2 : 2048 ≤ A) (hfw : q.length + 2 ≤ 1048576) (D1 : Nat × Dk) (hD1 : syncP d (nameL N) = D1) (hu : usedL D1.2.files + (8 + n) ≤ 1099511627776) (hf : D1.2.files.length + 1 ≤ 1048576) (D' : Nat × Dk) (hD : appendP D1.2 (nameL X) (frameL X l) = D') :
    Calls Tryz.prog 17 #[dptr p, .slice ba n bc] w fun e w' => (D1.1 ≠ 0 → e = .returned (.int .i64 (D1.1 : Int)) ∧ DidW w0 w b m S p T D1.2 (q.map (·.1) ++ [⟨N, pl⟩]) w') ∧ (D1.1 = 0 → e = .returned (.int .i64 (D'.1 : Int)) ∧ (D'.1 ≠ 0 → DidW w0 w b m S p T D'.2 (q.map (·.1) ++ [⟨N, pl⟩]) w') ∧ (D'.1 = 0 → DidW w0 w b m S p T D'.2 (q.map (·.1) ++ [⟨N, pl⟩] ++ [⟨X, [0, 8 + n]⟩]) w')) := by
  have HUt : Hid (usedL D1.2.files + (8 + n) ≤ 1099511627776 ∧ D1.2.files.length + 1 ≤ 1048576) := ⟨hu, hf⟩
  have HDt : Hid (appendP D1.2 (nameL X) (frameL X l) = D') := hD
  have HD1 : Hid (syncP d (nameL N) = D1) := hD1
  have HFw : Hid (q.length + 2 ≤ 1048576) := hfw
  clear hD hD1 hu hf hfw
  have hl0 : 1 ≤ pl.length := List.length_pos_iff.2 (h.lg.ne (⟨N, pl⟩, xv) (by simp))
  have hN9 : N ≤ 999999 := h.lg.num (⟨N, pl⟩, xv) (by simp)
  have hox : OwnI w 0 xv pl := h.lg.pls (⟨N, pl⟩, xv) (by simp)
  obtain ⟨g, c, rfl, hc, hgl, _, hcm⟩ := ownI_form hox (h.lg.ne (⟨N, pl⟩, xv) (by simp))
  obtain ⟨r, rc, hvs, hrc, hTr, hrm⟩ := h.lg.form (by simp)
  obtain ⟨nn, hnn⟩ : ∃ nn, (q ++ [((⟨N, pl⟩ : Sg), Value.slice (some ⟨g, 0, none⟩) pl.length c)]).length = nn := ⟨_, rfl⟩
  rw [hnn] at hvs hrc
  obtain ⟨K, hK0⟩ : ∃ K, q.length = K := ⟨_, rfl⟩
  have hnK : nn = K + 1 := by rw [← hnn, List.length_append, hK0]; rfl
  have hTg : T g := h.lg.ts (⟨N, pl⟩, Value.slice (some ⟨g, 0, none⟩) pl.length c) (by simp) g rfl
  have hgp : g ≠ p := by
    obtain ⟨cur, hcu⟩ := ownI_type hox (g := g) rfl
    exact ne_types hcu h.lg.blk (by decide)
  have hgr : r ≠ g := by
    obtain ⟨cur, hcu⟩ := ownI_type hox (g := g) rfl
    obtain ⟨cu2, hcu2⟩ := ownQ_type h.lg.row (g := r) (by rw [hvs]; rfl)
    exact ne_types hcu2 hcu (by decide)
  have hfew := h.lg.few
  rw [hnn] at hfew
  have hap0 : ∀ y ∈ q, y.2.ownBlock ≠ some g := fun y hy => by
    have := (List.pairwise_append.1 h.lg.apart).2.2 y hy _ (List.mem_singleton.2 rfl)
    exact this
  have hSlt : ∀ k, S k → k < w.heap.size := by
    obtain ⟨sl, hd⟩ := h.lv.dk
    exact hd.lt
  have hL : Calls Tryz.prog 18 #[dptr p] w fun e w' => e = .returned (.int .i64 ((X : Int) - 1)) ∧ Below w.heap.size w w' := (lastn_any h.lg).mono fun e w' q => ⟨by rw [q.1]; unfold Sg.next; rw [hX], q.2⟩
  have HW : Hid (Wl w0 w b m S d p T vs (q ++ [(⟨N, pl⟩, .slice (some ⟨g, 0, none⟩) pl.length c)])) := h
  have HK : Hid (∀ w', Fr (fun k => S k ∨ T k) w w' → BRow w' ba n bc l) := hk
  have HVS : Hid (vs = .slice (some ⟨r, 0, none⟩) nn rc) := hvs
  have HPlt : Hid (p < w.heap.size) := lt_blk h.lg.blk
  have HF0 : Hid (1 ≤ pl.length ∧ N ≤ 999999 ∧ N + pl.length - 1 = X ∧ X < 1000000) := ⟨hl0, hN9, hX, hXm⟩
  have HAe : Hid (pl.getLastD 0 = A ∧ n ≤ 8192) := ⟨hA, hn⟩
  have HG0 : Hid (T g ∧ g ≠ p ∧ r ≠ g ∧ T r ∧ g < w.heap.size ∧ nn ≤ rc) := ⟨hTg, hgp, hgr, hTr, hgl, hrc⟩
  have HAp : Hid (∀ y ∈ q, y.2.ownBlock ≠ some g) := hap0
  have HSl : Hid (∀ k, S k → k < w.heap.size) := hSlt
  have HKn : Hid (q.length = K ∧ nn = K + 1 ∧ nn ≤ 1048576) := ⟨hK0, hnK, hfew⟩
  have HLL : Hid (l.length = n) := (hk w (Fr.refl _ _)).1
  have bn : (n : Int) ≤ 8192 := by omega
  obtain ⟨LN, hLN⟩ : ∃ LN : Int, (X : Int) - 1 = LN := ⟨_, rfl⟩
  have qL : (LN == 999999) = false := by simp; omega
  have bL : LN ≤ 999998 := by omega
  rw [hLN] at hL
  have eK : (nn : Int) - 1 = (K : Int) := by omega
  have bK : (nn : Int) ≤ 1048576 := by omega
  have wK : IntKind.i64.wrap (K : Int) = (K : Int) := by rw [IntKind.wrap_i64]; omega
  have bA : (A : Int) ≥ 2048 := by omega
  clear h hk hl0 hN9 hX hXm hox hc hgl hcm hrc hTr hrm hnn hK0 hnK hTg hgp hgr hfew hap0 hSlt hLN hA hn hA2
  go_enter Tryz.func17, Tryz.ntmps17
  go_wp2_with (fail)
  refine hL.mono ?_
  rintro e w1 ⟨rfl, hb1⟩
  have HB1 : Hid (Below w.heap.size w w1) := hb1
  clear hL hb1
  go_upto_region 5 with fail
  go_cut [5, 6] from 10 to 78 (fun X5 Y6 wx => ∃ sb, X5 = dptr sb ∧ Y6 = .int .i64 (K : Int) ∧ Hid (SgB w wx sb N (.slice (some ⟨g, 0, none⟩) pl.length c)))
  case first =>
    have HPS : Hid (w1.heap[p]? = some (.cells #[dptr b, vs] 99 (0, 0))) := (HW.out.same HB1.out).lg.blk
    have n1 : ∀ w' : World, w'.heap[p]? = some (.cells #[dptr b, vs] 99 (0, 0)) → w'.cell? ⟨p, 1, none⟩ = some (.slice (some ⟨r, 0, none⟩) nn rc) := fun w' hw => by rw [← HVS.out]; exact cell_blk hw rfl
    have FL1 : Hid (∀ u, Below w1.heap.size w1 u → Calls Tryz.prog 64 #[dptr p] u fun e w' => e = .returned (sgV N (.slice (some ⟨g, 0, none⟩) pl.length c)) ∧ Below u.heap.size u w') := fun u hu => last_any ((HW.out.same HB1.out).same hu).lg
    refine regionC (fun (w' : World) => w'.heap[p]? = some (.cells #[dptr b, vs] 99 (0, 0))) 10 (by kernel_rfl) ?_
    (try (change wpAnyC _ _ _ _ _ _ _ _ _ (World.drew _)))
    refine nameW (fun W0 hW0 => ?_)
    have hC : Hid (W0.heap[p]? = some (.cells #[dptr b, vs] 99 (0, 0))) := by show _ = _; rw [hW0]; exact HPS.out
    have hB : Hid (Below w1.heap.size w1 W0) := by show Below _ _ _; rw [hW0]; exact ⟨rfl, rfl, rfl, Nat.le_refl _, fun _ _ => rfl⟩
    clear hW0
    refine takeC (i := 0) (v := ?_) rfl (by kernel_rfl) (by kernel_rfl) (by kernel_rfl) (by kernel_rfl) (by kernel_rfl) (fun _ _ _ h => h) hC.out (Or.inl ⟨by rfl, ?_⟩) ?_
    rotate_left 1
    · intro w' hw'
      skip
      go_simp
      first | done | with_reducible rfl
    (try simp only [Act.put])
    (try simp only [List.setIfInBounds_toArray])
    (try simp only [List.set_cons_succ])
    (try simp only [List.set_cons_zero])
    refine takeC (i := 2) (v := ?_) rfl (by kernel_rfl) (by kernel_rfl) (by kernel_rfl) (by kernel_rfl) (by kernel_rfl) (fun _ _ _ h => h) hC.out (Or.inl ⟨by rfl, ?_⟩) ?_
    rotate_left 1
    · intro w' hw'
      skip
      go_simp
      first | done | with_reducible rfl
    (try simp only [Act.put])
    (try simp only [List.setIfInBounds_toArray])
    (try simp only [List.set_cons_succ])
    (try simp only [List.set_cons_zero])
    refine takeC (i := 3) (v := ?_) rfl (by kernel_rfl) (by kernel_rfl) (by kernel_rfl) (by kernel_rfl) (by kernel_rfl) (fun _ _ _ h => h) hC.out (Or.inl ⟨by rfl, ?_⟩) ?_
    rotate_left 1
    · intro w' hw'
      skip
      go_simp
      first | done | with_reducible rfl
    (try simp only [Act.put])
    (try simp only [List.setIfInBounds_toArray])
    (try simp only [List.set_cons_succ])
    (try simp only [List.set_cons_zero])
    refine takeC (i := 4) (v := ?_) rfl (by kernel_rfl) (by kernel_rfl) (by kernel_rfl) (by kernel_rfl) (by kernel_rfl) (fun _ _ _ h => h) hC.out (Or.inl ⟨by rfl, ?_⟩) ?_
    rotate_left 1
    · intro w' hw'
      skip
      go_simp
      first | done | with_reducible rfl
    (try simp only [Act.put])
    (try simp only [List.setIfInBounds_toArray])
    (try simp only [List.set_cons_succ])
    (try simp only [List.set_cons_zero])
    refine takeC (i := 5) (v := ?_) rfl (by kernel_rfl) (by kernel_rfl) (by kernel_rfl) (by kernel_rfl) (by kernel_rfl) (fun _ _ _ h => h) hC.out (Or.inl ⟨by rfl, ?_⟩) ?_
    rotate_left 1
    · intro w' hw'
      have z0 := n1 w' hw'
      go_simp
      first | done | with_reducible rfl
    (try simp only [Act.put])
    (try simp only [List.setIfInBounds_toArray])
    (try simp only [List.set_cons_succ])
    (try simp only [List.set_cons_zero])
    refine takeC (i := 6) (v := ?_) rfl (by kernel_rfl) (by kernel_rfl) (by kernel_rfl) (by kernel_rfl) (by kernel_rfl) (fun _ _ _ h => h) hC.out (Or.inl ⟨by rfl, ?_⟩) ?_
    rotate_left 1
    · intro w' hw'
      skip
      go_simp
      first | done | with_reducible rfl
    (try simp only [Act.put])
    (try simp only [List.setIfInBounds_toArray])
    (try simp only [List.set_cons_succ])
    (try simp only [List.set_cons_zero])
    refine takeC (i := 7) (v := ?_) rfl (by kernel_rfl) (by kernel_rfl) (by kernel_rfl) (by kernel_rfl) (by kernel_rfl) (fun _ _ _ h => h) hC.out (Or.inl ⟨by rfl, ?_⟩) ?_
    rotate_left 1
    · intro w' hw'
      skip
      go_simp
      first | done | with_reducible rfl
    (try simp only [Act.put])
    (try simp only [List.setIfInBounds_toArray])
    (try simp only [List.set_cons_succ])
    (try simp only [List.set_cons_zero])
    refine readyC (rs := [1, 8]) (by kernel_rfl) (by simp) ?_
    refine ReadyC.cons rfl (fun K hK => ?_) ?_
    · refine stepV_call rfl 64 #[dptr p] (by kernel_rfl) (FL1.out W0 hB.out) (fun e w' h => ⟨_, h.1⟩) ?_
      intro v1 W1 hq
      obtain ⟨hv1, hq⟩ := hq
      have hv1' := Ending.returned.inj hv1
      subst hv1'
      have hq2 : Below w1.heap.size w1 W1 := hB.out.trans (hq.mono hB.out.size)
      have hq3 : W1.heap[p]? = some (.cells #[dptr b, vs] 99 (0, 0)) := (hq2.block _ (lt_blk HPS.out)).trans HPS.out
      refine hK _ _ (fun _ => hq3) ?_
      clear hK K
      (try simp only [Act.put])
      (try simp only [List.setIfInBounds_toArray])
      (try simp only [List.set_cons_succ])
      (try simp only [List.set_cons_zero])
      replace hC : Hid (W1.heap[p]? = some (.cells #[dptr b, vs] 99 (0, 0))) := hq3
      replace hB : Hid (Below w1.heap.size w1 W1) := hq2
      clear hv1 hq hq2 hq3
      refine readyC (rs := [8]) (by kernel_rfl) (by simp) ?_
      refine ReadyC.cons rfl (fun K hK => ?_) ReadyC.nil
      go_simp
      refine hK _ _ (fun _ => (heap_alloc_old W1 _ (lt_blk hC.out)).trans hC.out) ?_
      clear hK K
      (try simp only [Act.put])
      (try simp only [List.setIfInBounds_toArray])
      (try simp only [List.set_cons_succ])
      (try simp only [List.set_cons_zero])
      refine nameW (fun W2 hW => ?_)
      have hx : Below W1.heap.size W1 W2 := by rw [hW]; exact (Below.refl _ _).alloc (Nat.le_refl _) _
      obtain ⟨sb, hsb⟩ : ∃ sb, sb = W1.heap.size := ⟨_, rfl⟩
      have hG : Hid (W2.heap[sb]? = some (.cells #[.int .i64 (0 : Int), .slice none 0 0] 101 (0, 0))) := by show _ = _; rw [hW, hsb]; exact heap_alloc_new _ _
      have hsg : Hid (w.heap.size ≤ sb) := by show _ ≤ _; rw [hsb]; exact Nat.le_trans HB1.out.size hB.out.size
      rw [← hsb]
      replace hB : Hid (Below w1.heap.size w1 W2) := hB.out.trans (hx.mono hB.out.size)
      replace hC : Hid (W2.heap[p]? = some (.cells #[dptr b, vs] 99 (0, 0))) := (hB.out.block _ (lt_blk HPS.out)).trans HPS.out
      clear hx hW hsb
      refine readyC (rs := [9]) (by kernel_rfl) (by simp) ?_
      refine ReadyC.cons rfl (fun K hK => ?_) ReadyC.nil
      have y0 : W2.cell? ⟨sb, 0, none⟩ = some (.int .i64 0) := cell_blk hG.out rfl
      have y1 : W2.cell? ⟨sb, 1, none⟩ = some (.slice none 0 0) := cell_blk hG.out rfl
      have y2 := free_blk hG.out
      have hps : p ≠ sb := by have := hsg.out; have := HPlt.out; omega
      go_simp
      refine hK _ _ (fun _ => by show _ = _; rw [set_other _ hps, set_other _ hps]; exact hC.out) ?_
      clear hK K
      (try simp only [Act.put])
      (try simp only [List.setIfInBounds_toArray])
      (try simp only [List.set_cons_succ])
      (try simp only [List.set_cons_zero])
      refine nameW (fun W3 hW => ?_)
      have hS : Hid (SgB w W3 sb N (.slice (some ⟨g, 0, none⟩) pl.length c)) := by
        refine ⟨?_, hsg.out, by rw [hW]; exact set_blk (set_blk hG.out 0 _) 1 _⟩
        have hbb := HB1.out.trans (hB.out.mono HB1.out.size)
        rw [hW]
        refine ⟨hbb.os, hbb.tape, hbb.output, by rw [set_size, set_size]; exact hbb.size, fun k hk => ?_⟩
        rw [set_other _ (by have := hsg.out; omega), set_other _ (by have := hsg.out; omega)]
        exact hbb.block k hk
      replace hC : Hid (W3.heap[p]? = some (.cells #[dptr b, vs] 99 (0, 0))) := by show _ = _; rw [hW, set_other _ hps, set_other _ hps]; exact hC.out
      clear y0 y1 y2 hps hW hB hG
      refine readyC (rs := [10]) (by kernel_rfl) (by simp) ?_
      refine ReadyC.cons rfl (fun K hK => ?_) ReadyC.nil
      go_simp
      refine hK _ _ (fun _ => hC.out) ?_
      clear hK K
      (try simp only [Act.put])
      (try simp only [List.setIfInBounds_toArray])
      (try simp only [List.set_cons_succ])
      (try simp only [List.set_cons_zero])
      refine doneC (by kernel_rfl) ?_ _
      clear n1 FL1
      go_wp2_with (fail)
      go_meet
      case rel => exact ⟨sb, rfl, rfl, hS⟩
    refine ReadyC.cons rfl (fun K hK => ?_) ReadyC.nil
    go_simp
    refine hK _ _ (fun _ => (heap_alloc_old W0 _ (lt_blk hC.out)).trans hC.out) ?_
    clear hK K
    (try simp only [Act.put])
    (try simp only [List.setIfInBounds_toArray])
    (try simp only [List.set_cons_succ])
    (try simp only [List.set_cons_zero])
    refine nameW (fun W1 hW => ?_)
    have hx : Below W0.heap.size W0 W1 := by rw [hW]; exact (Below.refl _ _).alloc (Nat.le_refl _) _
    obtain ⟨sb, hsb⟩ : ∃ sb, sb = W0.heap.size := ⟨_, rfl⟩
    have hG : Hid (W1.heap[sb]? = some (.cells #[.int .i64 (0 : Int), .slice none 0 0] 101 (0, 0))) := by show _ = _; rw [hW, hsb]; exact heap_alloc_new _ _
    have hsg : Hid (w.heap.size ≤ sb) := by show _ ≤ _; rw [hsb]; exact Nat.le_trans HB1.out.size hB.out.size
    rw [← hsb]
    replace hB : Hid (Below w1.heap.size w1 W1) := hB.out.trans (hx.mono hB.out.size)
    replace hC : Hid (W1.heap[p]? = some (.cells #[dptr b, vs] 99 (0, 0))) := (hB.out.block _ (lt_blk HPS.out)).trans HPS.out
    clear hx hW hsb
    refine readyC (rs := [1]) (by kernel_rfl) (by simp) ?_
    refine ReadyC.cons rfl (fun K hK => ?_) ReadyC.nil
    refine stepV_call rfl 64 #[dptr p] (by kernel_rfl) (FL1.out W1 hB.out) (fun e w' h => ⟨_, h.1⟩) ?_
    intro v1 W2 hq
    obtain ⟨hv1, hq⟩ := hq
    have hv1' := Ending.returned.inj hv1
    subst hv1'
    have hq2 : Below w1.heap.size w1 W2 := hB.out.trans (hq.mono hB.out.size)
    have hq3 : W2.heap[p]? = some (.cells #[dptr b, vs] 99 (0, 0)) := (hq2.block _ (lt_blk HPS.out)).trans HPS.out
    refine hK _ _ (fun _ => hq3) ?_
    clear hK K
    (try simp only [Act.put])
    (try simp only [List.setIfInBounds_toArray])
    (try simp only [List.set_cons_succ])
    (try simp only [List.set_cons_zero])
    replace hG : Hid (W2.heap[sb]? = some (.cells #[.int .i64 (0 : Int), .slice none 0 0] 101 (0, 0))) := (hq.block _ (lt_blk hG.out)).trans hG.out
    replace hC : Hid (W2.heap[p]? = some (.cells #[dptr b, vs] 99 (0, 0))) := hq3
    replace hB : Hid (Below w1.heap.size w1 W2) := hq2
    clear hv1 hq hq2 hq3
    refine readyC (rs := [9]) (by kernel_rfl) (by simp) ?_
    refine ReadyC.cons rfl (fun K hK => ?_) ReadyC.nil
    have y0 : W2.cell? ⟨sb, 0, none⟩ = some (.int .i64 0) := cell_blk hG.out rfl
    have y1 : W2.cell? ⟨sb, 1, none⟩ = some (.slice none 0 0) := cell_blk hG.out rfl
    have y2 := free_blk hG.out
    have hps : p ≠ sb := by have := hsg.out; have := HPlt.out; omega
    go_simp
    refine hK _ _ (fun _ => by show _ = _; rw [set_other _ hps, set_other _ hps]; exact hC.out) ?_
    clear hK K
    (try simp only [Act.put])
    (try simp only [List.setIfInBounds_toArray])
    (try simp only [List.set_cons_succ])
    (try simp only [List.set_cons_zero])
    refine nameW (fun W3 hW => ?_)
    have hS : Hid (SgB w W3 sb N (.slice (some ⟨g, 0, none⟩) pl.length c)) := by
      refine ⟨?_, hsg.out, by rw [hW]; exact set_blk (set_blk hG.out 0 _) 1 _⟩
      have hbb := HB1.out.trans (hB.out.mono HB1.out.size)
      rw [hW]
      refine ⟨hbb.os, hbb.tape, hbb.output, by rw [set_size, set_size]; exact hbb.size, fun k hk => ?_⟩
      rw [set_other _ (by have := hsg.out; omega), set_other _ (by have := hsg.out; omega)]
      exact hbb.block k hk
    replace hC : Hid (W3.heap[p]? = some (.cells #[dptr b, vs] 99 (0, 0))) := by show _ = _; rw [hW, set_other _ hps, set_other _ hps]; exact hC.out
    clear y0 y1 y2 hps hW hB hG
    refine readyC (rs := [10]) (by kernel_rfl) (by simp) ?_
    refine ReadyC.cons rfl (fun K hK => ?_) ReadyC.nil
    go_simp
    refine hK _ _ (fun _ => hC.out) ?_
    clear hK K
    (try simp only [Act.put])
    (try simp only [List.setIfInBounds_toArray])
    (try simp only [List.set_cons_succ])
    (try simp only [List.set_cons_zero])
    refine doneC (by kernel_rfl) ?_ _
    clear n1 FL1
    go_wp2_with (fail)
    go_meet
    case rel => exact ⟨sb, rfl, rfl, hS⟩
  case rest =>
    obtain ⟨sb, h5, h6, HSb⟩ := hcut
    subst h5 h6
    obtain ⟨w5, hw5⟩ : ∃ w5, w5 = wc := ⟨_, rfl⟩
    subst hw5
    clear HB1 hvs qL bL
    have s0 : w5.cell? ⟨sb, 0, none⟩ = some (.int .i64 (N : Int)) := cell_blk HSb.out.2.2 rfl
    have s1 : w5.cell? ⟨sb, 1, none⟩ = some (.slice (some ⟨g, 0, none⟩) pl.length c) := cell_blk HSb.out.2.2 rfl
    have hSz : Calls Tryz.prog 65 #[sgV N (.slice (some ⟨g, 0, none⟩) pl.length c)] w5 fun e w' => e = .returned (.int .i64 (A : Int)) ∧ Below w5.heap.size w5 w' :=
      (size_any N ((HW.out.same HSb.out.1).lg.pls (⟨N, pl⟩, Value.slice (some ⟨g, 0, none⟩) pl.length c) (by simp)) (List.length_pos_iff.1 HF0.out.1) (by have := HF0.out; omega) (by have := HF0.out; show pl.length ≤ _; omega)).mono fun e w' q => ⟨by rw [q.1, ← HAe.out.1], q.2⟩
    go_wp2_with (fail)
    refine hSz.mono ?_
    rintro e w6 ⟨rfl, hb6⟩
    have HB6 : Hid (Below w.heap.size w w6) := HSb.out.1.trans (hb6.mono HSb.out.1.size)
    have HS6 : Hid (w6.heap[sb]? = some (.cells #[.int .i64 (N : Int), .slice (some ⟨g, 0, none⟩) pl.length c] 101 (0, 0))) := (hb6.block _ (lt_blk HSb.out.2.2)).trans HSb.out.2.2
    have Hsb : Hid (w.heap.size ≤ sb) := HSb.out.2.1
    have HsT : Hid (¬ T sb ∧ ¬ S sb) := ⟨fun e => by have := HW.out.lg.lt _ e; have := Hsb.out; omega, fun e => by have := HSl.out _ e; have := Hsb.out; omega⟩
    clear hSz hb6 s0 s1 HSb
    have hSy := wsync_any (HW.out.same HB6.out)
    simp only at hSy
    rw [HD1.out] at hSy
    go_wp2_with (fail)
    refine hSy.mono ?_
    rintro e w7 ⟨rfl, hwl7, hst7⟩
    have HW7 : Hid (Wl w0 w7 b m S D1.2 p T vs ((q ++ [(⟨N, pl⟩, .slice (some ⟨g, 0, none⟩) pl.length c)] : Sgs))) := hwl7
    have HST7 : Hid (StW w S T w7 S T) := (StW.same S T HB6.out).trans hst7
    have HS7 : Hid (w7.heap[sb]? = some (.cells #[.int .i64 (N : Int), .slice (some ⟨g, 0, none⟩) pl.length c] 101 (0, 0))) := (hst7.1.block sb (lt_blk HS6.out) (fun e => e.elim HsT.out.2 HsT.out.1)).trans HS6.out
    clear hSy hwl7 hst7 HB6 HS6
    obtain ⟨e7, he7⟩ : ∃ e7, D1.1 = e7 := ⟨_, rfl⟩
    rw [he7]
    have HE7 : Hid (D1.1 = e7) := he7
    clear he7
    by_cases hz7 : e7 = 0
    · subst hz7
      have HPS : Hid (w7.heap[p]? = some (.cells #[dptr b, vs] 99 (0, 0))) := HW7.out.lg.blk
      have n1 : ∀ w' : World, w'.heap[p]? = some (.cells #[dptr b, vs] 99 (0, 0)) → w'.cell? ⟨p, 1, none⟩ = some (.slice (some ⟨r, 0, none⟩) nn rc) := fun w' hw => by rw [← HVS.out]; exact cell_blk hw rfl
      have FX7 : Hid (∀ u, Below w7.heap.size w7 u → Calls Tryz.prog 67 #[sgV N (.slice (some ⟨g, 0, none⟩) pl.length c)] u fun e w' => e = .returned (.int .i64 (X : Int)) ∧ Below u.heap.size u w') := fun u hu =>
        (next_any u N _ _ _ (by have := HF0.out; omega) (by have := HF0.out; omega) (by have := HF0.out; omega)).mono fun e w' q => ⟨by rw [q.1]; have := HF0.out; congr 2; omega, q.2⟩
      have FE7 : Hid (∀ u, Below w7.heap.size w7 u → Calls Tryz.prog 66 #[.int .i64 (X : Int)] u fun e w' => ∃ g, e = .returned (sgV X (.slice (some ⟨g, 0, none⟩) 1 1)) ∧ OwnI w' u.heap.size (.slice (some ⟨g, 0, none⟩) 1 1) [0] ∧ Below u.heap.size u w') := fun u hu => empty_any u X
      go_wp2_with (fail)
      refine regionC (fun (w' : World) => w'.heap[p]? = some (.cells #[dptr b, vs] 99 (0, 0))) 9 (by kernel_rfl) ?_
      (try (change wpAnyC _ _ _ _ _ _ _ _ _ (World.drew _)))
      refine nameW (fun W0 hW0 => ?_)
      have hC : Hid (W0.heap[p]? = some (.cells #[dptr b, vs] 99 (0, 0))) := by show _ = _; rw [hW0]; exact HPS.out
      have hG : Hid (W0.heap[sb]? = some (.cells #[.int .i64 (N : Int), .slice (some ⟨g, 0, none⟩) pl.length c] 101 (0, 0))) := by show _ = _; rw [hW0]; exact HS7.out
      have hB : Hid (Below w7.heap.size w7 W0) := by show Below _ _ _; rw [hW0]; exact ⟨rfl, rfl, rfl, Nat.le_refl _, fun _ _ => rfl⟩
      clear hW0
      refine takeC (i := 3) (v := ?_) rfl (by kernel_rfl) (by kernel_rfl) (by kernel_rfl) (by kernel_rfl) (by kernel_rfl) (fun _ _ _ h => h) hC.out (Or.inl ⟨by rfl, ?_⟩) ?_
      rotate_left 1
      · intro w' hw'
        skip
        go_simp
        first | done | with_reducible rfl
      (try simp only [Act.put])
      (try simp only [List.setIfInBounds_toArray])
      (try simp only [List.set_cons_succ])
      (try simp only [List.set_cons_zero])
      refine takeC (i := 4) (v := ?_) rfl (by kernel_rfl) (by kernel_rfl) (by kernel_rfl) (by kernel_rfl) (by kernel_rfl) (fun _ _ _ h => h) hC.out (Or.inl ⟨by rfl, ?_⟩) ?_
      rotate_left 1
      · intro w' hw'
        skip
        go_simp
        first | done | with_reducible rfl
      (try simp only [Act.put])
      (try simp only [List.setIfInBounds_toArray])
      (try simp only [List.set_cons_succ])
      (try simp only [List.set_cons_zero])
      refine takeC (i := 5) (v := ?_) rfl (by kernel_rfl) (by kernel_rfl) (by kernel_rfl) (by kernel_rfl) (by kernel_rfl) (fun _ _ _ h => h) hC.out (Or.inl ⟨by rfl, ?_⟩) ?_
      rotate_left 1
      · intro w' hw'
        skip
        go_simp
        first | done | with_reducible rfl
      (try simp only [Act.put])
      (try simp only [List.setIfInBounds_toArray])
      (try simp only [List.set_cons_succ])
      (try simp only [List.set_cons_zero])
      refine takeC (i := 6) (v := ?_) rfl (by kernel_rfl) (by kernel_rfl) (by kernel_rfl) (by kernel_rfl) (by kernel_rfl) (fun _ _ _ h => h) hC.out (Or.inl ⟨by rfl, ?_⟩) ?_
      rotate_left 1
      · intro w' hw'
        have z0 := n1 w' hw'
        go_simp
        first | done | with_reducible rfl
      (try simp only [Act.put])
      (try simp only [List.setIfInBounds_toArray])
      (try simp only [List.set_cons_succ])
      (try simp only [List.set_cons_zero])
      refine takeC (i := 7) (v := ?_) rfl (by kernel_rfl) (by kernel_rfl) (by kernel_rfl) (by kernel_rfl) (by kernel_rfl) (fun _ _ _ h => h) hC.out (Or.inl ⟨by rfl, ?_⟩) ?_
      rotate_left 1
      · intro w' hw'
        skip
        go_simp
        first | done | with_reducible rfl
      (try simp only [Act.put])
      (try simp only [List.setIfInBounds_toArray])
      (try simp only [List.set_cons_succ])
      (try simp only [List.set_cons_zero])
      refine readyC (rs := [0]) (by kernel_rfl) (by simp) ?_
      refine ReadyC.cons rfl (fun K hK => ?_) ReadyC.nil
      have y0 : W0.cell? ⟨sb, 0, none⟩ = some (.int .i64 (N : Int)) := cell_blk hG.out rfl
      have y1 : W0.cell? ⟨sb, 1, none⟩ = some (.slice (some ⟨g, 0, none⟩) pl.length c) := cell_blk hG.out rfl
      go_simp
      refine hK _ _ (fun _ => hC.out) ?_
      clear hK K
      (try simp only [Act.put])
      (try simp only [List.setIfInBounds_toArray])
      (try simp only [List.set_cons_succ])
      (try simp only [List.set_cons_zero])
      clear y0 y1
      refine readyC (rs := [1]) (by kernel_rfl) (by simp) ?_
      refine ReadyC.cons rfl (fun K hK => ?_) ReadyC.nil
      refine stepV_call rfl 67 #[sgV N (.slice (some ⟨g, 0, none⟩) pl.length c)] (by kernel_rfl) (FX7.out W0 hB.out) (fun e w' h => ⟨_, h.1⟩) ?_
      intro v1 W1 hq
      obtain ⟨hv1, hq⟩ := hq
      have hv1' := Ending.returned.inj hv1
      subst hv1'
      have hq2 : Below w7.heap.size w7 W1 := hB.out.trans (hq.mono hB.out.size)
      have hq3 : W1.heap[p]? = some (.cells #[dptr b, vs] 99 (0, 0)) := (hq2.block _ (lt_blk HPS.out)).trans HPS.out
      refine hK _ _ (fun _ => hq3) ?_
      clear hK K
      (try simp only [Act.put])
      (try simp only [List.setIfInBounds_toArray])
      (try simp only [List.set_cons_succ])
      (try simp only [List.set_cons_zero])
      replace hG : Hid (W1.heap[sb]? = some (.cells #[.int .i64 (N : Int), .slice (some ⟨g, 0, none⟩) pl.length c] 101 (0, 0))) := (hq.block _ (lt_blk hG.out)).trans hG.out
      replace hC : Hid (W1.heap[p]? = some (.cells #[dptr b, vs] 99 (0, 0))) := hq3
      replace hB : Hid (Below w7.heap.size w7 W1) := hq2
      clear hv1 hq hq2 hq3
      refine readyC (rs := [2]) (by kernel_rfl) (by simp) ?_
      refine ReadyC.cons rfl (fun K hK => ?_) ReadyC.nil
      refine stepV_call rfl 66 #[.int .i64 (X : Int)] (by kernel_rfl) (FE7.out W1 hB.out) (fun e w' h => by obtain ⟨_, h, _⟩ := h; exact ⟨_, h⟩) ?_
      intro v1 W2 hq
      obtain ⟨g2, hv1, hoe, hq⟩ := hq
      have hv1' := Ending.returned.inj hv1
      subst hv1'
      have hq2 : Below w7.heap.size w7 W2 := hB.out.trans (hq.mono hB.out.size)
      have hq3 : W2.heap[p]? = some (.cells #[dptr b, vs] 99 (0, 0)) := (hq2.block _ (lt_blk HPS.out)).trans HPS.out
      refine hK _ _ (fun _ => hq3) ?_
      clear hK K
      (try simp only [Act.put])
      (try simp only [List.setIfInBounds_toArray])
      (try simp only [List.set_cons_succ])
      (try simp only [List.set_cons_zero])
      replace hG : Hid (W2.heap[sb]? = some (.cells #[.int .i64 (N : Int), .slice (some ⟨g, 0, none⟩) pl.length c] 101 (0, 0))) := (hq.block _ (lt_blk hG.out)).trans hG.out
      have HO2 : Hid (OwnI W2 0 (.slice (some ⟨g2, 0, none⟩) 1 1) [0] ∧ w7.heap.size ≤ g2) := ⟨ownI_mono hoe (Nat.zero_le _), Nat.le_trans hB.out.size (hoe.lt g2 rfl).1⟩
      clear hoe
      replace hC : Hid (W2.heap[p]? = some (.cells #[dptr b, vs] 99 (0, 0))) := hq3
      replace hB : Hid (Below w7.heap.size w7 W2) := hq2
      clear hv1 hq hq2 hq3
      refine readyC (rs := [8]) (by kernel_rfl) (by simp) ?_
      refine ReadyC.cons rfl (fun K hK => ?_) ReadyC.nil
      have y0 : W2.cell? ⟨sb, 0, none⟩ = some (.int .i64 (N : Int)) := cell_blk hG.out rfl
      have y1 : W2.cell? ⟨sb, 1, none⟩ = some (.slice (some ⟨g, 0, none⟩) pl.length c) := cell_blk hG.out rfl
      have y2 := free_blk hG.out
      have hps : p ≠ sb := by have := Hsb.out; have := HPlt.out; omega
      go_simp
      refine hK _ _ (fun _ => by show _ = _; rw [set_other _ hps, set_other _ hps]; exact hC.out) ?_
      clear hK K
      (try simp only [Act.put])
      (try simp only [List.setIfInBounds_toArray])
      (try simp only [List.set_cons_succ])
      (try simp only [List.set_cons_zero])
      refine nameW (fun W3 hW => ?_)
      have HS8 : Hid (W3.heap[sb]? = some (.cells #[.int .i64 (X : Int), .slice (some ⟨g2, 0, none⟩) 1 1] 101 (0, 0))) := by show _ = _; rw [hW]; exact set_blk (set_blk hG.out 0 _) 1 _
      have HO8 : Hid (OwnI W3 0 (.slice (some ⟨g2, 0, none⟩) 1 1) [0]) := ownI_keep HO2.out.1 (fun k hk => by rw [hW, set_other _ (sg_ne HO2.out.1 hG.out hk), set_other _ (sg_ne HO2.out.1 hG.out hk)])
      have HF8 : Hid (Fr (fun k => k = sb) w7 W3) := by show Fr _ _ _; rw [hW]; exact Fr.set (S := fun k => k = sb) (p := ⟨sb, 1, none⟩) (Fr.set (S := fun k => k = sb) (p := ⟨sb, 0, none⟩) (Fr.of_below _ hB.out) rfl _) rfl _
      have HG8 : Hid (w7.heap.size ≤ g2 ∧ g2 < W3.heap.size) := ⟨HO2.out.2, (HO8.out.lt g2 rfl).2⟩
      replace hC : Hid (W3.heap[p]? = some (.cells #[dptr b, vs] 99 (0, 0))) := by show _ = _; rw [hW, set_other _ hps, set_other _ hps]; exact hC.out
      clear y0 y1 y2 hps hW hB hG HO2
      refine readyC (rs := [9]) (by kernel_rfl) (by simp) ?_
      refine ReadyC.cons rfl (fun K hK => ?_) ReadyC.nil
      go_simp
      refine hK _ _ (fun _ => hC.out) ?_
      clear hK K
      (try simp only [Act.put])
      (try simp only [List.setIfInBounds_toArray])
      (try simp only [List.set_cons_succ])
      (try simp only [List.set_cons_zero])
      refine doneC (by kernel_rfl) ?_ _
      clear n1 FX7 FE7
      obtain ⟨wt, hwt⟩ : ∃ wt, wt = W3 := ⟨_, rfl⟩
      subst hwt
      obtain ⟨A2, hA2⟩ : ∃ A2, A2 = 0 := ⟨_, rfl⟩
      have HA2 : Hid (A2 = 0) := hA2
      clear hA2 hC
      have HWt : Hid (Wl w0 wt b m S D1.2 p T vs ((q ++ [(⟨N, pl⟩, .slice (some ⟨g, 0, none⟩) pl.length c)] : Sgs))) := HW7.out.other HF8.out HsT.out.2 HsT.out.1 (Nat.le_trans HW.out.lv.below.size Hsb.out)
      have HStt : Hid (StW w S T wt S T) := HST7.out.more (S1 := S) ⟨HF8.out.os, HF8.out.tape, HF8.out.output, HF8.out.size, fun k hk hn => HF8.out.block k hk (fun e => hn (.inr (e ▸ Hsb.out)))⟩ (fun k hk => .inl hk)
      have HSbt : Hid (wt.heap[sb]? = some (.cells #[.int .i64 (X : Int), .slice (some ⟨g2, 0, none⟩) 1 1] 101 (0, 0))) := HS8.out
      have HOt : Hid (OwnI wt 0 (.slice (some ⟨g2, 0, none⟩) 1 1) ([0] : List Nat)) := HO8.out
      have HFt : Hid (1 ≤ ([0] : List Nat).length ∧ X ≤ 999999 ∧ X + ([0] : List Nat).length - 1 = X ∧ X < 1000000) := ⟨Nat.le_refl _, by have := HF0.out; omega, by simp, HF0.out.2.2.2⟩
      have HAt : Hid (([0] : List Nat).getLastD 0 = A2 ∧ A2 < 2048) := by
        have := HA2.out
        exact ⟨by rw [this]; rfl, by omega⟩
      have hw7 : w.heap.size ≤ w7.heap.size := HST7.out.1.size
      have HGt : Hid ((T g2 ∨ w.heap.size ≤ g2) ∧ ¬ S g2 ∧ g2 < wt.heap.size ∧ g2 ≠ p ∧ r ≠ g2) := by
        have h1 := HG8.out
        have h2 := HPlt.out
        have h3 := HW.out.lg.lt r HG0.out.2.2.2.1
        exact ⟨.inr (by omega), fun e => by have := HSl.out _ e; omega, h1.2, by omega, by omega⟩
      have HApt : Hid (∀ y ∈ ((q ++ [(⟨N, pl⟩, .slice (some ⟨g, 0, none⟩) pl.length c)] : Sgs)).take nn, y.2.ownBlock ≠ some g2) := fun y hy e => by
        have h1 := HG8.out
        have h4 := HW.out.lg.lt g2 (HW.out.lg.ts y (List.mem_of_mem_take hy) g2 e)
        omega
      have HKt : Hid (nn ≤ ((q ++ [(⟨N, pl⟩, .slice (some ⟨g, 0, none⟩) pl.length c)] : Sgs)).length ∧ nn + 1 ≤ 1048576 ∧ nn ≤ rc) := by
        have h1 := HKn.out
        have h3 := HFw.out
        refine ⟨?_, ?_, HG0.out.2.2.2.2.2⟩
        · rw [List.length_append]; simp; omega
        · omega
      clear hw7 HS8 HO8 HF8 HG8 HPS HW7 HST7 HS7 bK eK wK
      have t0 : wt.cell? ⟨sb, 0, none⟩ = some (.int .i64 (X : Int)) := cell_blk HSbt.out rfl
      have t1 : wt.cell? ⟨sb, 1, none⟩ = some (.slice (some ⟨g2, 0, none⟩) 1 1) := cell_blk HSbt.out rfl
      have hNx : Calls Tryz.prog 67 #[sgV X (.slice (some ⟨g2, 0, none⟩) 1 1)] wt fun e w' => e = .returned (.int .i64 (X : Int)) ∧ Below wt.heap.size wt w' :=
        (next_any wt X _ _ _ (by have := HFt.out; (try simp only [List.length_cons, List.length_nil] at this); (try simp only [List.length_cons, List.length_nil]); omega) (by have := HFt.out; omega) (by have := HFt.out; (try simp only [List.length_cons, List.length_nil] at this); (try simp only [List.length_cons, List.length_nil]); omega)).mono fun e w' q => ⟨by rw [q.1]; have := HFt.out; (try simp only [List.length_cons, List.length_nil] at this); (try simp only [List.length_cons, List.length_nil]); congr 2; (try omega), q.2⟩
      go_wp2_with (fail)
      refine hNx.mono ?_
      rintro e w7 ⟨rfl, hb7⟩
      have HB7 : Hid (Below wt.heap.size wt w7) := hb7
      clear hb7 hNx t0 t1
      have hFm := frame_any (w := w7) (HWt.out.same HB7.out).tabs X (by have := HFt.out; omega) (HK.out w7 (HStt.out.1.tr (Fr.of_below _ HB7.out))) HAe.out.2
      go_wp2_with (fail)
      refine hFm.mono ?_
      rintro e w8 ⟨fv, rfl, ho8, hb8⟩
      obtain ⟨fa, fc, hfv⟩ := own_slice ho8
      subst hfv
      have hrw8 := own_brow ho8
      have hfl : (frameL X l).length = 8 + n := by rw [frameL_length, HLL.out]
      rw [hfl] at hrw8 ⊢
      obtain ⟨fl, hfl2⟩ : ∃ fl, 8 + n = fl := ⟨_, rfl⟩
      rw [hfl2] at hrw8 ⊢
      have HF8 : Hid (BRow w8 fa fl fc (frameL X l)) := hrw8
      have HFL : Hid (8 + n = fl) := hfl2
      have HFLL : Hid ((frameL X l).length = fl) := by show _ = _; rw [hfl, hfl2]
      have HB8 : Hid (Below wt.heap.size wt w8) := HB7.out.trans (hb8.mono HB7.out.size)
      have HW8 : Hid (Wl w0 w8 b m S D1.2 p T vs ((q ++ [(⟨N, pl⟩, .slice (some ⟨g, 0, none⟩) pl.length c)] : Sgs))) := HWt.out.same HB8.out
      have HPS : Hid (w8.heap[p]? = some (.cells #[dptr b, vs] 99 (0, 0)) ∧ w8.heap[sb]? = some (.cells #[.int .i64 (X : Int), .slice (some ⟨g2, 0, none⟩) 1 1] 101 (0, 0))) := ⟨HW8.out.lg.blk, (HB8.out.block _ (lt_blk HSbt.out)).trans HSbt.out⟩
      have HO8 : Hid (OwnI w8 0 (.slice (some ⟨g2, 0, none⟩) 1 1) (([0] : List Nat))) := ownI_below HOt.out HB8.out
      have HST8 : Hid (StW w S T w8 S T) := HStt.out.trans (StW.same S T HB8.out)
      have n0 : ∀ w' : World, w'.heap[p]? = some (.cells #[dptr b, vs] 99 (0, 0)) ∧ w'.heap[sb]? = some (.cells #[.int .i64 (X : Int), .slice (some ⟨g2, 0, none⟩) 1 1] 101 (0, 0)) → w'.cell? ⟨p, 0, none⟩ = some (dptr b) := fun w' hw => cell_blk hw.1 rfl
      have m0 : ∀ w' : World, w'.heap[p]? = some (.cells #[dptr b, vs] 99 (0, 0)) ∧ w'.heap[sb]? = some (.cells #[.int .i64 (X : Int), .slice (some ⟨g2, 0, none⟩) 1 1] 101 (0, 0)) → w'.cell? ⟨sb, 0, none⟩ = some (.int .i64 (X : Int)) := fun w' hw => cell_blk hw.2 rfl
      have m1 : ∀ w' : World, w'.heap[p]? = some (.cells #[dptr b, vs] 99 (0, 0)) ∧ w'.heap[sb]? = some (.cells #[.int .i64 (X : Int), .slice (some ⟨g2, 0, none⟩) 1 1] 101 (0, 0)) → w'.cell? ⟨sb, 1, none⟩ = some (.slice (some ⟨g2, 0, none⟩) 1 1) := fun w' hw => cell_blk hw.2 rfl
      have FN8 : Hid (∀ u, Below w8.heap.size w8 u → Calls Tryz.prog 69 #[sgV X (.slice (some ⟨g2, 0, none⟩) 1 1)] u fun e w' => e = .returned (strN (nameL X)) ∧ Below u.heap.size u w') := fun u hu => name_any (HW8.out.same hu).tabs _ (by have := HFt.out; omega) _
      clear hFm ho8 hb8 hrw8 hfl hfl2 HB7
      go_wp2_with (fail)
      refine regionC (fun (w' : World) => w'.heap[p]? = some (.cells #[dptr b, vs] 99 (0, 0)) ∧ w'.heap[sb]? = some (.cells #[.int .i64 (X : Int), .slice (some ⟨g2, 0, none⟩) 1 1] 101 (0, 0))) 8 (by kernel_rfl) ?_
      (try (change wpAnyC _ _ _ _ _ _ _ _ _ (World.drew _)))
      refine nameW (fun W0 hW0 => ?_)
      have hC : Hid (W0.heap[p]? = some (.cells #[dptr b, vs] 99 (0, 0)) ∧ W0.heap[sb]? = some (.cells #[.int .i64 (X : Int), .slice (some ⟨g2, 0, none⟩) 1 1] 101 (0, 0))) := by show _ ∧ _; rw [hW0]; exact HPS.out
      have hB : Hid (Below w8.heap.size w8 W0) := by show Below _ _ _; rw [hW0]; exact ⟨rfl, rfl, rfl, Nat.le_refl _, fun _ _ => rfl⟩
      clear hW0
      refine takeC (i := 0) (v := ?_) rfl (by kernel_rfl) (by kernel_rfl) (by kernel_rfl) (by kernel_rfl) (by kernel_rfl) (fun _ _ _ h => h) hC.out (Or.inl ⟨by rfl, ?_⟩) ?_
      rotate_left 1
      · intro w' hw'
        skip
        go_simp
        first | done | with_reducible rfl
      (try simp only [Act.put])
      (try simp only [List.setIfInBounds_toArray])
      (try simp only [List.set_cons_succ])
      (try simp only [List.set_cons_zero])
      refine takeC (i := 1) (v := ?_) rfl (by kernel_rfl) (by kernel_rfl) (by kernel_rfl) (by kernel_rfl) (by kernel_rfl) (fun _ _ _ h => h) hC.out (Or.inl ⟨by rfl, ?_⟩) ?_
      rotate_left 1
      · intro w' hw'
        skip
        go_simp
        first | done | with_reducible rfl
      (try simp only [Act.put])
      (try simp only [List.setIfInBounds_toArray])
      (try simp only [List.set_cons_succ])
      (try simp only [List.set_cons_zero])
      refine takeC (i := 2) (v := ?_) rfl (by kernel_rfl) (by kernel_rfl) (by kernel_rfl) (by kernel_rfl) (by kernel_rfl) (fun _ _ _ h => h) hC.out (Or.inl ⟨by rfl, ?_⟩) ?_
      rotate_left 1
      · intro w' hw'
        skip
        go_simp
        first | done | with_reducible rfl
      (try simp only [Act.put])
      (try simp only [List.setIfInBounds_toArray])
      (try simp only [List.set_cons_succ])
      (try simp only [List.set_cons_zero])
      refine takeC (i := 3) (v := ?_) rfl (by kernel_rfl) (by kernel_rfl) (by kernel_rfl) (by kernel_rfl) (by kernel_rfl) (fun _ _ _ h => h) hC.out (Or.inl ⟨by rfl, ?_⟩) ?_
      rotate_left 1
      · intro w' hw'
        have z0 := n0 w' hw'; have z1 := m0 w' hw'; have z2 := m1 w' hw'
        go_simp
        first | done | with_reducible rfl
      (try simp only [Act.put])
      (try simp only [List.setIfInBounds_toArray])
      (try simp only [List.set_cons_succ])
      (try simp only [List.set_cons_zero])
      refine takeC (i := 4) (v := ?_) rfl (by kernel_rfl) (by kernel_rfl) (by kernel_rfl) (by kernel_rfl) (by kernel_rfl) (fun _ _ _ h => h) hC.out (Or.inl ⟨by rfl, ?_⟩) ?_
      rotate_left 1
      · intro w' hw'
        have z0 := n0 w' hw'; have z1 := m0 w' hw'; have z2 := m1 w' hw'
        go_simp
        first | done | with_reducible rfl
      (try simp only [Act.put])
      (try simp only [List.setIfInBounds_toArray])
      (try simp only [List.set_cons_succ])
      (try simp only [List.set_cons_zero])
      refine takeC (i := 6) (v := ?_) rfl (by kernel_rfl) (by kernel_rfl) (by kernel_rfl) (by kernel_rfl) (by kernel_rfl) (fun _ _ _ h => h) hC.out (Or.inl ⟨by rfl, ?_⟩) ?_
      rotate_left 1
      · intro w' hw'
        skip
        go_simp
        first | done | with_reducible rfl
      (try simp only [Act.put])
      (try simp only [List.setIfInBounds_toArray])
      (try simp only [List.set_cons_succ])
      (try simp only [List.set_cons_zero])
      refine readyC (rs := [5]) (by kernel_rfl) (by simp) ?_
      refine ReadyC.cons rfl (fun K hK => ?_) ReadyC.nil
      refine stepV_call rfl 69 #[sgV X (.slice (some ⟨g2, 0, none⟩) 1 1)] (by kernel_rfl) (FN8.out W0 hB.out) (fun e w' h => ⟨_, h.1⟩) ?_
      intro v1 W1 hq
      obtain ⟨hv1, hq⟩ := hq
      have hv1' := Ending.returned.inj hv1
      subst hv1'
      have hq2 : Below w8.heap.size w8 W1 := hB.out.trans (hq.mono hB.out.size)
      have hq3 : W1.heap[p]? = some (.cells #[dptr b, vs] 99 (0, 0)) ∧ W1.heap[sb]? = some (.cells #[.int .i64 (X : Int), .slice (some ⟨g2, 0, none⟩) 1 1] 101 (0, 0)) := ⟨(hq2.block _ (lt_blk HPS.out.1)).trans HPS.out.1, (hq2.block _ (lt_blk HPS.out.2)).trans HPS.out.2⟩
      refine hK _ _ (fun _ => hq3) ?_
      clear hK K
      (try simp only [Act.put])
      (try simp only [List.setIfInBounds_toArray])
      (try simp only [List.set_cons_succ])
      (try simp only [List.set_cons_zero])
      replace hC : Hid (W1.heap[p]? = some (.cells #[dptr b, vs] 99 (0, 0)) ∧ W1.heap[sb]? = some (.cells #[.int .i64 (X : Int), .slice (some ⟨g2, 0, none⟩) 1 1] 101 (0, 0))) := hq3
      replace hB : Hid (Below w8.heap.size w8 W1) := hq2
      clear hv1 hq hq2 hq3
      refine readyC (rs := [7]) (by kernel_rfl) (by simp) ?_
      refine ReadyC.cons rfl (fun K hK => ?_) ReadyC.nil
      refine stepV_call rfl 43 #[dptr b, strN (nameL X), .slice fa fl fc] (by kernel_rfl) (appendL (HW8.out.same hB.out).lv (nameL X) (by rw [nameL_length]; omega) (HF8.out.below hB.out) (by rw [HFLL.out, ← HFL.out]; exact HUt.out.1) HUt.out.2) (fun e w' h => ⟨_, h.1⟩) ?_
      intro v9 W2 hq
      obtain ⟨hv9, S9, hlv, hst⟩ := hq
      have hv9' := Ending.returned.inj hv9
      subst hv9'
      rw [HDt.out] at hlv ⊢
      obtain ⟨hwl, hstw⟩ := (HW8.out.same hB.out).disk hlv hst
      have hgc : g2 < W1.heap.size := Nat.lt_of_lt_of_le HGt.out.2.2.1 (Nat.le_trans HB8.out.size hB.out.size)
      have hkk : W2.heap[p]? = some (.cells #[dptr b, vs] 99 (0, 0)) ∧ W2.heap[sb]? = some (.cells #[.int .i64 (X : Int), .slice (some ⟨g2, 0, none⟩) 1 1] 101 (0, 0)) := ⟨hwl.lg.blk, (hst.1.block sb (lt_blk hC.out.2) HsT.out.2).trans hC.out.2⟩
      refine hK _ _ (fun _ => hkk) ?_
      clear hK K
      (try simp only [Act.put])
      (try simp only [List.setIfInBounds_toArray])
      (try simp only [List.set_cons_succ])
      (try simp only [List.set_cons_zero])
      replace hC : Hid (W2.heap[p]? = some (.cells #[dptr b, vs] 99 (0, 0)) ∧ W2.heap[sb]? = some (.cells #[.int .i64 (X : Int), .slice (some ⟨g2, 0, none⟩) 1 1] 101 (0, 0))) := hkk
      have HX9 : Hid (Wl w0 W2 b m S9 D'.2 p T vs ((q ++ [(⟨N, pl⟩, .slice (some ⟨g, 0, none⟩) pl.length c)] : Sgs))) := hwl
      have HST9 : Hid (StW w S T W2 S9 T) := HST8.out.trans ((StW.same S T hB.out).trans hstw)
      have HO9 : Hid (OwnI W2 0 (.slice (some ⟨g2, 0, none⟩) 1 1) (([0] : List Nat))) := ownI_keep (ownI_below HO8.out hB.out) (fun k hk => by cases hk; exact hst.1.block _ hgc HGt.out.2.1)
      have HS9 : Hid (¬ S9 g2 ∧ ¬ S9 sb) := ⟨fun e => (hst.2 _ e).elim HGt.out.2.1 (fun e => by omega), fun e => (hst.2 _ e).elim HsT.out.2 (fun e => by have := lt_blk HPS.out.2; have := hB.out.size; omega)⟩
      have HZ9 : Hid (W1.heap.size ≤ W2.heap.size ∧ g2 < W2.heap.size) := ⟨hst.1.size, Nat.lt_of_lt_of_le hgc hst.1.size⟩
      clear hkk hv9 hlv hst hwl hstw hB hgc
      refine readyC (rs := [8]) (by kernel_rfl) (by simp) ?_
      refine ReadyC.cons rfl (fun K hK => ?_) ReadyC.nil
      go_simp
      refine hK _ _ (fun _ => hC.out) ?_
      clear hK K
      (try simp only [Act.put])
      (try simp only [List.setIfInBounds_toArray])
      (try simp only [List.set_cons_succ])
      (try simp only [List.set_cons_zero])
      refine doneC (by kernel_rfl) ?_ _
      clear n0 FN8 m0 m1
      obtain ⟨w9, hw9⟩ : ∃ w9, w9 = W2 := ⟨_, rfl⟩
      subst hw9
      obtain ⟨e9, he9⟩ : ∃ e9, D'.1 = e9 := ⟨_, rfl⟩
      rw [he9]
      have HE9 : Hid (D'.1 = e9) := he9
      clear he9
      by_cases hz : e9 = 0
      · subst hz
        have HPS2 : Hid (w9.heap[p]? = some (.cells #[dptr b, vs] 99 (0, 0)) ∧ w9.heap[sb]? = some (.cells #[.int .i64 (X : Int), .slice (some ⟨g2, 0, none⟩) 1 1] 101 (0, 0))) := hC.out
        clear HPS
        have HPS := HPS2
        clear hC HPS2
        have m0 : ∀ w' : World, w'.heap[p]? = some (.cells #[dptr b, vs] 99 (0, 0)) ∧ w'.heap[sb]? = some (.cells #[.int .i64 (X : Int), .slice (some ⟨g2, 0, none⟩) 1 1] 101 (0, 0)) → w'.cell? ⟨sb, 0, none⟩ = some (.int .i64 (X : Int)) := fun w' hw => cell_blk hw.2 rfl
        have m1 : ∀ w' : World, w'.heap[p]? = some (.cells #[dptr b, vs] 99 (0, 0)) ∧ w'.heap[sb]? = some (.cells #[.int .i64 (X : Int), .slice (some ⟨g2, 0, none⟩) 1 1] 101 (0, 0)) → w'.cell? ⟨sb, 1, none⟩ = some (.slice (some ⟨g2, 0, none⟩) 1 1) := fun w' hw => cell_blk hw.2 rfl
        obtain ⟨Y, hY⟩ : ∃ Y, A2 + fl = Y := ⟨_, rfl⟩
        have eY : ((A2 : Nat) : Int) + (fl : Int) = (Y : Int) := by omega
        have bfl : (fl : Int) ≤ 8200 := by have := HFL.out; omega
        have bY : (Y : Int) ≤ 12000 := by have := HFL.out; have := HAt.out.2; omega
        have wY : IntKind.i64.wrap (Y : Int) = (Y : Int) := by rw [IntKind.wrap_i64]; omega
        have HYE : Hid (A2 + fl = Y) := hY
        have FS9 : Hid (∀ u, Below w9.heap.size w9 u → Calls Tryz.prog 65 #[sgV X (.slice (some ⟨g2, 0, none⟩) 1 1)] u fun e w' => e = .returned (.int .i64 ((A2 : Nat) : Int)) ∧ Below u.heap.size u w') := fun u hu =>
          (size_any X (ownI_below HO9.out hu) (List.length_pos_iff.1 HFt.out.1) (by have := HFt.out; omega) (by have := HFt.out; (try simp only [List.length_cons, List.length_nil] at this); (try simp only [List.length_cons, List.length_nil]); omega)).mono fun e w' q => ⟨by rw [q.1, HAt.out.1], q.2⟩
        have HGn : Hid (g2 ≠ sb) := sg_ne HO9.out HPS.out.2 rfl
        have HPl : Hid ((([0] : List Nat)).length + 1 ≤ 17592186044416) := by show _ ≤ _; have := HFt.out; (try simp only [List.length_cons, List.length_nil] at this); (try simp only [List.length_cons, List.length_nil]); omega
        clear hY
        go_wp2_with (fail)
        refine regionC (fun (w' : World) => w'.heap[p]? = some (.cells #[dptr b, vs] 99 (0, 0)) ∧ w'.heap[sb]? = some (.cells #[.int .i64 (X : Int), .slice (some ⟨g2, 0, none⟩) 1 1] 101 (0, 0))) 10 (by kernel_rfl) ?_
        (try (change wpAnyC _ _ _ _ _ _ _ _ _ (World.drew _)))
        refine nameW (fun W0 hW0 => ?_)
        have hC : Hid (W0.heap[p]? = some (.cells #[dptr b, vs] 99 (0, 0)) ∧ W0.heap[sb]? = some (.cells #[.int .i64 (X : Int), .slice (some ⟨g2, 0, none⟩) 1 1] 101 (0, 0))) := by show _ ∧ _; rw [hW0]; exact HPS.out
        have hB : Hid (Below w9.heap.size w9 W0) := by show Below _ _ _; rw [hW0]; exact ⟨rfl, rfl, rfl, Nat.le_refl _, fun _ _ => rfl⟩
        clear hW0
        refine takeC (i := 0) (v := ?_) rfl (by kernel_rfl) (by kernel_rfl) (by kernel_rfl) (by kernel_rfl) (by kernel_rfl) (fun _ _ _ h => h) hC.out (Or.inl ⟨by rfl, ?_⟩) ?_
        rotate_left 1
        · intro w' hw'
          skip
          go_simp
          first | done | with_reducible rfl
        (try simp only [Act.put])
        (try simp only [List.setIfInBounds_toArray])
        (try simp only [List.set_cons_succ])
        (try simp only [List.set_cons_zero])
        refine takeC (i := 1) (v := ?_) rfl (by kernel_rfl) (by kernel_rfl) (by kernel_rfl) (by kernel_rfl) (by kernel_rfl) (fun _ _ _ h => h) hC.out (Or.inl ⟨by rfl, ?_⟩) ?_
        rotate_left 1
        · intro w' hw'
          have z0 := m0 w' hw'; have z1 := m1 w' hw'
          go_simp
          first | done | with_reducible rfl
        (try simp only [Act.put])
        (try simp only [List.setIfInBounds_toArray])
        (try simp only [List.set_cons_succ])
        (try simp only [List.set_cons_zero])
        refine takeC (i := 2) (v := ?_) rfl (by kernel_rfl) (by kernel_rfl) (by kernel_rfl) (by kernel_rfl) (by kernel_rfl) (fun _ _ _ h => h) hC.out (Or.inl ⟨by rfl, ?_⟩) ?_
        rotate_left 1
        · intro w' hw'
          have z0 := m0 w' hw'; have z1 := m1 w' hw'
          go_simp
          first | done | with_reducible rfl
        (try simp only [Act.put])
        (try simp only [List.setIfInBounds_toArray])
        (try simp only [List.set_cons_succ])
        (try simp only [List.set_cons_zero])
        refine takeC (i := 4) (v := ?_) rfl (by kernel_rfl) (by kernel_rfl) (by kernel_rfl) (by kernel_rfl) (by kernel_rfl) (fun _ _ _ h => h) hC.out (Or.inl ⟨by rfl, ?_⟩) ?_
        rotate_left 1
        · intro w' hw'
          skip
          go_simp
          first | done | with_reducible rfl
        (try simp only [Act.put])
        (try simp only [List.setIfInBounds_toArray])
        (try simp only [List.set_cons_succ])
        (try simp only [List.set_cons_zero])
        refine takeC (i := 5) (v := ?_) rfl (by kernel_rfl) (by kernel_rfl) (by kernel_rfl) (by kernel_rfl) (by kernel_rfl) (fun _ _ _ h => h) hC.out (Or.inl ⟨by rfl, ?_⟩) ?_
        rotate_left 1
        · intro w' hw'
          skip
          go_simp
          first | done | with_reducible rfl
        (try simp only [Act.put])
        (try simp only [List.setIfInBounds_toArray])
        (try simp only [List.set_cons_succ])
        (try simp only [List.set_cons_zero])
        refine readyC (rs := [3]) (by kernel_rfl) (by simp) ?_
        refine ReadyC.cons rfl (fun K hK => ?_) ReadyC.nil
        refine stepV_call rfl 65 #[sgV X (.slice (some ⟨g2, 0, none⟩) 1 1)] (by kernel_rfl) (FS9.out W0 hB.out) (fun e w' h => ⟨_, h.1⟩) ?_
        intro v1 W1 hq
        obtain ⟨hv1, hq⟩ := hq
        have hv1' := Ending.returned.inj hv1
        subst hv1'
        have hq2 : Below w9.heap.size w9 W1 := hB.out.trans (hq.mono hB.out.size)
        have hq3 : W1.heap[p]? = some (.cells #[dptr b, vs] 99 (0, 0)) ∧ W1.heap[sb]? = some (.cells #[.int .i64 (X : Int), .slice (some ⟨g2, 0, none⟩) 1 1] 101 (0, 0)) := ⟨(hq2.block _ (lt_blk HPS.out.1)).trans HPS.out.1, (hq2.block _ (lt_blk HPS.out.2)).trans HPS.out.2⟩
        refine hK _ _ (fun _ => hq3) ?_
        clear hK K
        (try simp only [Act.put])
        (try simp only [List.setIfInBounds_toArray])
        (try simp only [List.set_cons_succ])
        (try simp only [List.set_cons_zero])
        replace hC : Hid (W1.heap[p]? = some (.cells #[dptr b, vs] 99 (0, 0)) ∧ W1.heap[sb]? = some (.cells #[.int .i64 (X : Int), .slice (some ⟨g2, 0, none⟩) 1 1] 101 (0, 0))) := hq3
        replace hB : Hid (Below w9.heap.size w9 W1) := hq2
        clear hv1 hq hq2 hq3
        refine takeC (i := 6) (v := ?_) rfl (by kernel_rfl) (by kernel_rfl) (by kernel_rfl) (by kernel_rfl) (by kernel_rfl) (fun _ _ _ h => h) hC.out (Or.inl ⟨by rfl, ?_⟩) ?_
        rotate_left 1
        · intro w' hw'
          skip
          go_simp
          first | done | with_reducible rfl
        (try simp only [Act.put])
        (try simp only [List.setIfInBounds_toArray])
        (try simp only [List.set_cons_succ])
        (try simp only [List.set_cons_zero])
        refine readyC (rs := [7]) (by kernel_rfl) (by simp) ?_
        refine ReadyC.cons rfl (fun K hK => ?_) ReadyC.nil
        go_simp
        refine hK _ _ (fun _ => ⟨(heap_alloc_old W1 _ (lt_blk hC.out.1)).trans hC.out.1, (heap_alloc_old W1 _ (lt_blk hC.out.2)).trans hC.out.2⟩) ?_
        clear hK K
        (try simp only [Act.put])
        (try simp only [List.setIfInBounds_toArray])
        (try simp only [List.set_cons_succ])
        (try simp only [List.set_cons_zero])
        refine nameW (fun W2 hW => ?_)
        have hx : Below W1.heap.size W1 W2 := by rw [hW]; exact (Below.refl _ _).alloc (Nat.le_refl _) _
        have hcl : Hid (W2.cell? ⟨W1.heap.size, 0, none⟩ = some (placeV Y)) := by show _ = _; rw [hW]; exact lit_cells W1 [placeV Y] 3 0 _ rfl
        replace hB : Hid (Below w9.heap.size w9 W2) := hB.out.trans (hx.mono hB.out.size)
        replace hC : Hid (W2.heap[p]? = some (.cells #[dptr b, vs] 99 (0, 0)) ∧ W2.heap[sb]? = some (.cells #[.int .i64 (X : Int), .slice (some ⟨g2, 0, none⟩) 1 1] 101 (0, 0))) := ⟨(hB.out.block _ (lt_blk HPS.out.1)).trans HPS.out.1, (hB.out.block _ (lt_blk HPS.out.2)).trans HPS.out.2⟩
        clear hx hW
        refine readyC (rs := [8]) (by kernel_rfl) (by simp) ?_
        refine ReadyC.cons rfl (fun K hK => ?_) ReadyC.nil
        refine stepC_runs rfl (.tmp 58) (.tmp 64) rfl _ _ rfl rfl _ (append_placeG (ownI_below HO9.out hB.out) _ _ Y hcl.out HPl.out _) ?_
        intro v9 W3 hA
        obtain ⟨hA1, hA2, hA3⟩ := hA
        obtain ⟨g9, c9, K9, h9⟩ : ∃ g c K, v9 = .slice (some ⟨g, 0, none⟩) K c := by
          obtain ⟨g9, c9, h9, _⟩ := ownI_form hA1 (by simp)
          exact ⟨g9, c9, _, h9⟩
        subst h9
        have hkk : W3.heap[p]? = some (.cells #[dptr b, vs] 99 (0, 0)) ∧ W3.heap[sb]? = some (.cells #[.int .i64 (X : Int), .slice (some ⟨g2, 0, none⟩) 1 1] 101 (0, 0)) := ⟨(hA2.block p (lt_blk hC.out.1) (by intro e; exact HGt.out.2.2.2.1 (Option.some.inj e).symm)).trans hC.out.1, (hA2.block sb (lt_blk hC.out.2) (by intro e; exact HGn.out (Option.some.inj e).symm)).trans hC.out.2⟩
        refine hK _ _ (fun _ => hkk) ?_
        clear hK K
        (try simp only [Act.put])
        (try simp only [List.setIfInBounds_toArray])
        (try simp only [List.set_cons_succ])
        (try simp only [List.set_cons_zero])
        have HOA : Hid (OwnI W3 0 (.slice (some ⟨g9, 0, none⟩) K9 c9) ((([0] : List Nat)) ++ [Y])) := hA1
        have HFA : Hid (Fr (fun k => k = g2 ∨ k = sb) w9 W3) := (Fr.of_below _ hB.out).grown hA2 (fun k hk => .inl (Option.some.inj hk).symm)
        have HGA : Hid (∀ k, (Value.slice (some ⟨g9, 0, none⟩) K9 c9).ownBlock = some k → k = g2 ∨ w9.heap.size ≤ k) := fun k hk => (hA3 k hk).imp (fun e => (Option.some.inj e).symm) (fun e => Nat.le_trans hB.out.size e)
        replace hC : Hid (W3.heap[p]? = some (.cells #[dptr b, vs] 99 (0, 0)) ∧ W3.heap[sb]? = some (.cells #[.int .i64 (X : Int), .slice (some ⟨g2, 0, none⟩) 1 1] 101 (0, 0))) := hkk
        clear hA1 hA2 hA3 hkk hcl hB
        refine takeC (i := 9) (v := ?_) rfl (by kernel_rfl) (by kernel_rfl) (by kernel_rfl) (by kernel_rfl) (by kernel_rfl) (fun _ _ _ h => h) hC.out (Or.inl ⟨by rfl, ?_⟩) ?_
        rotate_left 1
        · intro w' hw'
          skip
          go_simp
          first | done | with_reducible rfl
        (try simp only [Act.put])
        (try simp only [List.setIfInBounds_toArray])
        (try simp only [List.set_cons_succ])
        (try simp only [List.set_cons_zero])
        refine readyC (rs := [10]) (by kernel_rfl) (by simp) ?_
        refine ReadyC.cons rfl (fun K hK => ?_) ReadyC.nil
        have y1 := m1 W3 hC.out
        have y2 := free_blk hC.out.2
        go_simp
        refine hK _ _ (fun h => absurd rfl h) ?_
        clear hK K
        (try simp only [Act.put])
        (try simp only [List.setIfInBounds_toArray])
        (try simp only [List.set_cons_succ])
        (try simp only [List.set_cons_zero])
        refine nameW (fun W4 hW => ?_)
        have hps : p ≠ sb := fun e => HsT.out.1 (e ▸ HX9.out.lg.tp)
        have HS10 : Hid (W4.heap[sb]? = some (.cells #[.int .i64 (X : Int), .slice (some ⟨g9, 0, none⟩) K9 c9] 101 (0, 0))) := by show _ = _; rw [hW]; exact set_blk hC.out.2 1 _
        have HP10 : Hid (W4.heap[p]? = some (.cells #[dptr b, vs] 99 (0, 0))) := by show _ = _; rw [hW, set_other _ hps]; exact hC.out.1
        have HO10 : Hid (OwnI W4 0 (.slice (some ⟨g9, 0, none⟩) K9 c9) ((([0] : List Nat)) ++ [Y])) := ownI_keep HOA.out (fun k hk => by rw [hW, set_other _ (sg_ne HOA.out hC.out.2 hk)])
        have HF10 : Hid (Fr (fun k => k = g2 ∨ k = sb) w9 W4) := by show Fr _ _ _; rw [hW]; exact HFA.out.set (p := ⟨sb, 1, none⟩) (.inr rfl) _
        clear hps hW HFA HOA y1 y2 hC
        refine doneC (by kernel_rfl) ?_ _
        obtain ⟨w10, hw10⟩ : ∃ w10, w10 = W4 := ⟨_, rfl⟩
        subst hw10
        clear HPS m0 m1 FS9
        have HPS : Hid (w10.heap[p]? = some (.cells #[dptr b, vs] 99 (0, 0)) ∧ w10.heap[sb]? = some (.cells #[.int .i64 (X : Int), .slice (some ⟨g9, 0, none⟩) K9 c9] 101 (0, 0))) := ⟨HP10.out, HS10.out⟩
        have HQ10 : Hid (OwnQ w10 0 (.slice (some ⟨r, 0, none⟩) nn rc) (((q ++ [(⟨N, pl⟩, .slice (some ⟨g, 0, none⟩) pl.length c)] : Sgs)).take nn)) := by
          have h1 := HX9.out.lg
          rw [HVS.out] at h1
          exact ownQ_keep (ownQ_take h1.row nn HKt.out.1 (by simp)) (fun k hk => by
            cases hk
            exact HF10.out.block r (h1.lt r HG0.out.2.2.2.1) (fun e => e.elim HGt.out.2.2.2.2 (fun e => HsT.out.1 (e ▸ HG0.out.2.2.2.1))))
        have HQl : Hid ((((q ++ [(⟨N, pl⟩, .slice (some ⟨g, 0, none⟩) pl.length c)] : Sgs)).take nn).length + 1 ≤ 1048577) := by have := HKt.out; show _ ≤ _; rw [List.length_take]; omega
        have n1 : ∀ w' : World, w'.heap[p]? = some (.cells #[dptr b, vs] 99 (0, 0)) ∧ w'.heap[sb]? = some (.cells #[.int .i64 (X : Int), .slice (some ⟨g9, 0, none⟩) K9 c9] 101 (0, 0)) → w'.cell? ⟨p, 1, none⟩ = some (.slice (some ⟨r, 0, none⟩) nn rc) := fun w' hw => by rw [← HVS.out]; exact cell_blk hw.1 rfl
        have k0 : ∀ w' : World, w'.heap[p]? = some (.cells #[dptr b, vs] 99 (0, 0)) ∧ w'.heap[sb]? = some (.cells #[.int .i64 (X : Int), .slice (some ⟨g9, 0, none⟩) K9 c9] 101 (0, 0)) → w'.cell? ⟨sb, 0, none⟩ = some (.int .i64 (X : Int)) := fun w' hw => cell_blk hw.2 rfl
        have k1 : ∀ w' : World, w'.heap[p]? = some (.cells #[dptr b, vs] 99 (0, 0)) ∧ w'.heap[sb]? = some (.cells #[.int .i64 (X : Int), .slice (some ⟨g9, 0, none⟩) K9 c9] 101 (0, 0)) → w'.cell? ⟨sb, 1, none⟩ = some (.slice (some ⟨g9, 0, none⟩) K9 c9) := fun w' hw => cell_blk hw.2 rfl
        have z16 := seg_cut (some ⟨r, 0, none⟩) nn rc nn HKt.out.2.2
        clear HP10 HS10 eY bY bfl wY
        go_wp2_with (fail)
        refine regionC (fun (w' : World) => w'.heap[p]? = some (.cells #[dptr b, vs] 99 (0, 0)) ∧ w'.heap[sb]? = some (.cells #[.int .i64 (X : Int), .slice (some ⟨g9, 0, none⟩) K9 c9] 101 (0, 0))) 12 (by kernel_rfl) ?_
        (try (change wpAnyC _ _ _ _ _ _ _ _ _ (World.drew _)))
        refine nameW (fun W0 hW0 => ?_)
        have hC : Hid (W0.heap[p]? = some (.cells #[dptr b, vs] 99 (0, 0)) ∧ W0.heap[sb]? = some (.cells #[.int .i64 (X : Int), .slice (some ⟨g9, 0, none⟩) K9 c9] 101 (0, 0))) := by show _ ∧ _; rw [hW0]; exact HPS.out
        have hB : Hid (Below w10.heap.size w10 W0) := by show Below _ _ _; rw [hW0]; exact ⟨rfl, rfl, rfl, Nat.le_refl _, fun _ _ => rfl⟩
        clear hW0
        refine takeC (i := 0) (v := ?_) rfl (by kernel_rfl) (by kernel_rfl) (by kernel_rfl) (by kernel_rfl) (by kernel_rfl) (fun _ _ _ h => h) hC.out (Or.inl ⟨by rfl, ?_⟩) ?_
        rotate_left 1
        · intro w' hw'
          skip
          go_simp
          first | done | with_reducible rfl | exact z16 _
        (try simp only [Act.put])
        (try simp only [List.setIfInBounds_toArray])
        (try simp only [List.set_cons_succ])
        (try simp only [List.set_cons_zero])
        refine takeC (i := 1) (v := ?_) rfl (by kernel_rfl) (by kernel_rfl) (by kernel_rfl) (by kernel_rfl) (by kernel_rfl) (fun _ _ _ h => h) hC.out (Or.inl ⟨by rfl, ?_⟩) ?_
        rotate_left 1
        · intro w' hw'
          skip
          go_simp
          first | done | with_reducible rfl | exact z16 _
        (try simp only [Act.put])
        (try simp only [List.setIfInBounds_toArray])
        (try simp only [List.set_cons_succ])
        (try simp only [List.set_cons_zero])
        refine takeC (i := 2) (v := ?_) rfl (by kernel_rfl) (by kernel_rfl) (by kernel_rfl) (by kernel_rfl) (by kernel_rfl) (fun _ _ _ h => h) hC.out (Or.inl ⟨by rfl, ?_⟩) ?_
        rotate_left 1
        · intro w' hw'
          skip
          go_simp
          first | done | with_reducible rfl | exact z16 _
        (try simp only [Act.put])
        (try simp only [List.setIfInBounds_toArray])
        (try simp only [List.set_cons_succ])
        (try simp only [List.set_cons_zero])
        refine takeC (i := 3) (v := ?_) rfl (by kernel_rfl) (by kernel_rfl) (by kernel_rfl) (by kernel_rfl) (by kernel_rfl) (fun _ _ _ h => h) hC.out (Or.inl ⟨by rfl, ?_⟩) ?_
        rotate_left 1
        · intro w' hw'
          skip
          go_simp
          first | done | with_reducible rfl | exact z16 _
        (try simp only [Act.put])
        (try simp only [List.setIfInBounds_toArray])
        (try simp only [List.set_cons_succ])
        (try simp only [List.set_cons_zero])
        refine takeC (i := 4) (v := ?_) rfl (by kernel_rfl) (by kernel_rfl) (by kernel_rfl) (by kernel_rfl) (by kernel_rfl) (fun _ _ _ h => h) hC.out (Or.inl ⟨by rfl, ?_⟩) ?_
        rotate_left 1
        · intro w' hw'
          have z0 := n1 w' hw'; have z1 := k0 w' hw'; have z2 := k1 w' hw'
          go_simp
          first | done | with_reducible rfl | exact z16 _
        (try simp only [Act.put])
        (try simp only [List.setIfInBounds_toArray])
        (try simp only [List.set_cons_succ])
        (try simp only [List.set_cons_zero])
        refine takeC (i := 5) (v := ?_) rfl (by kernel_rfl) (by kernel_rfl) (by kernel_rfl) (by kernel_rfl) (by kernel_rfl) (fun _ _ _ h => h) hC.out (Or.inl ⟨by rfl, ?_⟩) ?_
        rotate_left 1
        · intro w' hw'
          skip
          go_simp
          first | done | with_reducible rfl | exact z16 _
        (try simp only [Act.put])
        (try simp only [List.setIfInBounds_toArray])
        (try simp only [List.set_cons_succ])
        (try simp only [List.set_cons_zero])
        refine takeC (i := 6) (v := ?_) rfl (by kernel_rfl) (by kernel_rfl) (by kernel_rfl) (by kernel_rfl) (by kernel_rfl) (fun _ _ _ h => h) hC.out (Or.inl ⟨by rfl, ?_⟩) ?_
        rotate_left 1
        · intro w' hw'
          skip
          go_simp
          first | done | with_reducible rfl | exact z16 _
        (try simp only [Act.put])
        (try simp only [List.setIfInBounds_toArray])
        (try simp only [List.set_cons_succ])
        (try simp only [List.set_cons_zero])
        refine takeC (i := 7) (v := ?_) rfl (by kernel_rfl) (by kernel_rfl) (by kernel_rfl) (by kernel_rfl) (by kernel_rfl) (fun _ _ _ h => h) hC.out (Or.inl ⟨by rfl, ?_⟩) ?_
        rotate_left 1
        · intro w' hw'
          have z0 := n1 w' hw'; have z1 := k0 w' hw'; have z2 := k1 w' hw'
          go_simp
          first | done | with_reducible rfl | exact z16 _
        (try simp only [Act.put])
        (try simp only [List.setIfInBounds_toArray])
        (try simp only [List.set_cons_succ])
        (try simp only [List.set_cons_zero])
        refine readyC (rs := [8]) (by kernel_rfl) (by simp) ?_
        refine ReadyC.cons rfl (fun K hK => ?_) ReadyC.nil
        go_simp
        refine hK _ _ (fun _ => ⟨(heap_alloc_old W0 _ (lt_blk hC.out.1)).trans hC.out.1, (heap_alloc_old W0 _ (lt_blk hC.out.2)).trans hC.out.2⟩) ?_
        clear hK K
        (try simp only [Act.put])
        (try simp only [List.setIfInBounds_toArray])
        (try simp only [List.set_cons_succ])
        (try simp only [List.set_cons_zero])
        refine nameW (fun W1 hW => ?_)
        have hx : Below W0.heap.size W0 W1 := by rw [hW]; exact (Below.refl _ _).alloc (Nat.le_refl _) _
        have hc0 : Hid (W1.cell? ⟨W0.heap.size, 0, none⟩ = some (.int .i64 (X : Int))) := by show _ = _; rw [hW]; exact lit_cells W0 [.int .i64 (X : Int), .slice (some ⟨g9, 0, none⟩) K9 c9] 101 0 _ rfl
        have hc1 : Hid (W1.cell? ((⟨W0.heap.size, 0, none⟩ : Addr).add 1) = some (.slice (some ⟨g9, 0, none⟩) K9 c9)) := by show _ = _; rw [hW]; exact lit_cells W0 [.int .i64 (X : Int), .slice (some ⟨g9, 0, none⟩) K9 c9] 101 1 _ rfl
        replace hB : Hid (Below w10.heap.size w10 W1) := hB.out.trans (hx.mono hB.out.size)
        replace hC : Hid (W1.heap[p]? = some (.cells #[dptr b, vs] 99 (0, 0)) ∧ W1.heap[sb]? = some (.cells #[.int .i64 (X : Int), .slice (some ⟨g9, 0, none⟩) K9 c9] 101 (0, 0))) := ⟨(hB.out.block _ (lt_blk HPS.out.1)).trans HPS.out.1, (hB.out.block _ (lt_blk HPS.out.2)).trans HPS.out.2⟩
        clear hx hW
        refine readyC (rs := [9]) (by kernel_rfl) (by simp) ?_
        refine ReadyC.cons rfl (fun K hK => ?_) ReadyC.nil
        refine stepC_runs rfl (.tmp 73) (.tmp 75) rfl _ _ rfl rfl _ (append_seg (x := (⟨X, (([0] : List Nat)) ++ [Y]⟩, .slice (some ⟨g9, 0, none⟩) K9 c9)) (ownQ_keep HQ10.out (fun k hk => hB.out.block k (HQ10.out.lt k hk).2)) _ _ hc0.out hc1.out rfl HQl.out _) ?_
        intro vo W2 hA
        obtain ⟨go, co, Ko, ho⟩ : ∃ g c K, vo = .slice (some ⟨g, 0, none⟩) K c := by
          rcases hA.1.2 with ⟨_, h0⟩ | ⟨go, co, cur, ho, _⟩
          · simp at h0
          · exact ⟨go, co, _, ho⟩
        subst ho
        have hrp : r ≠ p := by
          intro e
          obtain ⟨cur, hcu⟩ := ownQ_type HQ10.out (g := r) rfl
          exact ne_types hcu HPS.out.1 (by decide) e
        have hkk : W2.heap[p]? = some (.cells #[dptr b, vs] 99 (0, 0)) ∧ W2.heap[sb]? = some (.cells #[.int .i64 (X : Int), .slice (some ⟨g9, 0, none⟩) K9 c9] 101 (0, 0)) := ⟨(hA.2.1.block p (lt_blk hC.out.1) (by intro e; exact hrp (Option.some.inj e).symm)).trans hC.out.1, (hA.2.1.block sb (lt_blk hC.out.2) (by intro e; exact HsT.out.1 (by rw [Option.some.inj e]; exact HG0.out.2.2.2.1))).trans hC.out.2⟩
        refine hK _ _ (fun _ => hkk) ?_
        clear hK K
        (try simp only [Act.put])
        (try simp only [List.setIfInBounds_toArray])
        (try simp only [List.set_cons_succ])
        (try simp only [List.set_cons_zero])
        have HPu : Hid (PushedQ W1 (.slice (some ⟨r, 0, none⟩) nn rc) (((q ++ [(⟨N, pl⟩, .slice (some ⟨g, 0, none⟩) pl.length c)] : Sgs)).take nn) (⟨X, (([0] : List Nat)) ++ [Y]⟩, .slice (some ⟨g9, 0, none⟩) K9 c9) (.slice (some ⟨go, 0, none⟩) Ko co) W2) := hA
        have HB16 : Hid (Below w10.heap.size w10 W1) := hB.out
        replace hC : Hid (W2.heap[p]? = some (.cells #[dptr b, vs] 99 (0, 0)) ∧ W2.heap[sb]? = some (.cells #[.int .i64 (X : Int), .slice (some ⟨g9, 0, none⟩) K9 c9] 101 (0, 0))) := hkk
        clear hA hkk hrp hc0 hc1 hB
        refine takeC (i := 10) (v := ?_) rfl (by kernel_rfl) (by kernel_rfl) (by kernel_rfl) (by kernel_rfl) (by kernel_rfl) (fun _ _ _ h => h) hC.out (Or.inl ⟨by rfl, ?_⟩) ?_
        rotate_left 1
        · intro w' hw'
          skip
          go_simp
          first | done | with_reducible rfl | exact z16 _
        (try simp only [Act.put])
        (try simp only [List.setIfInBounds_toArray])
        (try simp only [List.set_cons_succ])
        (try simp only [List.set_cons_zero])
        refine takeC (i := 11) (v := ?_) rfl (by kernel_rfl) (by kernel_rfl) (by kernel_rfl) (by kernel_rfl) (by kernel_rfl) (fun _ _ _ h => h) hC.out (Or.inl ⟨by rfl, ?_⟩) ?_
        rotate_left 1
        · intro w' hw'
          skip
          go_simp
          first | done | with_reducible rfl | exact z16 _
        (try simp only [Act.put])
        (try simp only [List.setIfInBounds_toArray])
        (try simp only [List.set_cons_succ])
        (try simp only [List.set_cons_zero])
        refine readyC (rs := [12]) (by kernel_rfl) (by simp) ?_
        refine ReadyC.cons rfl (fun K hK => ?_) ReadyC.nil
        have y1 := n1 W2 hC.out
        have y2 := free_blk hC.out.1
        go_simp
        refine hK _ _ (fun h => absurd rfl h) ?_
        clear hK K
        (try simp only [Act.put])
        (try simp only [List.setIfInBounds_toArray])
        (try simp only [List.set_cons_succ])
        (try simp only [List.set_cons_zero])
        refine nameW (fun W3 hW => ?_)
        have HD16 : Hid (DidW w0 w b m S p T D'.2 (q.map (·.1) ++ [⟨N, pl⟩] ++ [⟨X, [0, 8 + n]⟩]) W3) := by
          have h1 := HX9.out
          rw [HVS.out] at h1
          obtain ⟨T', hwl, hfr, hT'⟩ := h1.put (B := w.heap.size) HKt.out.1 (by simp) HF10.out HO10.out HGA.out (by simp) HFt.out.2.1 (by have := HPl.out; rw [List.length_append]; have := HFt.out; (try simp only [List.length_cons, List.length_nil] at this); (try simp only [List.length_cons, List.length_nil]); (first | done | omega | (simp; done) | (simp; omega))) HApt.out HGt.out.2.2.2.1 (fun k hk => by cases hk; exact HGt.out.2.2.2.2) HsT.out.1 HS9.out.2 HS9.out.1 HGt.out.1 Hsb.out HW.out.lv.below.size HST9.out.1.size HKt.out.2.1 HB16.out HPu.out hW
          exact ⟨S9, T', _, _, hwl, by rw [List.take_of_length_le (by rw [List.length_append]; have := HKn.out; simp; omega), List.map_append, ← HYE.out, ← HFL.out, HA2.out]; simp, HST9.out.more hfr hT'⟩
        clear hW y1 y2 hC
        refine doneC (by kernel_rfl) ?_ _
        clear n1 k0 k1 z16
        go_wp2_with (fail)
        go_ret
        exact ⟨fun e => absurd HE7.out e, fun _ => ⟨by rw [HE9.out]; rfl, fun e => absurd HE9.out e, fun _ => HD16.out⟩⟩
      · have q9 : ((e9 : Int) != 0) = true := by simp; omega
        have q8 : ((e9 : Int) == 0) = false := by simp; omega
        have HE0 : Hid (e9 ≠ 0) := hz
        clear hz
        go_wp2_with (fail)
        go_ret
        exact ⟨fun e => absurd HE7.out e, fun _ => ⟨by rw [HE9.out]; rfl, fun _ => ⟨S9, T, vs, _, HX9.out, by simp, HST9.out⟩, fun e => absurd (HE9.out.symm.trans e) HE0.out⟩⟩
    · have q9 : ((e7 : Int) != 0) = true := by simp; omega
      have q8 : ((e7 : Int) == 0) = false := by simp; omega
      have HE0 : Hid (e7 ≠ 0) := hz7
      clear hz7
      go_wp2_with (fail)
      go_ret
      exact ⟨fun _ => ⟨by rw [HE7.out]; rfl, S, T, vs, _, HW7.out, by simp, HST7.out⟩, fun e => absurd (HE7.out.symm.trans e) HE0.out⟩
end Go.Proofs.YtkbmblmnhhlicaaGreatDoor

/- Append, walked: what it answers, over lists. -/
namespace Go.Proofs.YtkbmblmnhhlicaaGreatDoor
open Go.RowKit

theorem failD_ok {d : Dk} (h : DkOk d) : usedL (failD d).files ≤ usedL d.files ∧ (failD d).files.length = d.files.length := by
  unfold failD
  split
  · exact ⟨fallL_used h.lasts, fallL_length _ _ _⟩
  · unfold doneD
    split <;> exact ⟨Nat.le_refl _, rfl⟩
theorem putA_same_length {α : Type} {n : Nm} {v : α} {l : List (Nm × α)} (hr : Rises l) {u : α} (h : getA n l = some u) : (putA n v l).length = l.length := by
  obtain ⟨a, b, rfl⟩ := List.append_of_mem (getA_mem h)
  rw [putA_at a b hr]
  simp
theorem sync_used {d : Dk} (h : DkOk d) (n : Nm) : usedL (syncP d n).2.files ≤ usedL d.files ∧ (syncP d n).2.files.length = d.files.length := by
  unfold syncP
  split
  · exact ⟨Nat.le_refl _, rfl⟩
  · rename_i hf
    have hf : findV d n = 0 := by simpa using hf
    have hg := findV_get hf
    split
    · exact failD_ok h
    · rename_i ha
      simp only
      rw [failD_files ha]
      have := usedL_put n ⟨(theF d n).bs, (theF d n).bs.length⟩ d.files h.rises
      rw [hg] at this
      simp only [Option.getD_some] at this
      exact ⟨by omega, putA_same_length h.rises hg⟩

set_option maxHeartbeats 1000000 in
set_option maxRecDepth 20000 in
theorem wapp_any {w0 w : World} {b m : Nat} {S : Nat → Prop} {d : Dk} {p : Nat} {T : Nat → Prop} {vs : Value} {q : Sgs} (h : Wl w0 w b m S d p T vs q) (hq : q ≠ []) {ba : Option Addr} {n bc : Nat} {l : List UInt8} (hk : ∀ w', Fr (fun k => S k ∨ T k) w w' → BRow w' ba n bc l) (hn : n ≤ 140737488355328)
    (hX : (lastS (q.map (·.1))).next ≤ 1000000) (hfw : q.length + 1 ≤ 1048576) (hu : usedL d.files + 8200 ≤ 1099511627776) (hf : d.files.length + 1 ≤ 1048576) :
    Calls Tryz.prog 17 #[dptr p, .slice ba n bc] w fun e w' => e = .returned (.int .i64 ((wappP d (q.map (·.1)) l).1 : Int)) ∧ DidW w0 w b m S p T (wappP d (q.map (·.1)) l).2.1 (wappP d (q.map (·.1)) l).2.2 w' := by
  obtain ⟨q', x, rfl⟩ : ∃ q' x, q = q' ++ [x] := ⟨q.dropLast, q.getLast hq, (List.dropLast_concat_getLast hq).symm⟩
  obtain ⟨⟨N, pl⟩, xv⟩ := x
  have hlen : l.length = n := (hk w (Fr.refl _ _)).1
  have hmap : (q' ++ [((⟨N, pl⟩ : Sg), xv)]).map (·.1) = q'.map (·.1) ++ [⟨N, pl⟩] := by simp
  have hls : lastS (q'.map (·.1) ++ [⟨N, pl⟩]) = ⟨N, pl⟩ := lastS_snoc _ _
  rw [hmap, hls] at hX
  rw [hmap]
  have hdid : ∀ w', Below w.heap.size w w' → DidW w0 w b m S p T d (q'.map (·.1) ++ [⟨N, pl⟩]) w' := fun w' hb => ⟨S, T, vs, _, h.same hb, by simp, StW.same S T hb⟩
  unfold wappP
  rw [hls, hlen]
  have hle : (q' ++ [((⟨N, pl⟩ : Sg), xv)]).length = q'.length + 1 := by simp
  rw [hle] at hfw
  by_cases h8 : 8192 < n
  · rw [if_pos h8]
    have b1 : (8192 : Int) < (n : Int) := by omega
    have HD : Hid (∀ w', Below w.heap.size w w' → DidW w0 w b m S p T d (q'.map (·.1) ++ [⟨N, pl⟩]) w') := hdid
    clear hdid hk h hls hmap hX hlen hu hf hfw hn
    go_enter Tryz.func17, Tryz.ntmps17
    go_wp2
    go_ret
    exact ⟨rfl, HD.out _ (Below.refl _ _)⟩
  rw [if_neg h8]
  by_cases hx : (⟨N, pl⟩ : Sg).next = 1000000
  · rw [if_pos hx]
    have hL : Calls Tryz.prog 18 #[dptr p] w fun e w' => e = .returned (.int .i64 999999) ∧ Below w.heap.size w w' := (lastn_any h.lg).mono fun e w' q => ⟨by rw [q.1, hx]; rfl, q.2⟩
    have b1 : ¬ (8192 : Int) < (n : Int) := by omega
    have HD : Hid (∀ w', Below w.heap.size w w' → DidW w0 w b m S p T d (q'.map (·.1) ++ [⟨N, pl⟩]) w') := hdid
    clear hdid hk h hls hmap hX hlen hu hf hfw hn hx h8
    go_enter Tryz.func17, Tryz.ntmps17
    go_wp2_with (fail)
    refine hL.mono ?_
    rintro e w1 ⟨rfl, hb1⟩
    have HB1 : Hid (Below w.heap.size w w1) := hb1
    clear hL hb1
    go_wp2
    go_ret
    exact ⟨rfl, HD.out _ HB1.out⟩
  rw [if_neg hx]
  have hX9 : (⟨N, pl⟩ : Sg).next < 1000000 := by omega
  obtain ⟨X, hXe⟩ : ∃ X, (⟨N, pl⟩ : Sg).next = X := ⟨_, rfl⟩
  obtain ⟨A, hAe⟩ : ∃ A, (⟨N, pl⟩ : Sg).size = A := ⟨_, rfl⟩
  rw [hXe] at hX9 ⊢
  rw [hAe]
  simp only
  obtain ⟨sl, hdk⟩ := h.lv.dk
  by_cases hA : 2048 ≤ A
  · rw [if_pos hA]
    obtain ⟨D1, hD1⟩ : ∃ D1, syncP d (nameL N) = D1 := ⟨_, rfl⟩
    have hsu := sync_used hdk.ok (nameL N)
    rw [hD1] at hsu ⊢
    obtain ⟨D', hD'⟩ : ∃ D', appendP D1.2 (nameL X) (frameL X l) = D' := ⟨_, rfl⟩
    rw [hD']
    refine (wapp_full h hk (by omega) X A hXe hX9 hAe hA (by omega) D1 hD1 (by omega) (by omega) D' hD').mono ?_
    rintro e w' ⟨h1, h2⟩
    by_cases hz : D1.1 = 0
    · obtain ⟨rfl, h3, h4⟩ := h2 hz
      rw [if_neg (by simpa using hz)]
      by_cases hz2 : D'.1 = 0
      · rw [if_neg (by simpa using hz2)]
        exact ⟨by rw [hz2], h4 hz2⟩
      · rw [if_pos hz2]
        exact ⟨rfl, h3 hz2⟩
    · rw [if_pos hz]
      exact h1 hz
  · rw [if_neg hA]
    obtain ⟨D', hD'⟩ : ∃ D', appendP d (nameL N) (frameL X l) = D' := ⟨_, rfl⟩
    rw [hD']
    refine (wapp_room h hk (by omega) X A hXe hX9 hAe (by omega) (by omega) hf D' hD').mono ?_
    rintro e w' ⟨rfl, h3, h4⟩
    by_cases hz2 : D'.1 = 0
    · rw [if_neg (by simpa using hz2), List.dropLast_concat]
      exact ⟨by rw [hz2], h4 hz2⟩
    · rw [if_pos hz2]
      exact ⟨rfl, h3 hz2⟩
end Go.Proofs.YtkbmblmnhhlicaaGreatDoor
