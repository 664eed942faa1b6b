/- cutLast, walked. -/
import Derived.Test.YtkbmblmnhhlicaaGreatDoorV14
set_option linter.unusedVariables false
namespace Go.Proofs.YtkbmblmnhhlicaaGreatDoor
open Go.RowKit

theorem int_cut (a : Option Addr) (n c k : Nat) (hk : k ≤ n) (hn : n ≤ c) (w : World) : (Instr.slice 50 (.slice a n c) none (some (.int .i64 (k : Int))) none).run Tryz.prog w = .ok (.slice a k c) w := by
  have hel : Tryz.prog.elem 50 = 3 := by kernel_rfl
  have hsz : (sizeOf 3).run Tryz.prog w = .ok 1 w := by kernel_rfl
  rw [run_slice_h w 50 a n c (by rw [hel]; exact Tryz.underlying50) .i64 (k : Int) (by omega) (by omega), hel, hsz]
  show Result.ok (sliced a 0 (k : Int).toNat c 1) w = _
  have : (k : Int).toNat = k := by omega
  rw [this]
  cases a <;> simp [sliced, Addr.add] <;> (try split) <;> simp_all

set_option maxHeartbeats 8000000 in
set_option maxRecDepth 40000 in
theorem cutl_any {w0 w : World} {b m : Nat} {S : Nat → Prop} {d : Dk} {p : Nat} {T : Nat → Prop} {vs : Value} {q : Sgs} {x : Sg × Value} (h : Wl w0 w b m S d p T vs (q ++ [x])) (i : Nat) (hNi : x.1.num ≤ i) (hi : i ≤ 1000000) (hpb : ∀ P ∈ x.1.pl, P ≤ 1099511627776) :
    Calls Tryz.prog 72 #[dptr p, .int .i64 (i : Int)] w fun e w' => e = .returned (.int .i64 ((cutlP d ((q ++ [x]).map (·.1)) i).1 : Int)) ∧ DidW w0 w b m S p T (cutlP d ((q ++ [x]).map (·.1)) i).2.1 (cutlP d ((q ++ [x]).map (·.1)) i).2.2 w' := by
  have hls : lastS ((q ++ [x]).map (·.1)) = x.1 := by rw [List.map_append]; exact lastS_snoc _ _
  have hdl : ((q ++ [x]).map (·.1)).dropLast = q.map (·.1) := by simp
  obtain ⟨R, hR⟩ : ∃ R, cutlP d ((q ++ [x]).map (·.1)) i = R := ⟨_, rfl⟩
  rw [hR]
  unfold cutlP at hR
  rw [hls, hdl] at hR
  obtain ⟨g, c, hvs, hc, hT, hcm⟩ := h.lg.form (by simp)
  obtain ⟨n, hn⟩ : ∃ n, (q ++ [x]).length = n := ⟨_, rfl⟩
  rw [hn] at hvs hc
  subst hvs
  have bn : (n : Int) ≤ 1048576 := by have := h.lg.few; omega
  obtain ⟨⟨N, pl⟩, xv⟩ := x
  obtain ⟨pg, pc, hxv, hpc, _⟩ := ownI_form (h.lg.pls (⟨N, pl⟩, xv) (by simp)) (h.lg.ne (⟨N, pl⟩, xv) (by simp))
  have hnum : N ≤ 999999 := h.lg.num (⟨N, pl⟩, xv) (by simp)
  have hplen := h.lg.len (⟨N, pl⟩, xv) (by simp)
  have hpne := List.length_pos_iff.2 (h.lg.ne (⟨N, pl⟩, xv) (by simp))
  simp only at hxv hplen hpc hNi hpb hpne
  subst hxv
  obtain ⟨pn, hpn⟩ : ∃ pn, pl.length = pn := ⟨_, rfl⟩
  have hnx : (⟨N, pl⟩ : Sg).next = N + pn - 1 := by unfold Sg.next; rw [hpn]
  simp only [hnx] at hR
  rw [hpn] at hplen hpc h hn hR hpne
  obtain ⟨Y, hY⟩ : ∃ Y, N + pn - 1 = Y := ⟨_, rfl⟩
  rw [hY] at hR
  have HW : Hid (Wl w0 w b m S d p T (.slice (some ⟨g, 0, none⟩) n c) (q ++ [(⟨N, pl⟩, .slice (some ⟨pg, 0, none⟩) pn pc)])) := h
  have HN : Hid (q.length + 1 = n ∧ n ≤ c ∧ pl.length = pn ∧ pn ≤ pc ∧ N ≤ i ∧ i ≤ 1000000 ∧ N ≤ 999999 ∧ N + pn - 1 = Y ∧ 1 ≤ pn ∧ pn ≤ 1099511627777) := ⟨by simpa using hn, hc, hpn, hpc, hNi, hi, hnum, hY, hpne, hplen⟩
  have HPb : Hid (∀ P ∈ pl, P ≤ 1099511627776) := hpb
  have hLa := last_any (w := w) h.lg
  have hNe : ∀ u, Calls Tryz.prog 67 #[sgV N (.slice (some ⟨pg, 0, none⟩) pn pc)] u fun e w' => e = .returned (.int .i64 (Y : Int)) ∧ Below u.heap.size u w' := fun u => by
    have := next_any u N (some ⟨pg, 0, none⟩) pn pc (by omega) (by omega) (by omega)
    rw [hY] at this
    exact this
  have bi : (i : Int) ≤ 1000000 := by omega
  have bY : (Y : Int) ≤ 1099512627776 := by omega
  have HNe : Hid (∀ u, Calls Tryz.prog 67 #[sgV N (.slice (some ⟨pg, 0, none⟩) pn pc)] u fun e w' => e = .returned (.int .i64 (Y : Int)) ∧ Below u.heap.size u w') := hNe
  clear h hls hdl hc hn hnum hT hpc hNi hi hpb hplen hpne hpn hY hnx hNe
  have HR : Hid ((if Y ≤ i then (0, d, (q ++ [((⟨N, pl⟩ : Sg), Value.slice (some ⟨pg, 0, none⟩) pn pc)]).map (·.1))
      else if (cutP d (nameL N) ((pl.getD (i - N) 0 : Nat) : Int)).1 ≠ 0 then ((cutP d (nameL N) ((pl.getD (i - N) 0 : Nat) : Int)).1, (cutP d (nameL N) ((pl.getD (i - N) 0 : Nat) : Int)).2, (q ++ [((⟨N, pl⟩ : Sg), Value.slice (some ⟨pg, 0, none⟩) pn pc)]).map (·.1))
      else (0, (cutP d (nameL N) ((pl.getD (i - N) 0 : Nat) : Int)).2, q.map (·.1) ++ [⟨N, pl.take (i - N + 1)⟩])) = R) := hR
  clear hR
  go_enter Tryz.func72, Tryz.ntmps72
  go_wp2_with (fail)
  refine hLa.mono ?_
  rintro e w1 ⟨rfl, hb1⟩
  have HB1 : Hid (Below w.heap.size w w1) := hb1
  clear hLa hb1
  obtain ⟨sb, hsb⟩ : ∃ sb, sb = w1.heap.size := ⟨_, rfl⟩
  obtain ⟨w2, hw2⟩ : ∃ w2, w2 = w1.alloc (.cells #[.int .i64 (N : Int), .slice (some ⟨pg, 0, none⟩) pn pc] 101) := ⟨_, rfl⟩
  have hsbk : w2.heap[sb]? = some (.cells #[.int .i64 (N : Int), .slice (some ⟨pg, 0, none⟩) pn pc] 101 (0, 0)) := by rw [hw2, hsb]; exact heap_alloc_new _ _
  have HB2 : Hid (Below w.heap.size w w2) := by show Below _ _ _; rw [hw2]; exact HB1.out.alloc HB1.out.size _
  have hW2 := HW.out.same HB2.out
  have HW2 : Hid (Wl w0 w2 b m S d p T (.slice (some ⟨g, 0, none⟩) n c) (q ++ [(⟨N, pl⟩, .slice (some ⟨pg, 0, none⟩) pn pc)])) := hW2
  have HSb : Hid (¬ S sb ∧ ¬ T sb ∧ w0.heap.size ≤ sb ∧ w.heap.size ≤ sb) := by
    obtain ⟨sl, hd⟩ := HW.out.lv.dk
    have h1 := HB1.out.size
    refine ⟨fun e => ?_, fun e => ?_, ?_, by omega⟩
    · have := hd.lt sb e; omega
    · have := HW.out.lg.lt sb e; omega
    · have := HW.out.lv.below.size; omega
  have HPS : Hid (w2.heap[p]? = some (.cells #[dptr b, .slice (some ⟨g, 0, none⟩) n c] 99 (0, 0)) ∧ w2.heap[sb]? = some (.cells #[.int .i64 (N : Int), .slice (some ⟨pg, 0, none⟩) pn pc] 101 (0, 0))) := ⟨hW2.lg.blk, hsbk⟩
  have hpsb : p ≠ sb := fun e => HSb.out.2.1 (e ▸ HW.out.lg.tp)
  clear hsbk hW2
  by_cases hYi : Y ≤ i
  · have bYi : (Y : Int) ≤ (i : Int) := by omega
    have HYi : Hid (Y ≤ i) := hYi
    clear hYi
    have hNx := HNe.out w2
    go_wp2_with (fail)
    (try rw [← hsb])
    (try rw [← hw2])
    clear hw2 hsb
    refine hNx.mono ?_
    rintro e w3 ⟨rfl, hb3⟩
    have HB3 : Hid (Below w2.heap.size w2 w3) := hb3
    clear hNx hb3
    go_wp2_with (fail)
    go_ret
    have hR := HR.out
    rw [if_pos HYi.out] at hR
    exact ⟨by rw [← hR]; rfl, by rw [← hR]; exact ⟨_, _, _, _, HW2.out.same HB3.out, rfl, StW.same S T (HB2.out.trans (HB3.out.mono HB2.out.size))⟩⟩
  · have bYi : ¬ (Y : Int) ≤ (i : Int) := by omega
    obtain ⟨P, hP⟩ : ∃ P, pl.getD (i - N) 0 = P := ⟨_, rfl⟩
    obtain ⟨D, hD⟩ : ∃ D, cutP d (nameL N) (P : Int) = D := ⟨_, rfl⟩
    have hR := HR.out
    rw [if_neg hYi, hP, hD] at hR
    have hjl : i - N < pl.length := by have := HN.out; omega
    have hPb : P ≤ 1099511627776 := by
      have : P ∈ pl := by
        rw [← hP, List.getD_eq_getElem?_getD, List.getElem?_eq_getElem hjl]
        exact List.getElem_mem _
      exact HPb.out P this
    have HR2 : Hid ((if D.1 ≠ 0 then (D.1, D.2, (q ++ [((⟨N, pl⟩ : Sg), Value.slice (some ⟨pg, 0, none⟩) pn pc)]).map (·.1)) else (0, D.2, q.map (·.1) ++ [⟨N, pl.take (i - N + 1)⟩])) = R) := hR
    have HD : Hid (cutP d (nameL N) (P : Int) = D) := hD
    have HYi : Hid (¬ Y ≤ i) := hYi
    have HPp : Hid (pl.getD (i - N) 0 = P ∧ P ≤ 1099511627776) := ⟨hP, hPb⟩
    clear hYi hP hD hR hjl hPb HR
    have hNx := HNe.out w2
    go_wp2_with (fail)
    (try rw [← hsb])
    (try rw [← hw2])
    clear hw2 hsb
    refine hNx.mono ?_
    rintro e w3 ⟨rfl, hb3⟩
    have HB3 : Hid (Below w2.heap.size w2 w3) := hb3
    have hW3 := HW2.out.same hb3
    have HW3 : Hid (Wl w0 w3 b m S d p T (.slice (some ⟨g, 0, none⟩) n c) (q ++ [(⟨N, pl⟩, .slice (some ⟨pg, 0, none⟩) pn pc)])) := hW3
    replace HPS : Hid (w3.heap[p]? = some (.cells #[dptr b, .slice (some ⟨g, 0, none⟩) n c] 99 (0, 0)) ∧ w3.heap[sb]? = some (.cells #[.int .i64 (N : Int), .slice (some ⟨pg, 0, none⟩) pn pc] 101 (0, 0))) := ⟨hW3.lg.blk, (hb3.block sb (lt_blk HPS.out.2)).trans HPS.out.2⟩
    have n0 : ∀ w' : World, w'.heap[p]? = some (.cells #[dptr b, .slice (some ⟨g, 0, none⟩) n c] 99 (0, 0)) ∧ w'.heap[sb]? = some (.cells #[.int .i64 (N : Int), .slice (some ⟨pg, 0, none⟩) pn pc] 101 (0, 0)) → w'.cell? ⟨p, 0, none⟩ = some (dptr b) := fun w' hw => cell_blk hw.1 rfl
    have m0 : ∀ w' : World, w'.heap[p]? = some (.cells #[dptr b, .slice (some ⟨g, 0, none⟩) n c] 99 (0, 0)) ∧ w'.heap[sb]? = some (.cells #[.int .i64 (N : Int), .slice (some ⟨pg, 0, none⟩) pn pc] 101 (0, 0)) → w'.cell? ⟨sb, 0, none⟩ = some (.int .i64 (N : Int)) := fun w' hw => cell_blk hw.2 rfl
    have m1 : ∀ w' : World, w'.heap[p]? = some (.cells #[dptr b, .slice (some ⟨g, 0, none⟩) n c] 99 (0, 0)) ∧ w'.heap[sb]? = some (.cells #[.int .i64 (N : Int), .slice (some ⟨pg, 0, none⟩) pn pc] 101 (0, 0)) → w'.cell? ⟨sb, 1, none⟩ = some (.slice (some ⟨pg, 0, none⟩) pn pc) := fun w' hw => cell_blk hw.2 rfl
    have FN : Hid (∀ u, Below w3.heap.size w3 u → Calls Tryz.prog 69 #[sgV N (.slice (some ⟨pg, 0, none⟩) pn pc)] u fun e w' => e = .returned (strN (nameL N)) ∧ Below u.heap.size u w') := fun u hu => name_any (HW3.out.same hu).tabs _ (by have := HN.out; omega) _
    have FP : Hid (∀ u, Below w3.heap.size w3 u → Calls Tryz.prog 77 #[sgV N (.slice (some ⟨pg, 0, none⟩) pn pc), .int .i64 (i : Int)] u fun e w' => e = .returned (.int .i64 (P : Int)) ∧ Below u.heap.size u w') := fun u hu => by
      have h1 := (HW3.out.same hu).lg.pls (⟨N, pl⟩, .slice (some ⟨pg, 0, none⟩) pn pc) (by simp)
      have h2 := HN.out
      have h3 := HYi.out
      have hj : i - N < pl.length := by omega
      refine place_any u N i pg pn pc P h2.2.2.2.2.1 (by omega) (by omega) ?_
      have := h1.cells (g := pg) rfl (i - N) (placeV P) (by
        rw [List.getElem?_map, List.getElem?_eq_getElem hj]
        have := HPp.out.1
        rw [List.getD_eq_getElem?_getD, List.getElem?_eq_getElem hj] at this
        rw [← this]; rfl)
      rwa [Addr.add_lit, Nat.zero_add] at this
    clear hNx hb3 hW3
    go_wp2_with (fail)
    refine regionC (fun (w' : World) => w'.heap[p]? = some (.cells #[dptr b, .slice (some ⟨g, 0, none⟩) n c] 99 (0, 0)) ∧ w'.heap[sb]? = some (.cells #[.int .i64 (N : Int), .slice (some ⟨pg, 0, none⟩) pn pc] 101 (0, 0))) 10 (by kernel_rfl) ?_
    (try (change wpAnyC _ _ _ _ _ _ _ _ _ (World.drew _)))
    refine nameW (fun W0 hW0 => ?_)
    have hC : Hid (W0.heap[p]? = some (.cells #[dptr b, .slice (some ⟨g, 0, none⟩) n c] 99 (0, 0)) ∧ W0.heap[sb]? = some (.cells #[.int .i64 (N : Int), .slice (some ⟨pg, 0, none⟩) pn pc] 101 (0, 0))) := by show _ ∧ _; rw [hW0]; exact HPS.out
    have hB : Hid (Below w3.heap.size w3 W0) := by show Below _ _ _; rw [hW0]; exact ⟨rfl, rfl, rfl, Nat.le_refl _, fun _ _ => rfl⟩
    clear hW0
    refine takeC (i := 0) (v := ?_) rfl (by kernel_rfl) (by kernel_rfl) (by kernel_rfl) (by kernel_rfl) (by kernel_rfl) (fun _ _ _ h => h) hC.out (Or.inl ⟨by rfl, ?_⟩) ?_
    rotate_left 1
    · intro w' hw'
      skip
      go_simp
      first | done | with_reducible rfl
    (try simp only [Act.put])
    (try simp only [List.setIfInBounds_toArray])
    (try simp only [List.set_cons_succ])
    (try simp only [List.set_cons_zero])
    refine takeC (i := 1) (v := ?_) rfl (by kernel_rfl) (by kernel_rfl) (by kernel_rfl) (by kernel_rfl) (by kernel_rfl) (fun _ _ _ h => h) hC.out (Or.inl ⟨by rfl, ?_⟩) ?_
    rotate_left 1
    · intro w' hw'
      skip
      go_simp
      first | done | with_reducible rfl
    (try simp only [Act.put])
    (try simp only [List.setIfInBounds_toArray])
    (try simp only [List.set_cons_succ])
    (try simp only [List.set_cons_zero])
    refine takeC (i := 2) (v := ?_) rfl (by kernel_rfl) (by kernel_rfl) (by kernel_rfl) (by kernel_rfl) (by kernel_rfl) (fun _ _ _ h => h) hC.out (Or.inl ⟨by rfl, ?_⟩) ?_
    rotate_left 1
    · intro w' hw'
      skip
      go_simp
      first | done | with_reducible rfl
    (try simp only [Act.put])
    (try simp only [List.setIfInBounds_toArray])
    (try simp only [List.set_cons_succ])
    (try simp only [List.set_cons_zero])
    refine takeC (i := 3) (v := ?_) rfl (by kernel_rfl) (by kernel_rfl) (by kernel_rfl) (by kernel_rfl) (by kernel_rfl) (fun _ _ _ h => h) hC.out (Or.inl ⟨by rfl, ?_⟩) ?_
    rotate_left 1
    · intro w' hw'
      have z0 := n0 w' hw'; have z1 := m0 w' hw'; have z2 := m1 w' hw'
      go_simp
      first | done | with_reducible rfl
    (try simp only [Act.put])
    (try simp only [List.setIfInBounds_toArray])
    (try simp only [List.set_cons_succ])
    (try simp only [List.set_cons_zero])
    refine takeC (i := 4) (v := ?_) rfl (by kernel_rfl) (by kernel_rfl) (by kernel_rfl) (by kernel_rfl) (by kernel_rfl) (fun _ _ _ h => h) hC.out (Or.inl ⟨by rfl, ?_⟩) ?_
    rotate_left 1
    · intro w' hw'
      have z0 := n0 w' hw'; have z1 := m0 w' hw'; have z2 := m1 w' hw'
      go_simp
      first | done | with_reducible rfl
    (try simp only [Act.put])
    (try simp only [List.setIfInBounds_toArray])
    (try simp only [List.set_cons_succ])
    (try simp only [List.set_cons_zero])
    refine takeC (i := 6) (v := ?_) rfl (by kernel_rfl) (by kernel_rfl) (by kernel_rfl) (by kernel_rfl) (by kernel_rfl) (fun _ _ _ h => h) hC.out (Or.inl ⟨by rfl, ?_⟩) ?_
    rotate_left 1
    · intro w' hw'
      have z0 := n0 w' hw'; have z1 := m0 w' hw'; have z2 := m1 w' hw'
      go_simp
      first | done | with_reducible rfl
    (try simp only [Act.put])
    (try simp only [List.setIfInBounds_toArray])
    (try simp only [List.set_cons_succ])
    (try simp only [List.set_cons_zero])
    refine takeC (i := 7) (v := ?_) rfl (by kernel_rfl) (by kernel_rfl) (by kernel_rfl) (by kernel_rfl) (by kernel_rfl) (fun _ _ _ h => h) hC.out (Or.inl ⟨by rfl, ?_⟩) ?_
    rotate_left 1
    · intro w' hw'
      skip
      go_simp
      first | done | with_reducible rfl
    (try simp only [Act.put])
    (try simp only [List.setIfInBounds_toArray])
    (try simp only [List.set_cons_succ])
    (try simp only [List.set_cons_zero])
    refine readyC (rs := [5]) (by kernel_rfl) (by simp) ?_
    refine ReadyC.cons rfl (fun K hK => ?_) ReadyC.nil
    refine stepV_call rfl 69 #[sgV N (.slice (some ⟨pg, 0, none⟩) pn pc)] (by kernel_rfl) (FN.out W0 hB.out) (fun e w' h => ⟨_, h.1⟩) ?_
    intro v1 W1 hq
    obtain ⟨hv1, hq⟩ := hq
    have hv1' := Ending.returned.inj hv1
    subst hv1'
    have hq2 : Below w3.heap.size w3 W1 := hB.out.trans (hq.mono hB.out.size)
    have hq3 : W1.heap[p]? = some (.cells #[dptr b, .slice (some ⟨g, 0, none⟩) n c] 99 (0, 0)) ∧ W1.heap[sb]? = some (.cells #[.int .i64 (N : Int), .slice (some ⟨pg, 0, none⟩) pn pc] 101 (0, 0)) := ⟨(hq2.block _ (lt_blk HPS.out.1)).trans HPS.out.1, (hq2.block _ (lt_blk HPS.out.2)).trans HPS.out.2⟩
    refine hK _ _ (fun _ => hq3) ?_
    clear hK K
    (try simp only [Act.put])
    (try simp only [List.setIfInBounds_toArray])
    (try simp only [List.set_cons_succ])
    (try simp only [List.set_cons_zero])
    replace hC : Hid (W1.heap[p]? = some (.cells #[dptr b, .slice (some ⟨g, 0, none⟩) n c] 99 (0, 0)) ∧ W1.heap[sb]? = some (.cells #[.int .i64 (N : Int), .slice (some ⟨pg, 0, none⟩) pn pc] 101 (0, 0))) := hq3
    replace hB : Hid (Below w3.heap.size w3 W1) := hq2
    clear hv1 hq hq2 hq3
    refine readyC (rs := [8]) (by kernel_rfl) (by simp) ?_
    refine ReadyC.cons rfl (fun K hK => ?_) ReadyC.nil
    refine stepV_call rfl 77 #[sgV N (.slice (some ⟨pg, 0, none⟩) pn pc), .int .i64 (i : Int)] (by kernel_rfl) (FP.out W1 hB.out) (fun e w' h => ⟨_, h.1⟩) ?_
    intro v1 W2 hq
    obtain ⟨hv1, hq⟩ := hq
    have hv1' := Ending.returned.inj hv1
    subst hv1'
    have hq2 : Below w3.heap.size w3 W2 := hB.out.trans (hq.mono hB.out.size)
    have hq3 : W2.heap[p]? = some (.cells #[dptr b, .slice (some ⟨g, 0, none⟩) n c] 99 (0, 0)) ∧ W2.heap[sb]? = some (.cells #[.int .i64 (N : Int), .slice (some ⟨pg, 0, none⟩) pn pc] 101 (0, 0)) := ⟨(hq2.block _ (lt_blk HPS.out.1)).trans HPS.out.1, (hq2.block _ (lt_blk HPS.out.2)).trans HPS.out.2⟩
    refine hK _ _ (fun _ => hq3) ?_
    clear hK K
    (try simp only [Act.put])
    (try simp only [List.setIfInBounds_toArray])
    (try simp only [List.set_cons_succ])
    (try simp only [List.set_cons_zero])
    replace hC : Hid (W2.heap[p]? = some (.cells #[dptr b, .slice (some ⟨g, 0, none⟩) n c] 99 (0, 0)) ∧ W2.heap[sb]? = some (.cells #[.int .i64 (N : Int), .slice (some ⟨pg, 0, none⟩) pn pc] 101 (0, 0))) := hq3
    replace hB : Hid (Below w3.heap.size w3 W2) := hq2
    clear hv1 hq hq2 hq3
    refine readyC (rs := [9]) (by kernel_rfl) (by simp) ?_
    refine ReadyC.cons rfl (fun K hK => ?_) ReadyC.nil
    refine stepV_call rfl 42 #[dptr b, strN (nameL N), .int .i64 (P : Int)] (by kernel_rfl) (cutL (HW3.out.same hB.out).lv (nameL N) (by rw [nameL_length]; omega) (P : Int) (by have := HPp.out; omega)) (fun e w' h => ⟨_, h.1⟩) ?_
    intro v9 W3 hq
    obtain ⟨hv9, hlv, hst⟩ := hq
    have hv9' := Ending.returned.inj hv9
    subst hv9'
    rw [HD.out] at hlv ⊢
    obtain ⟨hwl, hstw⟩ := (HW3.out.same hB.out).disk hlv hst
    have hkk : W3.heap[p]? = some (.cells #[dptr b, .slice (some ⟨g, 0, none⟩) n c] 99 (0, 0)) ∧ W3.heap[sb]? = some (.cells #[.int .i64 (N : Int), .slice (some ⟨pg, 0, none⟩) pn pc] 101 (0, 0)) := ⟨hwl.lg.blk, (hst.1.block sb (lt_blk hC.out.2) HSb.out.1).trans hC.out.2⟩
    refine hK _ _ (fun _ => hkk) ?_
    clear hK K
    (try simp only [Act.put])
    (try simp only [List.setIfInBounds_toArray])
    (try simp only [List.set_cons_succ])
    (try simp only [List.set_cons_zero])
    replace hC : Hid (W3.heap[p]? = some (.cells #[dptr b, .slice (some ⟨g, 0, none⟩) n c] 99 (0, 0)) ∧ W3.heap[sb]? = some (.cells #[.int .i64 (N : Int), .slice (some ⟨pg, 0, none⟩) pn pc] 101 (0, 0))) := hkk
    have HW9 : Hid (Wl w0 W3 b m S D.2 p T (.slice (some ⟨g, 0, none⟩) n c) (q ++ [(⟨N, pl⟩, .slice (some ⟨pg, 0, none⟩) pn pc)])) := hwl
    have HS9 : Hid (StW w S T W3 S T) := (StW.same S T (HB2.out.trans (HB3.out.mono HB2.out.size))).trans ((StW.same S T hB.out).trans hstw)
    clear hkk hv9 hlv hst hwl hstw hB
    refine readyC (rs := [10]) (by kernel_rfl) (by simp) ?_
    refine ReadyC.cons rfl (fun K hK => ?_) ReadyC.nil
    go_simp
    refine hK _ _ (fun _ => hC.out) ?_
    clear hK K
    (try simp only [Act.put])
    (try simp only [List.setIfInBounds_toArray])
    (try simp only [List.set_cons_succ])
    (try simp only [List.set_cons_zero])
    refine doneC (by kernel_rfl) ?_ _
    clear n0 m0 m1 FN FP
    obtain ⟨w9, hw9⟩ : ∃ w9, w9 = W3 := ⟨_, rfl⟩
    subst hw9
    obtain ⟨e9, he9⟩ : ∃ e9, D.1 = e9 := ⟨_, rfl⟩
    rw [he9]
    have HE : Hid (D.1 = e9) := he9
    by_cases hz : e9 = 0
    · subst hz
      obtain ⟨i0, hi0⟩ : ∃ i0, i - N = i0 := ⟨_, rfl⟩
      obtain ⟨k1, hk1⟩ : ∃ k1, i0 + 1 = k1 := ⟨_, rfl⟩
      have ei0 : (i : Int) - (N : Int) = (i0 : Int) := by have := HN.out; omega
      have ek1 : (i0 : Int) + 1 = (k1 : Int) := by omega
      have bk1 : (k1 : Int) ≤ 1000001 := by have := HN.out; omega
      have bi0 : (i0 : Int) ≤ 1000000 := by have := HN.out; omega
      have bk2 : (k1 : Int) ≤ (pc : Int) := by have h1 := HN.out; have h2 := HYi.out; omega
      have HK1 : Hid (i - N + 1 = k1) := by show _ = _; omega
      have z33 := int_cut (some ⟨pg, 0, none⟩) pn pc k1 (by have h1 := HN.out; have h2 := HYi.out; omega) (by have h1 := HN.out; omega)
      have y0 : w9.cell? ⟨sb, 0, none⟩ = some (.int .i64 (N : Int)) := cell_blk hC.out.2 rfl
      have y1 : w9.cell? ⟨sb, 1, none⟩ = some (.slice (some ⟨pg, 0, none⟩) pn pc) := cell_blk hC.out.2 rfl
      have y2 := free_blk hC.out.2 1
      obtain ⟨w10, hw10⟩ : ∃ w10, w10 = w9.setCell ⟨sb, 1, none⟩ (.slice (some ⟨pg, 0, none⟩) k1 pc) := ⟨_, rfl⟩
      have hfr : Fr (fun k => k = sb) w9 w10 := by rw [hw10]; exact Fr.set (S := fun k => k = sb) (p := ⟨sb, 1, none⟩) (Fr.refl _ w9) rfl _
      have hW10 := HW9.out.other hfr HSb.out.1 HSb.out.2.1 HSb.out.2.2.1
      have HW10 : Hid (Wl w0 w10 b m S D.2 p T (.slice (some ⟨g, 0, none⟩) n c) (q ++ [(⟨N, pl⟩, .slice (some ⟨pg, 0, none⟩) pn pc)])) := hW10
      have HS10 : Hid (StW w S T w10 S T) := HS9.out.more ⟨hfr.os, hfr.tape, hfr.output, hfr.size, fun k hk hn => hfr.block k hk (fun e => hn (.inr (by rw [e]; exact HSb.out.2.2.2)))⟩ (fun k hk => .inl hk)
      have HPS : Hid (w10.heap[p]? = some (.cells #[dptr b, .slice (some ⟨g, 0, none⟩) n c] 99 (0, 0)) ∧ w10.heap[sb]? = some (.cells #[.int .i64 (N : Int), .slice (some ⟨pg, 0, none⟩) k1 pc] 101 (0, 0))) := ⟨hW10.lg.blk, by rw [hw10]; exact set_blk hC.out.2 1 _⟩
      have n1 : ∀ w' : World, w'.heap[p]? = some (.cells #[dptr b, .slice (some ⟨g, 0, none⟩) n c] 99 (0, 0)) ∧ w'.heap[sb]? = some (.cells #[.int .i64 (N : Int), .slice (some ⟨pg, 0, none⟩) k1 pc] 101 (0, 0)) → w'.cell? ⟨p, 1, none⟩ = some (.slice (some ⟨g, 0, none⟩) n c) := fun w' hw => cell_blk hw.1 rfl
      have m0 : ∀ w' : World, w'.heap[p]? = some (.cells #[dptr b, .slice (some ⟨g, 0, none⟩) n c] 99 (0, 0)) ∧ w'.heap[sb]? = some (.cells #[.int .i64 (N : Int), .slice (some ⟨pg, 0, none⟩) k1 pc] 101 (0, 0)) → w'.cell? ⟨sb, 0, none⟩ = some (.int .i64 (N : Int)) := fun w' hw => cell_blk hw.2 rfl
      have m1 : ∀ w' : World, w'.heap[p]? = some (.cells #[dptr b, .slice (some ⟨g, 0, none⟩) n c] 99 (0, 0)) ∧ w'.heap[sb]? = some (.cells #[.int .i64 (N : Int), .slice (some ⟨pg, 0, none⟩) k1 pc] 101 (0, 0)) → w'.cell? ⟨sb, 1, none⟩ = some (.slice (some ⟨pg, 0, none⟩) k1 pc) := fun w' hw => cell_blk hw.2 rfl
      obtain ⟨nq, hnq⟩ : ∃ nq, q.length = nq := ⟨_, rfl⟩
      obtain ⟨j0, hj0⟩ : ∃ j0, nq * 2 = j0 := ⟨_, rfl⟩
      have HJ : Hid (j0 = q.length * 2 ∧ 1 ≤ k1 ∧ k1 ≤ pl.length) := ⟨by rw [hnq]; exact hj0.symm, by omega, by have h1 := HN.out; have h2 := HYi.out; omega⟩
      have enq : (n : Int) - 1 = (nq : Int) := by have := HN.out; omega
      have ewr : IntKind.i64.wrap (nq : Int) = (nq : Int) := by rw [IntKind.wrap_i64]; have := HN.out; omega
      have bnq : (nq : Int) < (n : Int) := by have := HN.out; omega
      have bnqn : nq < n := by have := HN.out; omega
      have HRow : Hid (∀ u, Below w10.heap.size w10 u → u.cell? ⟨g, j0, none⟩ = some (.int .i64 (N : Int)) ∧ u.cell? ⟨g, j0 + 1, none⟩ = some (.slice (some ⟨pg, 0, none⟩) pn pc)) := fun u hu => by
        obtain ⟨k0, k1'⟩ := (HW10.out.same hu).lg.at (i := q.length) (x := (⟨N, pl⟩, .slice (some ⟨pg, 0, none⟩) pn pc)) (by simp)
        rw [hnq, hj0] at k0 k1'
        exact ⟨k0, k1'⟩
      have HFree : Hid (∀ u, Below w10.heap.size w10 u → u.frozen? ⟨g, j0, none⟩ = false ∧ u.frozen? ⟨g, j0 + 1, none⟩ = false) := fun u hu => by
        obtain ⟨cu, hcu⟩ := ownQ_type (HW10.out.same hu).lg.row (g := g) rfl
        exact ⟨free_blk hcu _, free_blk hcu _⟩
      clear hC he9 hi0 hk1 hfr hW10 hnq
      go_wp2_with (fail)
      (try rw [← hw10])
      clear hw10 y0 y1 y2
      refine regionC (fun (w' : World) => w'.heap[p]? = some (.cells #[dptr b, .slice (some ⟨g, 0, none⟩) n c] 99 (0, 0)) ∧ w'.heap[sb]? = some (.cells #[.int .i64 (N : Int), .slice (some ⟨pg, 0, none⟩) k1 pc] 101 (0, 0))) 12 (by kernel_rfl) ?_
      (try (change wpAnyC _ _ _ _ _ _ _ _ _ (World.drew _)))
      refine nameW (fun W0 hW0 => ?_)
      have hC : Hid (W0.heap[p]? = some (.cells #[dptr b, .slice (some ⟨g, 0, none⟩) n c] 99 (0, 0)) ∧ W0.heap[sb]? = some (.cells #[.int .i64 (N : Int), .slice (some ⟨pg, 0, none⟩) k1 pc] 101 (0, 0))) := by show _ ∧ _; rw [hW0]; exact HPS.out
      have hB : Hid (Below w10.heap.size w10 W0) := by show Below _ _ _; rw [hW0]; exact ⟨rfl, rfl, rfl, Nat.le_refl _, fun _ _ => rfl⟩
      clear hW0
      refine takeC (i := 0) (v := ?_) rfl (by kernel_rfl) (by kernel_rfl) (by kernel_rfl) (by kernel_rfl) (by kernel_rfl) (fun _ _ _ h => h) hC.out (Or.inl ⟨by rfl, ?_⟩) ?_
      rotate_left 1
      · intro w' hw'
        skip
        go_simp
        first | done | with_reducible rfl
      (try simp only [Act.put])
      (try simp only [List.setIfInBounds_toArray])
      (try simp only [List.set_cons_succ])
      (try simp only [List.set_cons_zero])
      refine takeC (i := 1) (v := ?_) rfl (by kernel_rfl) (by kernel_rfl) (by kernel_rfl) (by kernel_rfl) (by kernel_rfl) (fun _ _ _ h => h) hC.out (Or.inl ⟨by rfl, ?_⟩) ?_
      rotate_left 1
      · intro w' hw'
        skip
        go_simp
        first | done | with_reducible rfl
      (try simp only [Act.put])
      (try simp only [List.setIfInBounds_toArray])
      (try simp only [List.set_cons_succ])
      (try simp only [List.set_cons_zero])
      refine takeC (i := 2) (v := ?_) rfl (by kernel_rfl) (by kernel_rfl) (by kernel_rfl) (by kernel_rfl) (by kernel_rfl) (fun _ _ _ h => h) hC.out (Or.inl ⟨by rfl, ?_⟩) ?_
      rotate_left 1
      · intro w' hw'
        skip
        go_simp
        first | done | with_reducible rfl
      (try simp only [Act.put])
      (try simp only [List.setIfInBounds_toArray])
      (try simp only [List.set_cons_succ])
      (try simp only [List.set_cons_zero])
      refine takeC (i := 3) (v := ?_) rfl (by kernel_rfl) (by kernel_rfl) (by kernel_rfl) (by kernel_rfl) (by kernel_rfl) (fun _ _ _ h => h) hC.out (Or.inl ⟨by rfl, ?_⟩) ?_
      rotate_left 1
      · intro w' hw'
        have z0 := n1 w' hw'; have z1 := m0 w' hw'; have z2 := m1 w' hw'
        go_simp
        first | done | with_reducible rfl
      (try simp only [Act.put])
      (try simp only [List.setIfInBounds_toArray])
      (try simp only [List.set_cons_succ])
      (try simp only [List.set_cons_zero])
      refine takeC (i := 4) (v := ?_) rfl (by kernel_rfl) (by kernel_rfl) (by kernel_rfl) (by kernel_rfl) (by kernel_rfl) (fun _ _ _ h => h) hC.out (Or.inl ⟨by rfl, ?_⟩) ?_
      rotate_left 1
      · intro w' hw'
        skip
        go_simp
        first | done | with_reducible rfl
      (try simp only [Act.put])
      (try simp only [List.setIfInBounds_toArray])
      (try simp only [List.set_cons_succ])
      (try simp only [List.set_cons_zero])
      refine takeC (i := 5) (v := ?_) rfl (by kernel_rfl) (by kernel_rfl) (by kernel_rfl) (by kernel_rfl) (by kernel_rfl) (fun _ _ _ h => h) hC.out (Or.inl ⟨by rfl, ?_⟩) ?_
      rotate_left 1
      · intro w' hw'
        skip
        go_simp
        first | done | with_reducible rfl
      (try simp only [Act.put])
      (try simp only [List.setIfInBounds_toArray])
      (try simp only [List.set_cons_succ])
      (try simp only [List.set_cons_zero])
      refine takeC (i := 6) (v := ?_) rfl (by kernel_rfl) (by kernel_rfl) (by kernel_rfl) (by kernel_rfl) (by kernel_rfl) (fun _ _ _ h => h) hC.out (Or.inl ⟨by rfl, ?_⟩) ?_
      rotate_left 1
      · intro w' hw'
        skip
        go_simp
        first | done | with_reducible rfl
      (try simp only [Act.put])
      (try simp only [List.setIfInBounds_toArray])
      (try simp only [List.set_cons_succ])
      (try simp only [List.set_cons_zero])
      refine takeC (i := 7) (v := ?_) rfl (by kernel_rfl) (by kernel_rfl) (by kernel_rfl) (by kernel_rfl) (by kernel_rfl) (fun _ _ _ h => h) hC.out (Or.inl ⟨by rfl, ?_⟩) ?_
      rotate_left 1
      · intro w' hw'
        have z0 := n1 w' hw'; have z1 := m0 w' hw'; have z2 := m1 w' hw'
        go_simp
        first | done | with_reducible rfl
      (try simp only [Act.put])
      (try simp only [List.setIfInBounds_toArray])
      (try simp only [List.set_cons_succ])
      (try simp only [List.set_cons_zero])
      refine takeC (i := 8) (v := ?_) rfl (by kernel_rfl) (by kernel_rfl) (by kernel_rfl) (by kernel_rfl) (by kernel_rfl) (fun _ _ _ h => h) hC.out (Or.inl ⟨by rfl, ?_⟩) ?_
      rotate_left 1
      · intro w' hw'
        skip
        go_simp
        first | done | with_reducible rfl
      (try simp only [Act.put])
      (try simp only [List.setIfInBounds_toArray])
      (try simp only [List.set_cons_succ])
      (try simp only [List.set_cons_zero])
      refine takeC (i := 9) (v := ?_) rfl (by kernel_rfl) (by kernel_rfl) (by kernel_rfl) (by kernel_rfl) (by kernel_rfl) (fun _ _ _ h => h) hC.out (Or.inl ⟨by rfl, ?_⟩) ?_
      rotate_left 1
      · intro w' hw'
        skip
        go_simp
        first | done | with_reducible rfl
      (try simp only [Act.put])
      (try simp only [List.setIfInBounds_toArray])
      (try simp only [List.set_cons_succ])
      (try simp only [List.set_cons_zero])
      refine takeC (i := 10) (v := ?_) rfl (by kernel_rfl) (by kernel_rfl) (by kernel_rfl) (by kernel_rfl) (by kernel_rfl) (fun _ _ _ h => h) hC.out (Or.inl ⟨by rfl, ?_⟩) ?_
      rotate_left 1
      · intro w' hw'
        have z0 := n1 w' hw'; have z1 := m0 w' hw'; have z2 := m1 w' hw'
        go_simp
        first | done | with_reducible rfl
      (try simp only [Act.put])
      (try simp only [List.setIfInBounds_toArray])
      (try simp only [List.set_cons_succ])
      (try simp only [List.set_cons_zero])
      refine takeC (i := 11) (v := ?_) rfl (by kernel_rfl) (by kernel_rfl) (by kernel_rfl) (by kernel_rfl) (by kernel_rfl) (fun _ _ _ h => h) hC.out (Or.inl ⟨by rfl, ?_⟩) ?_
      rotate_left 1
      · intro w' hw'
        skip
        go_simp
        first | done | with_reducible rfl
      (try simp only [Act.put])
      (try simp only [List.setIfInBounds_toArray])
      (try simp only [List.set_cons_succ])
      (try simp only [List.set_cons_zero])
      refine readyC (rs := [12]) (by kernel_rfl) (by simp) ?_
      refine ReadyC.cons rfl (fun K hK => ?_) ReadyC.nil
      have y1 := n1 W0 hC.out
      have y2 := m0 W0 hC.out
      have y3 := m1 W0 hC.out
      have y4 := (HRow.out W0 hB.out).1
      have y5 := (HRow.out W0 hB.out).2
      have y6 := (HFree.out W0 hB.out).1
      have y7 := (HFree.out W0 hB.out).2
      go_simp
      refine hK _ _ (fun h => absurd rfl h) ?_
      clear hK K
      (try simp only [Act.put])
      (try simp only [List.setIfInBounds_toArray])
      (try simp only [List.set_cons_succ])
      (try simp only [List.set_cons_zero])
      refine nameW (fun W1 hW => ?_)
      have HX : Hid (DidW w0 w b m S p T D.2 (q.map (·.1) ++ [⟨N, pl.take k1⟩]) W1) := by
        obtain ⟨x1, x2⟩ := Wl.cutl (HW10.out.same hB.out) (j := j0) (k1 := k1) (w2 := W1) HJ.out.1 HJ.out.2.1 HJ.out.2.2 hW
        exact ⟨_, _, _, _, x1, by simp, HS10.out.trans ((StW.same S T hB.out).trans x2)⟩
      clear hW y1 y2 y3 y4 y5 y6 y7
      refine doneC (by kernel_rfl) ?_ _
      go_wp2_with (fail)
      go_ret
      have hR := HR2.out
      rw [HE.out, if_neg (by simp)] at hR
      exact ⟨by rw [← hR]; rfl, by rw [← hR]; have := HX.out; rw [← HK1.out] at this; exact this⟩
    · have q9 : ((e9 : Int) != 0) = true := by simp; omega
      have q8 : ((e9 : Int) == 0) = false := by simp; omega
      have HZ : Hid (e9 ≠ 0) := hz
      clear hz hC he9
      go_wp2_with (fail)
      go_ret
      have hR := HR2.out
      rw [HE.out, if_pos HZ.out] at hR
      exact ⟨by rw [← hR]; rfl, by rw [← hR]; exact ⟨_, _, _, _, HW9.out, rfl, HS9.out⟩⟩
end Go.Proofs.YtkbmblmnhhlicaaGreatDoor
