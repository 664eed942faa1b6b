/- How a snapshot is written: parts' PutSnap; numbers of a row that is made: walked. -/
import Derived.Test.YtmlihlnigojmpaaDoorPMay3
import Derived.Test.YtmlihlnigojmpaaDoorROrd
set_option linter.unusedVariables false
namespace Go.Proofs.YtmlihlnigojmpaaDoor
open Go.RowKit

theorem pstepV_call {P : Program} {w : World} {ops : Array Oper} {o : Oper} {c : Act} {K : Act → World → Prop} {Q : Exit → Act → World → Prop} {E : Prop} {R : Ending → World → Prop}
    (hg : o.guard = none) (f : FuncId) (args : Array Value) (hrun : (execOp c.eval o).run P w = .ok (.enter f args) w) (hc : Calls P f args w R)
    (hR : ∀ e w', R e w' → ∃ v, e = .returned v) (hK : ∀ v w', R (.returned v) w' → K (c.put o.dst v) w') :
    if Region.wanted o (yielded ops c.tmps) = true then Oper.wp P o c w K Q else E := by
  have hw : Region.wanted o (yielded ops c.tmps) = true := by simp [Region.wanted, hg]
  rw [if_pos hw]
  unfold Oper.wp
  rw [hrun, Oper.upon_enter]
  refine hc.mono fun e w' h => ?_
  obtain ⟨v, rfl⟩ := hR e w' h
  exact hK v w' h
theorem pnameW {P : Program} {md : Region.Mode} {ops : Array Oper} {C : World → Prop} {last : Nat} {Q : Exit → Act → World → Prop} {f : Nat} {s : Array Bool} {a : Act} {w : World} (h : ∀ w', w' = w → wpAnyC P md ops C last Q f s a w') : wpAnyC P md ops C last Q f s a w := h w rfl
theorem plt_blk {w : World} {b : Nat} {o : Obj} (h : w.heap[b]? = some o) : b < w.heap.size := (Array.getElem?_eq_some_iff.1 h).1

/-- Numbers laid into a row. -/
def intC (zs : List Nat) : Array Value := (zs.map fun (z : Nat) => Value.int .i64 (z : Int)).toArray
theorem irow_lay (w : World) (zs : List Nat) : IRow (w.alloc (.cells (intC zs) 3)) (some ⟨w.heap.size, 0, none⟩) zs := by
  intro j z hj
  refine ⟨_, rfl, ?_⟩
  have hc := lit_cells w (zs.map fun (z : Nat) => Value.int .i64 (z : Int)) 3 j (.int .i64 (z : Int)) (by rw [List.getElem?_map, hj]; rfl)
  exact hc
/-- Numbers behind bytes, out of a row that is made for it. -/
theorem putLay_any {w : World} {a : Option Addr} {n c : Nat} {l : List UInt8} (zs : List Nat) (h : BRow w a n c l) (hz : ∀ z ∈ zs, z < 9223372036854775808) (hlen : n + 10 * zs.length ≤ 140737488355328) (h0 : zs ≠ []) (k : Nat) (hk : zs.length = k) (nc : Nat) :
    Calls Tryd.prog 45 #[.slice a n c, .slice (some ⟨w.heap.size, 0, none⟩) k nc] (w.alloc (.cells (intC zs) 3)) (Made (w.alloc (.cells (intC zs) 3)) (l ++ flatN zs)) := by
  subst hk
  exact putNums_any (h.below ((Below.refl _ w).alloc (Nat.le_refl _) _)) (irow_lay w zs) hz hlen h0

def snpL (X T : Nat) (nodes : List Nat) (data : List UInt8) : List UInt8 := flatN [X, T] ++ flatN (nodes.length :: nodes) ++ putT data

set_option maxHeartbeats 8000000 in
set_option maxRecDepth 40000 in
theorem putSnap_any {w : World} {a na da : Option Addr} {n c nn nc dn dc X T : Nat} {l : List UInt8} {nodes : List Nat} {data : List UInt8} (h : BRow w a n c l) (hn9 : n ≤ 100000) (hX : X ≤ 999999) (hT : T ≤ 999999) (hn : IRow w na nodes) (hz : ∀ z ∈ nodes, z ≤ 5) (hnl : nodes.length = nn) (hn2 : nn ≤ 5) (hn0 : nodes ≠ []) (hd : BRow w da dn dc data) (hd2 : dn ≤ 300000) :
    Calls Tryd.prog 48 #[.slice a n c, .agg #[.int .i64 (X : Int), .int .i64 (T : Int), .slice na nn nc, .slice da dn dc]] w (Made w (l ++ snpL X T nodes data)) := by
  obtain ⟨w1, hw1⟩ : ∃ w1, w1 = w.alloc (.cells #[.int .i64 (X : Int), .int .i64 (T : Int), .slice na nn nc, .slice da dn dc] 26) := ⟨_, rfl⟩
  have hb1 : Below w.heap.size w w1 := by rw [hw1]; exact (Below.refl _ w).alloc (Nat.le_refl _) _
  have hk1 : w1.heap[w.heap.size]? = some (.cells #[.int .i64 (X : Int), .int .i64 (T : Int), .slice na nn nc, .slice da dn dc] 26 (0, 0)) := by rw [hw1]; exact heap_alloc_new _ _
  have x0 : ∀ w', Below w1.heap.size w1 w' → w'.cell? ⟨w.heap.size, 0, none⟩ = some (.int .i64 (X : Int)) := fun w' h => pcell ((h.block _ (plt_blk hk1)).trans hk1) rfl
  have x1 : ∀ w', Below w1.heap.size w1 w' → w'.cell? ⟨w.heap.size, 1, none⟩ = some (.int .i64 (T : Int)) := fun w' h => pcell ((h.block _ (plt_blk hk1)).trans hk1) rfl
  have x2 : ∀ w', Below w1.heap.size w1 w' → w'.cell? ⟨w.heap.size, 2, none⟩ = some (.slice na nn nc) := fun w' h => pcell ((h.block _ (plt_blk hk1)).trans hk1) rfl
  have x3 : ∀ w', Below w1.heap.size w1 w' → w'.cell? ⟨w.heap.size, 3, none⟩ = some (.slice da dn dc) := fun w' h => pcell ((h.block _ (plt_blk hk1)).trans hk1) rfl
  obtain ⟨F1, hF1⟩ : ∃ F1, l ++ flatN [X, T] = F1 := ⟨_, rfl⟩
  obtain ⟨F2, hF2⟩ : ∃ F2, flatN (nodes.length :: nodes) = F2 := ⟨_, rfl⟩
  have hl1 : F1.length ≤ 100020 := by
    have := flatN_len [X, T] (by intro z hz; simp at hz; rcases hz with rfl | rfl <;> omega)
    rw [← hF1, List.length_append, h.1]; simp only [List.length_cons, List.length_nil] at this; omega
  have hl2 : F2.length ≤ 60 := by
    have := flatN_len (nodes.length :: nodes) (by
      intro z hz2
      rcases List.mem_cons.1 hz2 with rfl | hz2
      · omega
      · have := hz z hz2; omega)
    rw [← hF2]; simp only [List.length_cons] at this; omega
  have H1 : Hid (∀ u, Below w1.heap.size w1 u → Calls Tryd.prog 45 #[.slice a n c, .slice (some ⟨u.heap.size, 0, none⟩) 2 2] (u.alloc (.cells #[.int .i64 (X : Int), .int .i64 (T : Int)] 3)) (Made (u.alloc (.cells #[.int .i64 (X : Int), .int .i64 (T : Int)] 3)) F1)) := fun u hu => by
    have hP := putLay_any [X, T] (h.below (hb1.trans (hu.mono hb1.size))) (by intro z hz; simp at hz; rcases hz with rfl | rfl <;> omega) (by simp; omega) (by simp) 2 rfl 2
    rw [hF1] at hP
    exact hP
  have H2 : Hid (∀ u, Below w1.heap.size w1 u → ∀ (a : Option Addr) (c : Nat), BRow u a F1.length c F1 → Calls Tryd.prog 68 #[.slice a F1.length c, .slice na nn nc] u (Made u (F1 ++ F2))) := fun u hu a c hr => by
    have hP := putGroup_any (nc := nc) hr (hn.below (hb1.trans (hu.mono hb1.size))) (fun z h => by have := hz z h; omega) (by omega) hn0
    rw [hF2, hnl] at hP
    exact hP
  have H3 : Hid (∀ u, Below w1.heap.size w1 u → BRow u da dn dc data) := fun u hu => hd.below (hb1.trans (hu.mono hb1.size))
  have HB1 : Hid (Below w.heap.size w w1 ∧ data.length = dn) := ⟨hb1, hd.1⟩
  obtain ⟨F3, hF3⟩ : ∃ F3, F1 ++ F2 = F3 := ⟨_, rfl⟩
  have hl3 : F3.length ≤ 100080 := by rw [← hF3, List.length_append]; omega
  obtain ⟨F4, hF4⟩ : ∃ F4, F3 ++ putT data = F4 := ⟨_, rfl⟩
  have hpn : (putN dn).length ≤ 10 := putN_le10 (by omega)
  have hsn : l ++ snpL X T nodes data = F4 := by unfold snpL; rw [← hF4, ← hF3, ← hF1, ← hF2]; simp
  rw [hF3] at H2
  rw [hsn]
  have HF : Hid (F3.length ≤ 100080 ∧ F3 ++ putT data = F4 ∧ (putN dn).length ≤ 10 ∧ dn ≤ 300000) := ⟨hl3, hF4, hpn, hd2⟩
  clear hb1 hk1 hn hz hnl hn2 hn0 hd hd2 hX hT hl1 hl2 hl3 hF1 hF2 hF3 hF4 hpn hsn h hn9
  go_enter Tryd.func48, Tryd.ntmps48
  go_upto_region 1 with fail
  rw [← hw1]
  clear hw1
  refine regionC (fun (w' : World) => Below w1.heap.size w1 w') 10 (by kernel_rfl) ?_
  (try (change wpAnyC _ _ _ _ _ _ _ _ _ (World.drew _)))
  refine pnameW (fun W0 hW0 => ?_)
  have hC : Hid (Below w1.heap.size w1 W0) := by show Below _ _ _; rw [hW0]; exact ⟨rfl, rfl, rfl, Nat.le_refl _, fun _ _ => rfl⟩
  clear hW0
  refine takeC (i := 0) (v := ?_) rfl (by kernel_rfl) (by kernel_rfl) (by kernel_rfl) (by kernel_rfl) (by kernel_rfl) (fun _ _ _ h => h) hC.out (Or.inl ⟨by rfl, ?_⟩) ?_
  rotate_left 1
  · intro w' hw'
    skip
    go_simp
    first | done | with_reducible rfl
  (try simp only [Act.put])
  (try simp only [List.setIfInBounds_toArray])
  (try simp only [List.set_cons_succ])
  (try simp only [List.set_cons_zero])
  refine takeC (i := 1) (v := ?_) rfl (by kernel_rfl) (by kernel_rfl) (by kernel_rfl) (by kernel_rfl) (by kernel_rfl) (fun _ _ _ h => h) hC.out (Or.inl ⟨by rfl, ?_⟩) ?_
  rotate_left 1
  · intro w' hw'
    skip
    go_simp
    first | done | with_reducible rfl
  (try simp only [Act.put])
  (try simp only [List.setIfInBounds_toArray])
  (try simp only [List.set_cons_succ])
  (try simp only [List.set_cons_zero])
  refine takeC (i := 2) (v := ?_) rfl (by kernel_rfl) (by kernel_rfl) (by kernel_rfl) (by kernel_rfl) (by kernel_rfl) (fun _ _ _ h => h) hC.out (Or.inl ⟨by rfl, ?_⟩) ?_
  rotate_left 1
  · intro w' hw'
    have z0 := x0 w' hw'
    go_simp
    first | done | with_reducible rfl
  (try simp only [Act.put])
  (try simp only [List.setIfInBounds_toArray])
  (try simp only [List.set_cons_succ])
  (try simp only [List.set_cons_zero])
  refine takeC (i := 3) (v := ?_) rfl (by kernel_rfl) (by kernel_rfl) (by kernel_rfl) (by kernel_rfl) (by kernel_rfl) (fun _ _ _ h => h) hC.out (Or.inl ⟨by rfl, ?_⟩) ?_
  rotate_left 1
  · intro w' hw'
    skip
    go_simp
    first | done | with_reducible rfl
  (try simp only [Act.put])
  (try simp only [List.setIfInBounds_toArray])
  (try simp only [List.set_cons_succ])
  (try simp only [List.set_cons_zero])
  refine takeC (i := 4) (v := ?_) rfl (by kernel_rfl) (by kernel_rfl) (by kernel_rfl) (by kernel_rfl) (by kernel_rfl) (fun _ _ _ h => h) hC.out (Or.inl ⟨by rfl, ?_⟩) ?_
  rotate_left 1
  · intro w' hw'
    have z0 := x1 w' hw'
    go_simp
    first | done | with_reducible rfl
  (try simp only [Act.put])
  (try simp only [List.setIfInBounds_toArray])
  (try simp only [List.set_cons_succ])
  (try simp only [List.set_cons_zero])
  refine takeC (i := 7) (v := ?_) rfl (by kernel_rfl) (by kernel_rfl) (by kernel_rfl) (by kernel_rfl) (by kernel_rfl) (fun _ _ _ h => h) hC.out (Or.inl ⟨by rfl, ?_⟩) ?_
  rotate_left 1
  · intro w' hw'
    skip
    go_simp
    first | done | with_reducible rfl
  (try simp only [Act.put])
  (try simp only [List.setIfInBounds_toArray])
  (try simp only [List.set_cons_succ])
  (try simp only [List.set_cons_zero])
  refine takeC (i := 8) (v := ?_) rfl (by kernel_rfl) (by kernel_rfl) (by kernel_rfl) (by kernel_rfl) (by kernel_rfl) (fun _ _ _ h => h) hC.out (Or.inl ⟨by rfl, ?_⟩) ?_
  rotate_left 1
  · intro w' hw'
    have z0 := x2 w' hw'
    go_simp
    first | done | with_reducible rfl
  (try simp only [Act.put])
  (try simp only [List.setIfInBounds_toArray])
  (try simp only [List.set_cons_succ])
  (try simp only [List.set_cons_zero])
  refine readyC (rs := [5]) (by kernel_rfl) (by simp) ?_
  refine ReadyC.cons rfl (fun K hK => ?_) ReadyC.nil
  have hC4 : Below w1.heap.size w1 (W0.alloc (.cells #[.int .i64 (X : Int), .int .i64 (T : Int)] 3)) := hC.out.alloc hC.out.size _
  go_simp
  refine hK _ _ (fun _ => hC4) ?_
  clear hK K
  (try simp only [Act.put])
  (try simp only [List.setIfInBounds_toArray])
  (try simp only [List.set_cons_succ])
  (try simp only [List.set_cons_zero])
  have HC1 := H1.out W0 hC.out
  obtain ⟨W1, hW1⟩ : ∃ W1, W1 = W0.alloc (.cells #[.int .i64 (X : Int), .int .i64 (T : Int)] 3) := ⟨_, rfl⟩
  rw [← hW1] at HC1 hC4 ⊢
  have HC1h : Hid (Calls Tryd.prog 45 #[.slice a n c, .slice (some ⟨W0.heap.size, 0, none⟩) 2 2] W1 (Made W1 F1)) := HC1
  replace hC : Hid (Below w1.heap.size w1 W1) := hC4
  clear HC1 hC4 hW1 H1
  refine readyC (rs := [6]) (by kernel_rfl) (by simp) ?_
  refine ReadyC.cons rfl (fun K hK => ?_) ReadyC.nil
  refine pstepV_call rfl 45 #[.slice a n c, .slice (some ⟨W0.heap.size, 0, none⟩) 2 2] (by kernel_rfl) HC1h.out (fun e' w' h => ?_) ?_
  · obtain ⟨a, c, rfl, _⟩ := h.row
    exact ⟨_, rfl⟩
  intro v1 W2 hq
  obtain ⟨a2, c2, hv1, hown, hrow, hb⟩ := hq.row
  have hv1' := Ending.returned.inj hv1
  subst hv1'
  have hC2 : Below w1.heap.size w1 W2 := hC.out.trans (hb.mono hC.out.size)
  have HC2h : Hid (Calls Tryd.prog 68 #[.slice a2 F1.length c2, .slice na nn nc] W2 (Made W2 F3)) := H2.out W2 hC2 a2 c2 hrow
  refine hK _ _ (fun _ => hC2) ?_
  replace hC : Hid (Below w1.heap.size w1 W2) := hC2
  clear hK K hv1 hown hrow hb hq hC2 HC1h H2
  (try simp only [Act.put])
  (try simp only [List.setIfInBounds_toArray])
  (try simp only [List.set_cons_succ])
  (try simp only [List.set_cons_zero])
  refine readyC (rs := [9]) (by kernel_rfl) (by simp) ?_
  refine ReadyC.cons rfl (fun K hK => ?_) ReadyC.nil
  refine pstepV_call rfl 68 #[.slice a2 F1.length c2, .slice na nn nc] (by kernel_rfl) HC2h.out (fun e' w' h => ?_) ?_
  · obtain ⟨a, c, rfl, _⟩ := h.row
    exact ⟨_, rfl⟩
  intro v2 W3 hq
  obtain ⟨a3, c3, hv2, hown, hrow, hb⟩ := hq.row
  have hv2' := Ending.returned.inj hv2
  subst hv2'
  have hC3 : Below w1.heap.size w1 W3 := hC.out.trans (hb.mono hC.out.size)
  have HR3 : Hid (BRow W3 a3 F3.length c3 F3) := hrow
  refine hK _ _ (fun _ => hC3) ?_
  replace hC : Hid (Below w1.heap.size w1 W3) := hC3
  clear hK K hv2 hown hrow hb hq hC3 HC2h
  (try simp only [Act.put])
  (try simp only [List.setIfInBounds_toArray])
  (try simp only [List.set_cons_succ])
  (try simp only [List.set_cons_zero])
  refine readyC (rs := [10]) (by kernel_rfl) (by simp) ?_
  refine ReadyC.cons rfl (fun K hK => ?_) ReadyC.nil
  go_simp
  refine hK _ _ (fun h => absurd rfl h) ?_
  clear hK K
  (try simp only [Act.put])
  (try simp only [List.setIfInBounds_toArray])
  (try simp only [List.set_cons_succ])
  (try simp only [List.set_cons_zero])
  refine doneC (by kernel_rfl) ?_ _
  have z3 := x3 W3 hC.out
  have hst := (H3.out W3 hC.out).string
  have HP : Hid (Calls Tryd.prog 67 #[.slice a3 F3.length c3, .string ⟨data.toArray⟩] W3 (Made W3 F4)) := by
    have := putText_any a3 F3.length c3 F3 ⟨data.toArray⟩ W3 HR3.out (by
      have h1 := HF.out
      have h2 := HB1.out.2
      show F3.length + (putN data.toArray.size).length + data.toArray.size ≤ _
      rw [List.size_toArray, h2]; omega)
    have e1 : F3 ++ putT (ByteArray.mk data.toArray).data.toList = F4 := by rw [← HF.out.2.1]
    rw [e1] at this
    exact this
  clear x0 x1 x2 x3 HR3
  go_wp2_with (fail)
  refine HP.out.mono ?_
  intro e w5 hm
  obtain ⟨a5, c5, rfl, hown, _, hb⟩ := hm.row
  have hb5 : Below w1.heap.size w1 w5 := hC.out.trans (hb.mono hC.out.size)
  have hbw : Below w.heap.size w w5 := HB1.out.1.trans (hb5.mono HB1.out.1.size)
  have HFin : Hid (OwnB w5 w.heap.size (.slice a5 F4.length c5) F4 ∧ Below w.heap.size w w5) := ⟨own_lower hown (Nat.le_trans HB1.out.1.size hC.out.size), hbw⟩
  clear HP hm hown hb hb5 hbw z3 hst
  go_wp2
  go_ret
  exact ⟨_, rfl, HFin.out.1, HFin.out.2⟩
end Go.Proofs.YtmlihlnigojmpaaDoor
