/- An empty segment; reading one; walked. -/
import Derived.Test.YtkbmblmnhhlicaaGreatDoorVSeg
import Derived.Test.YtkbmblmnhhlicaaGreatDoorROrd
set_option linter.unusedVariables false
namespace Go.Proofs.YtkbmblmnhhlicaaGreatDoor
open Go.RowKit

theorem stepV_call {P : Program} {w : World} {ops : Array Oper} {o : Oper} {c : Act} {K : Act → World → Prop} {Q : Exit → Act → World → Prop} {E : Prop} {R : Ending → World → Prop}
    (hg : o.guard = none) (f : FuncId) (args : Array Value) (hrun : (execOp c.eval o).run P w = .ok (.enter f args) w) (hc : Calls P f args w R)
    (hR : ∀ e w', R e w' → ∃ v, e = .returned v) (hK : ∀ v w', R (.returned v) w' → K (c.put o.dst v) w') :
    if Region.wanted o (yielded ops c.tmps) = true then Oper.wp P o c w K Q else E := by
  have hw : Region.wanted o (yielded ops c.tmps) = true := by simp [Region.wanted, hg]
  rw [if_pos hw]
  unfold Oper.wp
  rw [hrun, Oper.upon_enter]
  refine hc.mono fun e w' h => ?_
  obtain ⟨v, rfl⟩ := hR e w' h
  exact hK v w' h
theorem nameW {P : Program} {md : Region.Mode} {ops : Array Oper} {C : World → Prop} {last : Nat} {Q : Exit → Act → World → Prop} {f : Nat} {s : Array Bool} {a : Act} {w : World} (h : ∀ w', w' = w → wpAnyC P md ops C last Q f s a w') : wpAnyC P md ops C last Q f s a w := h w rfl
theorem results_cell1 {fn : Func} {p : Tmp} {ty : TypeId} (h : fn.results = #[.cell p ty]) (tmps : Array Value) (P : Program) (w : World) :
    (results fn tmps).run P w = ((asAddr (tmps.getD p undef)).run P w).andThen fun a w₁ => (loadVar ty a).run P w₁ := by
  simp only [results, h]
  simp [Sem.run_bind, Result.andThen]

theorem heap_alloc2 (w : World) (A B : Obj) : ((w.alloc A).alloc B).heap[w.heap.size + 1]? = some B := by
  have := heap_alloc_new (w.alloc A) B
  rwa [show (w.alloc A).heap.size = w.heap.size + 1 by simp] at this
theorem ownI_mono {w : World} {B B' : Nat} {v : Value} {l : List Nat} (h : OwnI w B v l) (hb : B' ≤ B) : OwnI w B' v l := by
  refine ⟨h.1, ?_⟩
  rcases h.2 with hn | ⟨g, cap, cur, hv, hB, r⟩
  · exact .inl hn
  · exact .inr ⟨g, cap, cur, hv, by omega, r⟩

set_option maxHeartbeats 1000000 in
set_option maxRecDepth 20000 in
theorem empty_any (w : World) (N : Nat) : Calls Tryz.prog 66 #[.int .i64 (N : Int)] w fun e w' => ∃ g, e = .returned (sgV N (.slice (some ⟨g, 0, none⟩) 1 1)) ∧ OwnI w' w.heap.size (.slice (some ⟨g, 0, none⟩) 1 1) [0] ∧ Below w.heap.size w w' := by
  go_enter Tryz.func66, Tryz.ntmps66
  go_wp2
  refine bodyPost_ret (v := sgV N (.slice (some ⟨w.heap.size + 1, 0, none⟩) 1 1)) ?_ rfl ⟨w.heap.size + 1, rfl, ?_, ?_⟩
  · rw [results_cell1 rfl]
    go_simp
  · refine ⟨rfl, .inr ⟨w.heap.size + 1, 1, #[.int .i64 0], rfl, by omega, heap_alloc2 w _ _, Nat.le_refl _, by unfold maxLen; omega, rfl, rfl⟩⟩
  · have b1 := (Below.refl w.heap.size w).alloc (Nat.le_refl _) (.cells #[.int .i64 (N : Int), .slice (some ⟨w.heap.size + 1, 0, none⟩) 1 1] 101)
    exact b1.alloc b1.size _

def PushedP (w : World) (B : Nat) (v : Value) (pl : List Nat) (P : Nat) (vo : Value) (w2 : World) : Prop := OwnI w2 B vo (pl ++ [P]) ∧ w.grownBy w2 v.ownBlock ∧ Below B w w2
/-- A place more. -/
theorem append_place {w : World} {B : Nat} {v : Value} {pl : List Nat} (h : OwnI w B v pl) (hB : B ≤ w.heap.size) (x : Addr) (c P : Nat) (hx : w.cell? x = some (placeV P)) (hl : pl.length + 1 ≤ 17592186044416) (ty : TypeId) :
    ∃ vo w2, (Builtin.append_ #[50, 50] ty #[v, .slice (some x) 1 c]).run Tryz.prog w = .ok vo w2 ∧ PushedP w B v pl P vo w2 := by
  obtain ⟨i0, hi, hz0, hz1, hz2⟩ := info_parts info3
  obtain ⟨vo, w2, hr, h4, h5, _⟩ := run_append_own (P := Tryz.prog) w B 50 ty 3 i0 (.int .i64 0) 1 8 Tryz.underlying50 hi hz0 hz1 hz2 rfl (by decide) v pl.length (pl.map placeV) h x 1 c [placeV P] rfl
    (by
      intro j u hj
      have hj0 : j = 0 := by
        have := (List.getElem?_eq_some_iff.1 hj).1
        simpa using this
      subst hj0
      simp at hj
      rw [← hj, Addr.add_zero']
      exact hx)
    (by intro u hu; simp at hu; rw [hu]; rfl) (by unfold maxLen; omega) (by omega) hB
  refine ⟨vo, w2, hr, ?_, h5, below_grown0 (Below.refl _ _) hB h h5⟩
  show w2.ownsRow _ _ _ _ (pl ++ [P]).length _
  rw [List.length_append, List.map_append]
  exact h4

def segM (w : World) (sb n : Nat) : Nat := match w.cell? ⟨sb, 1, none⟩ with
  | some (.slice _ k _) => n + 2 - k
  | _ => 0
theorem sg_ne {w : World} {B : Nat} {v : Value} {pl : List Nat} {sb : Nat} {cs : Array Value} (h : OwnI w B v pl) (hk : w.heap[sb]? = some (.cells cs 101 (0, 0))) {g : Nat} (hg : v.ownBlock = some g) : g ≠ sb := by
  rcases h.2 with ⟨rfl, _⟩ | ⟨g', cap, cur, rfl, _, hgg, _⟩
  · cases hg
  · cases hg
    intro e
    simp only at e
    rw [e, hk] at hgg
    simp at hgg

set_option maxHeartbeats 4000000 in
set_option maxRecDepth 100000 in
theorem readseg_any {w : World} (ht : Tabs w) (N : Nat) (hN : N ≤ 1048576) {a : Option Addr} {n c : Nat} {l : List UInt8} (h : BRow w a n c l) (hc : n ≤ c) (hn : n ≤ 1099511627776) :
    Calls Tryz.prog 163 #[.int .i64 (N : Int), .slice a n c] w fun e w' => ∃ v, e = .returned (sgV N v) ∧ OwnI w' w.heap.size v (readSg N l).pl ∧ Below w.heap.size w w' := by
  obtain ⟨T, hT⟩ : ∃ T, (readSg N l).pl = T := ⟨_, rfl⟩
  rw [hT]
  have HT : Hid ([0] ++ readP (l.length + 1) N 0 l = T) := hT
  have hln := h.1
  have HR : Hid (BRow w a n c l) := h
  have HTb : Hid (Tabs w) := ht
  have HNn : Hid (N ≤ 1048576) := hN
  have Hn : Hid (n ≤ 1099511627776) := hn
  have Hc : Hid (n ≤ c) := hc
  have HL : Hid (l.length = n) := hln
  obtain ⟨rb, hrb⟩ : ∃ rb, rb = w.heap.size := ⟨_, rfl⟩
  have HRb : Hid (rb = w.heap.size) := hrb
  clear h ht hN hn hc hln hT
  go_enter Tryz.func163, Tryz.ntmps163
  go_wp2_with (fail)
  refine (empty_any _ N).mono ?_
  rintro e w1 ⟨g1, rfl, ho1, hb1⟩
  have hb1' : Below w.heap.size w w1 := ((Below.refl _ w).alloc (Nat.le_refl _) _).trans (hb1.mono (by simp))
  have hrk1 : w1.heap[w.heap.size]? = some (.cells #[.int .i64 0, .slice none 0 0] 101 (0, 0)) := by
    rw [hb1.block w.heap.size (by simp)]
    exact heap_alloc_new w _
  have ho1' : OwnI w1 w.heap.size (.slice (some ⟨g1, 0, none⟩) 1 1) [0] := ownI_mono ho1 (by simp)
  clear ho1 hb1
  go_wp2_with (fail)
  obtain ⟨W, hW⟩ : ∃ W, W = w1.alloc (.cells #[.int .i64 (N : Int), .slice (some ⟨g1, 0, none⟩) 1 1] 101) := ⟨_, rfl⟩
  obtain ⟨sb, hsb⟩ : ∃ sb, sb = w1.heap.size := ⟨_, rfl⟩
  rw [← hW]
  rw [← hsb, ← hrb]
  have HS0 : Hid (W.heap[sb]? = some (.cells #[.int .i64 (N : Int), .slice (some ⟨g1, 0, none⟩) 1 1] 101 (0, 0))) := by show _ = _; rw [hW, hsb]; exact heap_alloc_new w1 _
  have hbW : Below w1.heap.size w1 W := by rw [hW]; exact (Below.refl _ w1).alloc (Nat.le_refl _) _
  have HR0 : Hid (W.heap[rb]? = some (.cells #[.int .i64 0, .slice none 0 0] 101 (0, 0))) := by show _ = _; rw [hrb, hbW.block _ (lt_blk hrk1)]; exact hrk1
  have HO0 : Hid (OwnI W w.heap.size (.slice (some ⟨g1, 0, none⟩) 1 1) [0]) := ownI_below ho1' hbW
  have HB0 : Hid (Below w.heap.size w W) := hb1'.trans (hbW.mono hb1'.size)
  have HSR : Hid (sb ≠ rb) := by
    show sb ≠ rb
    have := lt_blk hrk1
    omega
  have HRS : Hid (w.heap.size ≤ sb) := by show _ ≤ _; rw [hsb]; exact hb1'.size
  clear hW hsb hrb ho1' hrk1 hbW hb1'
  go_loopw [6] (fun sz wr => ∃ v pl, Hid (wr.heap[sb]? = some (.cells #[.int .i64 (N : Int), v] 101 (0, 0))) ∧ Hid (wr.heap[rb]? = some (.cells #[.int .i64 0, .slice none 0 0] 101 (0, 0))) ∧ Hid (OwnI wr w.heap.size v pl) ∧ Hid (Below w.heap.size w wr) ∧ Hid (pl ≠ []) ∧ Hid (pl.getLastD 0 ≤ l.length) ∧ Hid (pl.length ≤ pl.getLastD 0 + 1) ∧ Hid (pl ++ readP (l.length + 1 - pl.getLastD 0) (N + pl.length - 1) (pl.getLastD 0) (l.drop (pl.getLastD 0)) = T)) (fun _ wr => segM wr sb n)
  case atStart => exact ⟨_, [0], HS0, HR0, HO0, HB0, by show [0] ≠ []; simp, by show 0 ≤ l.length; omega, by show 1 ≤ 0 + 1; omega, by show [0] ++ readP (l.length + 1 - 0) (N + 1 - 1) 0 (l.drop 0) = T; exact HT.out⟩
  case round =>
    obtain ⟨v, pl, HS, HR1, HO, HB, HP, HA, HPA, HG⟩ := hrel
    obtain ⟨g, cc, rfl, hcc, hgl, hgB, _⟩ := ownI_form HO.out HP.out
    obtain ⟨A, hA⟩ : ∃ A, pl.getLastD 0 = A := ⟨_, rfl⟩
    obtain ⟨X, hX⟩ : ∃ X, N + pl.length - 1 = X := ⟨_, rfl⟩
    obtain ⟨Z, hZ⟩ : ∃ Z, standL X (l.drop A) = Z := ⟨_, rfl⟩
    have hA' := HA.out
    have hPA' := HPA.out
    have hG' := HG.out
    rw [hA] at hA' hPA' hG'
    rw [hX] at hG'
    have hnn := Hn.out
    have hlen := HL.out
    have hNn := HNn.out
    have hpl : 1 ≤ pl.length := List.length_pos_iff.2 HP.out
    have hZl : Z ≤ l.length - A := by rw [← hZ, ← List.length_drop]; exact standL_le _ _
    obtain ⟨a2, c2, hc2, z, hr2⟩ := part_l a n c A (by omega) Hc.out
    have hsz : sb < wr.heap.size := lt_blk HS.out
    have c0 : ∀ u : BwD wr, u.wo.cell? ⟨sb, 0, none⟩ = some (.int .i64 (N : Int)) := fun u => by rw [u.is.cell hsz]; exact cell_blk HS.out rfl
    have c1 : ∀ u : BwD wr, u.wo.cell? ⟨sb, 1, none⟩ = some (.slice (some ⟨g, 0, none⟩) pl.length cc) := fun u => by rw [u.is.cell hsz]; exact cell_blk HS.out rfl
    have FN : Hid (∀ u : BwD wr, Calls Tryz.prog 67 #[sgV N (.slice (some ⟨g, 0, none⟩) pl.length cc)] u.wo fun e w' => e = .returned (.int .i64 (X : Int)) ∧ ∃ u' : BwD wr, w' = u'.wo) := fun u =>
      (next_any u.wo N _ _ _ (by omega) (by omega) (by omega)).mono fun e w' q => ⟨by rw [q.1, hX], BwD.of (u.is.trans (q.2.mono u.is.size)), rfl⟩
    have FS : Hid (∀ u : BwD wr, Calls Tryz.prog 65 #[sgV N (.slice (some ⟨g, 0, none⟩) pl.length cc)] u.wo fun e w' => e = .returned (.int .i64 (A : Int)) ∧ ∃ u' : BwD wr, w' = u'.wo) := fun u =>
      (size_any N (ownI_below HO.out u.is) HP.out (by omega) (by omega)).mono fun e w' q => ⟨by rw [q.1, hA], BwD.of (u.is.trans (q.2.mono u.is.size)), rfl⟩
    have hTr : Tabs wr := HTb.out.bel HB.out
    have FT : Hid (∀ u : BwD wr, Calls Tryz.prog 183 #[.int .i64 (X : Int), .slice a2 (n - A) c2] u.wo fun e w' => e = .returned (.int .i64 (Z : Int)) ∧ ∃ u' : BwD wr, w' = u'.wo) := fun u =>
      (standing_any (hTr.bel u.is) X (by omega) ((hr2 w l HR.out).below (HB.out.trans (u.is.mono HB.out.size))) hc2 (by omega)).mono fun e w' q => ⟨by rw [q.1, hZ], BwD.of (u.is.trans (q.2.mono u.is.size)), rfl⟩
    have HZE : Hid (standL X (l.drop A) = Z) := hZ
    have HAE : Hid (pl.getLastD 0 = A) := hA
    have HXE : Hid (N + pl.length - 1 = X) := hX
    have HG2 : Hid (pl ++ readP (l.length + 1 - A) X A (l.drop A) = T) := hG'
    have HAl : Hid (A ≤ l.length ∧ pl.length ≤ A + 1 ∧ Z ≤ l.length - A) := ⟨hA', hPA', hZl⟩
    have HGB : Hid (w.heap.size ≤ g ∧ g < wr.heap.size) := ⟨hgB, hgl⟩
    clear HA HPA HG hA hX hZ hA' hPA' hG' hnn hlen hNn hpl hZl hTr hr2 hcc hgl hgB hc2
    go_wp2_with (fail)
    refine region_classD (fun w' => ∃ u : BwD wr, w' = u.wo) (by kernel_rfl) (by kernel_rfl) (BwD.first wr) ?_
    haveI := BwD.some wr
    repeat (go_big_quiet_step (first | (go_at_call 67; exact FN.out _) | (go_at_call 65; exact FS.out _) | (go_at_call 183; exact FT.out _) | exact z _ | exact rfl))
    refine wpQuiet_nil ?_
    intro w2 hw2
    obtain ⟨u, hu⟩ := hw2
    have hb2 : Below wr.heap.size wr w2 := by rw [hu]; exact u.is
    clear hu u
    clear FN FT c0 c1 z
    have HB2 : Hid (Below wr.heap.size wr w2) := hb2
    have HS2 : Hid (w2.heap[sb]? = some (.cells #[.int .i64 (N : Int), .slice (some ⟨g, 0, none⟩) pl.length cc] 101 (0, 0))) := (hb2.block _ hsz).trans HS.out
    have HR2 : Hid (w2.heap[rb]? = some (.cells #[.int .i64 0, .slice none 0 0] 101 (0, 0))) := (hb2.block _ (lt_blk HR1.out)).trans HR1.out
    have HO2 : Hid (OwnI w2 w.heap.size (.slice (some ⟨g, 0, none⟩) pl.length cc) pl) := ownI_below HO.out hb2
    have HBw : Hid (Below w.heap.size w w2) := HB.out.trans (hb2.mono HB.out.size)
    have HGn : Hid (g ≠ sb ∧ g ≠ rb) := ⟨sg_ne HO2.out HS2.out rfl, sg_ne HO2.out HR2.out rfl⟩
    have HSl : Hid (sb < wr.heap.size) := hsz
    clear hb2 HS HR1 HO hsz
    by_cases hz0 : Z = 0
    · have q0 : ((Z : Int) == 0) = true := by simp; omega
      have hTT : Hid (pl = T) := by
        show _ = _
        rw [← HG2.out]
        have e1 : l.length + 1 - A = (l.length - A) + 1 := by have := HAl.out; omega
        rw [e1, readP, if_pos (by rw [HZE.out]; exact hz0), List.append_nil]
      have s0 := cell_blk HS2.out (i := 0) rfl
      have s1 := cell_blk HS2.out (i := 1) rfl
      have r0 := cell_blk HR2.out (i := 0) rfl
      have r1 := cell_blk HR2.out (i := 1) rfl
      have rf := free_blk HR2.out
      simp only [List.getElem_toArray, List.getElem_cons_zero, List.getElem_cons_succ] at s0 s1 r0 r1
      obtain ⟨W3, hW3⟩ : ∃ W3, W3 = (w2.setCell ⟨rb, 0, none⟩ (.int .i64 (N : Int))).setCell ⟨rb, 1, none⟩ (.slice (some ⟨g, 0, none⟩) pl.length cc) := ⟨_, rfl⟩
      have h3 : W3.heap[rb]? = some (.cells #[.int .i64 (N : Int), .slice (some ⟨g, 0, none⟩) pl.length cc] 101 (0, 0)) := by rw [hW3]; exact set_blk (set_blk HR2.out 0 _) 1 _
      have d0 := cell_blk h3 (i := 0) rfl
      have d1 := cell_blk h3 (i := 1) rfl
      simp only [List.getElem_toArray, List.getElem_cons_zero, List.getElem_cons_succ] at d0 d1
      have HO3 : Hid (OwnI W3 w.heap.size (.slice (some ⟨g, 0, none⟩) pl.length cc) pl) := by
        show OwnI _ _ _ _
        rw [hW3]
        refine ownI_keep HO2.out (fun k hk => ?_)
        cases hk
        rw [set_other _ HGn.out.2, set_other _ HGn.out.2]
      have HB3 : Hid (Below w.heap.size w W3) := by
        show Below _ _ _
        rw [hW3]
        have hr := HRb.out
        refine ⟨HBw.out.os, HBw.out.tape, HBw.out.output, by rw [set_size, set_size]; exact HBw.out.size, fun k hk => ?_⟩
        rw [set_other _ (by omega), set_other _ (by omega)]
        exact HBw.out.block k hk
      clear h3 hz0
      go_wp2_with (fail)
      rw [← hW3]
      clear hW3
      refine bodyPost_ret (v := sgV N (.slice (some ⟨g, 0, none⟩) pl.length cc)) ?_ rfl ⟨_, rfl, by rw [← hTT.out]; exact HO3.out, HB3.out⟩
      rw [results_cell1 rfl]
      go_simp
    · have q0 : ((Z : Int) == 0) = false := by simp; omega
      obtain ⟨Y, hY⟩ : ∃ Y, A + Z = Y := ⟨_, rfl⟩
      have e1 : (A : Int) + (Z : Int) = (Y : Int) := by omega
      have hbig := HAl.out
      have hnn := Hn.out
      have hll := HL.out
      have e2 : (Y : Int) ≤ 1099511627776 := by omega
      have e3 : IntKind.i64.wrap (Y : Int) = (Y : Int) := by rw [IntKind.wrap_i64] <;> omega
      have HT2 : Hid ((pl ++ [Y]) ++ readP (l.length + 1 - Y) (X + 1) Y (l.drop Y) = T) := by
        show _ = _
        rw [← HG2.out]
        have e1 : l.length + 1 - A = (l.length - A) + 1 := by omega
        rw [e1, readP, if_neg (by rw [HZE.out]; exact hz0), HZE.out, hY, List.drop_drop, hY, List.append_assoc, List.singleton_append, readP_fuel (l.length + 1 - Y) (l.length - A) _ _ _ (by rw [List.length_drop]; omega) (by rw [List.length_drop]; omega)]
      have HY : Hid (Y ≤ l.length ∧ pl.length + 1 ≤ Y + 1) := ⟨by omega, by omega⟩
      have HPl : Hid (pl.length + 1 ≤ 17592186044416) := by show _ ≤ _; omega
      have FS2 : Hid (∀ u, Below w2.heap.size w2 u → Calls Tryz.prog 65 #[sgV N (.slice (some ⟨g, 0, none⟩) pl.length cc)] u fun e w' => e = .returned (.int .i64 (A : Int)) ∧ Below u.heap.size u w') := fun u hu => by
        refine (size_any N (ownI_below HO2.out hu) HP.out (by have := HNn.out; omega) (by omega)).mono fun e w' q => ⟨by rw [q.1, HAE.out], q.2⟩
      have n1 : ∀ w' : World, w'.heap[sb]? = some (.cells #[.int .i64 (N : Int), .slice (some ⟨g, 0, none⟩) pl.length cc] 101 (0, 0)) → w'.cell? ⟨sb, 0, none⟩ = some (.int .i64 (N : Int)) := fun w' hw => cell_blk hw rfl
      have n2 : ∀ w' : World, w'.heap[sb]? = some (.cells #[.int .i64 (N : Int), .slice (some ⟨g, 0, none⟩) pl.length cc] 101 (0, 0)) → w'.cell? ⟨sb, 1, none⟩ = some (.slice (some ⟨g, 0, none⟩) pl.length cc) := fun w' hw => cell_blk hw rfl
      clear hbig hnn hll hz0 FS HG2
      have HYE : Hid (A + Z = Y) := hY
      clear hY
      go_wp2_with (fail)
      refine regionC (fun (w' : World) => w'.heap[sb]? = some (.cells #[.int .i64 (N : Int), .slice (some ⟨g, 0, none⟩) pl.length cc] 101 (0, 0))) 9 (by kernel_rfl) ?_
      (try (change wpAnyC _ _ _ _ _ _ _ _ _ (World.drew _)))
      refine nameW (fun W0 hW0 => ?_)
      have hC : Hid (W0.heap[sb]? = some (.cells #[.int .i64 (N : Int), .slice (some ⟨g, 0, none⟩) pl.length cc] 101 (0, 0))) := by show _ = _; rw [hW0]; exact HS2.out
      have hB : Hid (Below w2.heap.size w2 W0) := by show Below _ _ _; rw [hW0]; exact ⟨rfl, rfl, rfl, Nat.le_refl _, fun _ _ => rfl⟩
      clear hW0
      refine takeC (i := 0) (v := ?_) rfl (by kernel_rfl) (by kernel_rfl) (by kernel_rfl) (by kernel_rfl) (by kernel_rfl) (fun _ _ _ h => h) hC.out (Or.inl ⟨by rfl, ?_⟩) ?_
      rotate_left 1
      · intro w' hw'
        skip
        go_simp
        first | done | with_reducible rfl
      (try simp only [Act.put])
      (try simp only [List.setIfInBounds_toArray])
      (try simp only [List.set_cons_succ])
      (try simp only [List.set_cons_zero])
      refine takeC (i := 1) (v := ?_) rfl (by kernel_rfl) (by kernel_rfl) (by kernel_rfl) (by kernel_rfl) (by kernel_rfl) (fun _ _ _ h => h) hC.out (Or.inl ⟨by rfl, ?_⟩) ?_
      rotate_left 1
      · intro w' hw'
        have z0 := n1 w' hw'; have z1 := n2 w' hw'
        go_simp
        first | done | with_reducible rfl
      (try simp only [Act.put])
      (try simp only [List.setIfInBounds_toArray])
      (try simp only [List.set_cons_succ])
      (try simp only [List.set_cons_zero])
      refine takeC (i := 2) (v := ?_) rfl (by kernel_rfl) (by kernel_rfl) (by kernel_rfl) (by kernel_rfl) (by kernel_rfl) (fun _ _ _ h => h) hC.out (Or.inl ⟨by rfl, ?_⟩) ?_
      rotate_left 1
      · intro w' hw'
        have z0 := n1 w' hw'; have z1 := n2 w' hw'
        go_simp
        first | done | with_reducible rfl
      (try simp only [Act.put])
      (try simp only [List.setIfInBounds_toArray])
      (try simp only [List.set_cons_succ])
      (try simp only [List.set_cons_zero])
      refine takeC (i := 4) (v := ?_) rfl (by kernel_rfl) (by kernel_rfl) (by kernel_rfl) (by kernel_rfl) (by kernel_rfl) (fun _ _ _ h => h) hC.out (Or.inl ⟨by rfl, ?_⟩) ?_
      rotate_left 1
      · intro w' hw'
        skip
        go_simp
        first | done | with_reducible rfl
      (try simp only [Act.put])
      (try simp only [List.setIfInBounds_toArray])
      (try simp only [List.set_cons_succ])
      (try simp only [List.set_cons_zero])
      refine readyC (rs := [3]) (by kernel_rfl) (by simp) ?_
      refine ReadyC.cons rfl (fun K hK => ?_) ReadyC.nil
      refine stepV_call rfl 65 #[sgV N (.slice (some ⟨g, 0, none⟩) pl.length cc)] (by kernel_rfl) (FS2.out W0 hB.out) (fun e w' h => ⟨_, h.1⟩) ?_
      intro v1 W1 hq
      obtain ⟨hv1, hq⟩ := hq
      have hv1' := Ending.returned.inj hv1
      subst hv1'
      have hq2 : Below w2.heap.size w2 W1 := hB.out.trans (hq.mono hB.out.size)
      have hq3 : W1.heap[sb]? = some (.cells #[.int .i64 (N : Int), .slice (some ⟨g, 0, none⟩) pl.length cc] 101 (0, 0)) := (hq2.block _ (lt_blk HS2.out)).trans HS2.out
      refine hK _ _ (fun _ => hq3) ?_
      clear hK K
      (try simp only [Act.put])
      (try simp only [List.setIfInBounds_toArray])
      (try simp only [List.set_cons_succ])
      (try simp only [List.set_cons_zero])
      replace hC : Hid (W1.heap[sb]? = some (.cells #[.int .i64 (N : Int), .slice (some ⟨g, 0, none⟩) pl.length cc] 101 (0, 0))) := hq3
      replace hB : Hid (Below w2.heap.size w2 W1) := hq2
      clear hv1 hq hq2 hq3
      refine takeC (i := 5) (v := ?_) rfl (by kernel_rfl) (by kernel_rfl) (by kernel_rfl) (by kernel_rfl) (by kernel_rfl) (fun _ _ _ h => h) hC.out (Or.inl ⟨by rfl, ?_⟩) ?_
      rotate_left 1
      · intro w' hw'
        skip
        go_simp
        first | done | with_reducible rfl
      (try simp only [Act.put])
      (try simp only [List.setIfInBounds_toArray])
      (try simp only [List.set_cons_succ])
      (try simp only [List.set_cons_zero])
      refine readyC (rs := [6]) (by kernel_rfl) (by simp) ?_
      refine ReadyC.cons rfl (fun K hK => ?_) ReadyC.nil
      go_simp
      refine hK _ _ (fun _ => (heap_alloc_old W1 _ (lt_blk hC.out)).trans hC.out) ?_
      clear hK K
      (try simp only [Act.put])
      (try simp only [List.setIfInBounds_toArray])
      (try simp only [List.set_cons_succ])
      (try simp only [List.set_cons_zero])
      refine nameW (fun W2 hW => ?_)
      have hx : Below W1.heap.size W1 W2 := by rw [hW]; exact (Below.refl _ _).alloc (Nat.le_refl _) _
      have hcl : Hid (W2.cell? ⟨W1.heap.size, 0, none⟩ = some (placeV Y)) := by show _ = _; rw [hW]; exact lit_cells W1 [placeV Y] 3 0 _ rfl
      replace hB : Hid (Below w2.heap.size w2 W2) := hB.out.trans (hx.mono hB.out.size)
      replace hC : Hid (W2.heap[sb]? = some (.cells #[.int .i64 (N : Int), .slice (some ⟨g, 0, none⟩) pl.length cc] 101 (0, 0))) := (hB.out.block _ (lt_blk HS2.out)).trans HS2.out
      clear hx hW
      refine readyC (rs := [7]) (by kernel_rfl) (by simp) ?_
      refine ReadyC.cons rfl (fun K hK => ?_) ReadyC.nil
      refine stepC_runs rfl (.tmp 20) (.tmp 25) rfl _ _ rfl rfl _ (append_place (ownI_below HO2.out hB.out) (Nat.le_trans HBw.out.size hB.out.size) _ _ Y hcl.out HPl.out _) ?_
      intro v9 W3 hA
      obtain ⟨hA1, hA2, hA3⟩ := hA
      obtain ⟨g9, c9, K9, h9, hK9⟩ : ∃ g c K, v9 = .slice (some ⟨g, 0, none⟩) K c ∧ Hid (K = pl.length + 1) := by
        obtain ⟨g9, c9, h9, _⟩ := ownI_form hA1 (by simp)
        exact ⟨g9, c9, _, h9, by show (pl ++ [Y]).length = _; simp⟩
      subst h9
      have hkk : W3.heap[sb]? = some (.cells #[.int .i64 (N : Int), .slice (some ⟨g, 0, none⟩) pl.length cc] 101 (0, 0)) := (hA2.block sb (lt_blk hC.out) (by intro e; exact HGn.out.1 (Option.some.inj e).symm)).trans hC.out
      have hkr : W3.heap[rb]? = some (.cells #[.int .i64 0, .slice none 0 0] 101 (0, 0)) := (hA2.block rb (by have := lt_blk HR2.out; have := hB.out.size; omega) (by intro e; exact HGn.out.2 (Option.some.inj e).symm)).trans ((hB.out.block _ (lt_blk HR2.out)).trans HR2.out)
      refine hK _ _ (fun _ => hkk) ?_
      clear hK K
      (try simp only [Act.put])
      (try simp only [List.setIfInBounds_toArray])
      (try simp only [List.set_cons_succ])
      (try simp only [List.set_cons_zero])
      have HO9 : Hid (OwnI W3 w.heap.size (.slice (some ⟨g9, 0, none⟩) K9 c9) (pl ++ [Y])) := hA1
      have HB9 : Hid (Below w.heap.size w W3) := (HBw.out.trans (hB.out.mono HBw.out.size)).trans hA3
      have HR9 : Hid (W3.heap[rb]? = some (.cells #[.int .i64 0, .slice none 0 0] 101 (0, 0))) := hkr
      replace hC : Hid (W3.heap[sb]? = some (.cells #[.int .i64 (N : Int), .slice (some ⟨g, 0, none⟩) pl.length cc] 101 (0, 0))) := hkk
      clear hA1 hA2 hA3 hkk hkr hcl hB
      refine takeC (i := 8) (v := ?_) rfl (by kernel_rfl) (by kernel_rfl) (by kernel_rfl) (by kernel_rfl) (by kernel_rfl) (fun _ _ _ h => h) hC.out (Or.inl ⟨by rfl, ?_⟩) ?_
      rotate_left 1
      · intro w' hw'
        skip
        go_simp
        first | done | with_reducible rfl
      (try simp only [Act.put])
      (try simp only [List.setIfInBounds_toArray])
      (try simp only [List.set_cons_succ])
      (try simp only [List.set_cons_zero])
      refine readyC (rs := [9]) (by kernel_rfl) (by simp) ?_
      refine ReadyC.cons rfl (fun K hK => ?_) ReadyC.nil
      have y1 := n2 W3 hC.out
      have y2 := free_blk hC.out
      go_simp
      refine hK _ _ (fun h => absurd rfl h) ?_
      clear hK K
      (try simp only [Act.put])
      (try simp only [List.setIfInBounds_toArray])
      (try simp only [List.set_cons_succ])
      (try simp only [List.set_cons_zero])
      refine nameW (fun W4 hW => ?_)
      have hks : W4.heap[sb]? = some (.cells #[.int .i64 (N : Int), (.slice (some ⟨g9, 0, none⟩) K9 c9)] 101 (0, 0)) := by rw [hW]; exact set_blk hC.out 1 _
      have hne9 : ∀ k, (Value.slice (some ⟨g9, 0, none⟩) K9 c9).ownBlock = some k → k ≠ sb := fun k hk => sg_ne HO9.out hC.out hk
      have hko : OwnI W4 w.heap.size (.slice (some ⟨g9, 0, none⟩) K9 c9) (pl ++ [Y]) := ownI_keep HO9.out (fun k hk => by rw [hW, set_other _ (hne9 k hk)])
      have hkr : W4.heap[rb]? = some (.cells #[.int .i64 0, .slice none 0 0] 101 (0, 0)) := by rw [hW, set_other _ (Ne.symm HSR.out)]; exact HR9.out
      have hkb : Below w.heap.size w W4 := by
        rw [hW]
        refine ⟨HB9.out.os, HB9.out.tape, HB9.out.output, by rw [set_size]; exact HB9.out.size, fun k hk => ?_⟩
        rw [set_other _ (by have := HRS.out; omega)]
        exact HB9.out.block k hk
      have HS10 : Hid (W4.heap[sb]? = some (.cells #[.int .i64 (N : Int), (.slice (some ⟨g9, 0, none⟩) K9 c9)] 101 (0, 0))) := hks
      have HO10 : Hid (OwnI W4 w.heap.size (.slice (some ⟨g9, 0, none⟩) K9 c9) (pl ++ [Y])) := hko
      have HR10 : Hid (W4.heap[rb]? = some (.cells #[.int .i64 0, .slice none 0 0] 101 (0, 0))) := hkr
      have HB10 : Hid (Below w.heap.size w W4) := hkb
      clear hks hne9 hko hkr hkb hW
      refine doneC (by kernel_rfl) ?_ _
      go_wp2_with (fail)
      go_roundw
      case rel =>
        have eL : (pl ++ [Y]).getLastD 0 = Y := by simp
        have eN : N + (pl ++ [Y]).length - 1 = X + 1 := by have := HXE.out; have := List.length_pos_iff.2 HP.out; simp; omega
        exact ⟨(.slice (some ⟨g9, 0, none⟩) K9 c9), pl ++ [Y], HS10, HR10, HO10, HB10, by show pl ++ [Y] ≠ []; simp, by show _ ≤ _; rw [eL]; exact HY.out.1, by show _ ≤ _; rw [eL, List.length_append]; exact HY.out.2, by show _ = _; rw [eL, eN]; exact HT2.out⟩
      case measure =>
        have h9 := hK9.out
        have e1 : W4.cell? ⟨sb, 1, none⟩ = some (.slice (some ⟨g9, 0, none⟩) K9 c9) := cell_blk HS10.out rfl
        have e2 : wr.cell? ⟨sb, 1, none⟩ = some (.slice (some ⟨g, 0, none⟩) pl.length cc) := by
          rw [← HB2.out.cell (by have := lt_blk HS2.out; exact HSl.out)]
          exact cell_blk HS2.out rfl
        unfold segM
        rw [e1, e2, h9]
        have := HY.out
        have := HAl.out
        have := HL.out
        show n + 2 - (pl.length + 1) < n + 2 - pl.length
        omega
end Go.Proofs.YtkbmblmnhhlicaaGreatDoor
