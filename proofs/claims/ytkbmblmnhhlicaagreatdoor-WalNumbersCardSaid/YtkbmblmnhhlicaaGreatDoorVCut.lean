/- Cut, walked. -/
import Derived.Test.YtkbmblmnhhlicaaGreatDoorVReset
import Derived.Test.YtkbmblmnhhlicaaGreatDoorVRound
import Derived.Test.YtkbmblmnhhlicaaGreatDoorVCutL
import Derived.Test.YtkbmblmnhhlicaaGreatDoorVLgs
set_option linter.unusedVariables false
namespace Go.Proofs.YtkbmblmnhhlicaaGreatDoor
open Go.RowKit
attribute [local go_sem] Oper.semAt_some

/-- What stands between two rounds. -/
def CsI (w0 w : World) (b m : Nat) (S : Nat → Prop) (d : Dk) (p : Nat) (T : Nat → Prop) (q : Sgs) (g c Bl Bi Br first i : Nat) (tl ti tr : TypeId) (pre : Sgs) (U : World) : Prop :=
  ∃ dd q1, Wl w0 U b m S dd p T (.slice (some ⟨g, 0, none⟩) q1.length c) q1 ∧ StW w S T U S T ∧ q.reverse = pre ++ q1.reverse ∧ q1 ≠ [] ∧ cutsP first i d (q.reverse.map (·.1)) = cutsP first i dd (q1.reverse.map (·.1)) ∧
    U.heap[Bl]? = some (.cells #[dptr p] tl (0, 0)) ∧ U.heap[Bi]? = some (.cells #[.int .i64 (i : Int)] ti (0, 0)) ∧ U.heap[Br]? = some (.cells #[.int .i64 0] tr (0, 0))
/-- What stands where a round has left the loop, or the function. -/
def CsX (w0 w : World) (b m : Nat) (S : Nat → Prop) (d : Dk) (p : Nat) (T : Nat → Prop) (q : Sgs) (Bl Bi Br first i : Nat) (tl ti tr : TypeId) : Code → Sgs → World → Prop
  | .ret, _, U => ∃ e dd vs q1, Wl w0 U b m S dd p T vs q1 ∧ StW w S T U S T ∧ cutsP first i d (q.reverse.map (·.1)) = (e, dd, q1.map (·.1)) ∧ e ≠ 0 ∧ U.heap[Br]? = some (.cells #[.int .i64 (e : Int)] tr (0, 0))
  | .exit 0, _, U => ∃ dd vs q1 x, Wl w0 U b m S dd p T vs (q1 ++ [x]) ∧ StW w S T U S T ∧ cutsP first i d (q.reverse.map (·.1)) = (0, dd, (q1 ++ [x]).map (·.1)) ∧ x ∈ q ∧ (x.1.num < i ∨ x.1.num = first) ∧
      U.heap[Bl]? = some (.cells #[dptr p] tl (0, 0)) ∧ U.heap[Bi]? = some (.cells #[.int .i64 (i : Int)] ti (0, 0)) ∧ U.heap[Br]? = some (.cells #[.int .i64 0] tr (0, 0))
  | _, _, _ => False
theorem CsI.rd {w0 w : World} {b m : Nat} {S : Nat → Prop} {d : Dk} {p : Nat} {T : Nat → Prop} {q : Sgs} {g c Bl Bi Br first i : Nat} {tl ti tr : TypeId} {pre : Sgs} {U : World} (h : CsI w0 w b m S d p T q g c Bl Bi Br first i tl ti tr pre U) : SegRd p g c q pre U := by
  obtain ⟨dd, q1, h1, h2, h3, _⟩ := h
  have hl := congrArg List.length h3
  simp at hl
  have hq : q = q1 ++ pre.reverse := by
    have := congrArg List.reverse h3
    simpa using this
  have e1 : q.length - pre.length = q1.length := by omega
  refine ⟨by omega, by rw [e1]; exact cell_blk h1.lg.blk rfl, fun i x hi hx => ?_⟩
  rw [e1] at hi
  rw [hq, List.getElem?_append_left hi] at hx
  exact h1.lg.at hx
theorem CsI.at {w0 w : World} {b m : Nat} {S : Nat → Prop} {d : Dk} {p : Nat} {T : Nat → Prop} {q : Sgs} {g c Bl Bi Br first i : Nat} {tl ti tr : TypeId} {pre post : Sgs} {x : Sg × Value} {U : World} (h : CsI w0 w b m S d p T q g c Bl Bi Br first i tl ti tr pre U) (hx : q.reverse = pre ++ x :: post) :
    ∃ dd pg pc, x.2 = .slice (some ⟨pg, 0, none⟩) x.1.pl.length pc ∧ Wl w0 U b m S dd p T (.slice (some ⟨g, 0, none⟩) (post.reverse ++ [x]).length c) (post.reverse ++ [x]) ∧ StW w S T U S T ∧ q.reverse = pre ++ (post.reverse ++ [x]).reverse ∧ cutsP first i d (q.reverse.map (·.1)) = cutsP first i dd ((post.reverse ++ [x]).reverse.map (·.1)) ∧
    U.heap[Bl]? = some (.cells #[dptr p] tl (0, 0)) ∧ U.heap[Bi]? = some (.cells #[.int .i64 (i : Int)] ti (0, 0)) ∧ U.heap[Br]? = some (.cells #[.int .i64 0] tr (0, 0)) := by
  obtain ⟨dd, q1, i1, i2, i3, i4, i5, i6, i7, i8⟩ := h
  have hq1 : q1 = post.reverse ++ [x] := by
    rw [i3] at hx
    have h3 := List.append_cancel_left hx
    have := congrArg List.reverse h3
    simpa using this
  subst hq1
  obtain ⟨pg, pc, hxv, _⟩ := ownI_form (i1.lg.pls x (by simp)) (i1.lg.ne x (by simp))
  exact ⟨dd, pg, pc, hxv, i1, i2, i3, i5, i6, i7, i8⟩
theorem CsI.own {w0 w wz : World} {b m : Nat} {S : Nat → Prop} {d : Dk} {p : Nat} {T : Nat → Prop} {q : Sgs} {g c Bl Bi Br first i : Nat} {tl ti tr : TypeId} (hz : w.heap.size ≤ wz.heap.size) (h0 : w0.heap.size ≤ w.heap.size) (hST : ∀ k, S k ∨ T k → k < w.heap.size) (hl : Bl < wz.heap.size) (hi : Bi < wz.heap.size) (hr : Br < wz.heap.size) : OwnFrom wz.heap.size (CsI w0 w b m S d p T q g c Bl Bi Br first i tl ti tr) := by
  intro pre A U row hs hg hrow
  obtain ⟨dd, q1, h1, h2, h3, h4, h5, h6, h7, h8⟩ := hs
  have hge : ∀ r, row = some r → wz.heap.size ≤ r := fun r e => (hrow r e).1
  refine ⟨dd, q1, h1.turn hg hge (fun k hk => Nat.lt_of_lt_of_le (hST k hk) hz) (Nat.le_trans h0 hz), h2.turn hg (fun r e => Nat.le_trans hz (hge r e)), h3, h4, h5, ?_, ?_, ?_⟩
  · rw [hg.block Bl (lt_blk h6) (fun e => by have := hge Bl e.symm; omega)]; exact h6
  · rw [hg.block Bi (lt_blk h7) (fun e => by have := hge Bi e.symm; omega)]; exact h7
  · rw [hg.block Br (lt_blk h8) (fun e => by have := hge Br e.symm; omega)]; exact h8
theorem CsX.own {w0 w wz : World} {b m : Nat} {S : Nat → Prop} {d : Dk} {p : Nat} {T : Nat → Prop} {q : Sgs} {Bl Bi Br first i : Nat} {tl ti tr : TypeId} (hz : w.heap.size ≤ wz.heap.size) (h0 : w0.heap.size ≤ w.heap.size) (hST : ∀ k, S k ∨ T k → k < w.heap.size) (hl : Bl < wz.heap.size) (hi : Bi < wz.heap.size) (hr : Br < wz.heap.size) (c : Code) : OwnFrom wz.heap.size (CsX w0 w b m S d p T q Bl Bi Br first i tl ti tr c) := by
  intro pre A U row hs hg hrow
  have hge : ∀ r, row = some r → wz.heap.size ≤ r := fun r e => (hrow r e).1
  cases c with
  | ret =>
    obtain ⟨e, dd, vs, q1, h1, h2, h3, h4, h8⟩ := hs
    refine ⟨e, dd, vs, q1, h1.turn hg hge (fun k hk => Nat.lt_of_lt_of_le (hST k hk) hz) (Nat.le_trans h0 hz), h2.turn hg (fun r e => Nat.le_trans hz (hge r e)), h3, h4, ?_⟩
    rw [hg.block Br (lt_blk h8) (fun e => by have := hge Br e.symm; omega)]; exact h8
  | exit id =>
    cases id with
    | zero =>
      obtain ⟨dd, vs, q1, x, h1, h2, h3, h4, h5, h6, h7, h8⟩ := hs
      refine ⟨dd, vs, q1, x, h1.turn hg hge (fun k hk => Nat.lt_of_lt_of_le (hST k hk) hz) (Nat.le_trans h0 hz), h2.turn hg (fun r e => Nat.le_trans hz (hge r e)), h3, h4, h5, ?_, ?_, ?_⟩
      · rw [hg.block Bl (lt_blk h6) (fun e => by have := hge Bl e.symm; omega)]; exact h6
      · rw [hg.block Bi (lt_blk h7) (fun e => by have := hge Bi e.symm; omega)]; exact h7
      · rw [hg.block Br (lt_blk h8) (fun e => by have := hge Br e.symm; omega)]; exact h8
    | succ k => exact hs.elim
  | _ => exact hs.elim

set_option maxHeartbeats 4000000 in
set_option maxRecDepth 20000 in
theorem wcut_any {w0 w : World} {b m : Nat} {S : Nat → Prop} {d : Dk} {p : Nat} {T : Nat → Prop} {vs : Value} {q qr : Sgs} {y0 : Sg × Value} (h : Wl w0 w b m S d p T vs q) (h0 : q = y0 :: qr) (i : Int) (hi : -9223372036854775808 ≤ i ∧ i ≤ 9223372036854775807) (hpb : ∀ y ∈ q, ∀ P ∈ y.1.pl, P ≤ 1099511627776) (hnx : (lastS (q.map (·.1))).next ≤ 1000000) :
    Calls Tryz.prog 19 #[dptr p, .int .i64 i] w fun e w' => e = .returned (.int .i64 ((wcutP d (q.map (·.1)) y0.1.num i).1 : Int)) ∧ DidW w0 w b m S p T (wcutP d (q.map (·.1)) y0.1.num i).2.1 (wcutP d (q.map (·.1)) y0.1.num i).2.2 w' := by
  obtain ⟨R, hR⟩ : ∃ R, wcutP d (q.map (·.1)) y0.1.num i = R := ⟨_, rfl⟩
  rw [hR]
  have HR : Hid (wcutP d (q.map (·.1)) y0.1.num i = R) := hR
  have HW : Hid (Wl w0 w b m S d p T vs q) := h
  have hq : q ≠ [] := by rw [h0]; simp
  obtain ⟨ql, yl, hql⟩ : ∃ ql yl, q = ql ++ [yl] := ⟨q.dropLast, q.getLast hq, (List.dropLast_concat_getLast hq).symm⟩
  have hls : lastS (q.map (·.1)) = yl.1 := by rw [hql, List.map_append]; exact lastS_snoc _ _
  rw [hls] at hnx
  obtain ⟨A, hA⟩ : ∃ A, y0.1.num = A := ⟨_, rfl⟩
  obtain ⟨Z, hZ⟩ : ∃ Z, yl.1.next = Z := ⟨_, rfl⟩
  rw [hZ] at hnx
  have FF : Hid (∀ u, Below w.heap.size w u → Calls Tryz.prog 21 #[dptr p] u fun e w' => e = .returned (.int .i64 (A : Int)) ∧ w' = u) := fun u hu => by
    have h1 := (HW.out.same hu).lg
    rw [h0] at h1
    have := first_any h1
    rw [hA] at this
    exact this
  have FL : Hid (∀ u, Below w.heap.size w u → Calls Tryz.prog 18 #[dptr p] u fun e w' => e = .returned (.int .i64 ((Z : Int) - 1)) ∧ Below u.heap.size u w') := fun u hu => by
    have h1 := (HW.out.same hu).lg
    rw [hql] at h1
    have := lastn_any h1
    rw [hZ] at this
    exact this
  have bA : (A : Int) ≤ 999999 := by
    have := HW.out.lg.num y0 (by rw [h0]; simp)
    omega
  have bZ : (Z : Int) ≤ 1000000 := by omega
  have HQ : Hid (q = y0 :: qr ∧ q = ql ++ [yl] ∧ y0.1.num = A ∧ yl.1.next = Z ∧ lastS (q.map (·.1)) = yl.1) := ⟨h0, hql, hA, hZ, hls⟩
  have HPb : Hid (∀ y ∈ q, ∀ P ∈ y.1.pl, P ≤ 1099511627776) := hpb
  clear h hR hpb h0 hql hA hZ hls hnx
  refine (callsIn_wide (n := 8)).1 ?_
  refine callsIn_of_wp_marks Tryz.func19 rfl trivial ?_ rfl
  simp only [Tryz.ntmps19, List.size_toArray, List.length_cons, List.length_nil, Nat.reduceAdd, Nat.reduceSub, Array.replicate_succ, Array.replicate_zero, List.push_toArray, List.append_toArray, List.nil_append, List.cons_append]
  have early : i < (A : Int) ∨ (Z : Int) < i → ∀ U, Below w.heap.size w U → (Ending.returned (.int .i64 ((17 : Nat) : Int)) = Ending.returned (.int .i64 (R.1 : Int)) ∧ DidW w0 w b m S p T R.2.1 R.2.2 U) := fun hc U hU => by
    have hR := HR.out
    unfold wcutP at hR
    rw [HQ.out.2.2.2.2, HQ.out.2.2.2.1, HQ.out.2.2.1, if_pos hc] at hR
    rw [← hR]
    exact ⟨rfl, S, T, vs, q, HW.out.same hU, rfl, StW.same S T hU⟩
  obtain ⟨wz, hwz⟩ : ∃ wz, wz = ((w.alloc (.cells #[dptr p] 29)).alloc (.cells #[.int .i64 i] 3)).alloc (.cells #[.int .i64 0] 39) := ⟨_, rfl⟩
  have hbw : Below w.heap.size w wz := by rw [hwz]; exact (((Below.refl _ w).alloc (Nat.le_refl _) _).alloc (by simp) _).alloc (by simp; omega) _
  obtain ⟨Bl, hBl⟩ : ∃ Bl, Bl = w.heap.size := ⟨_, rfl⟩
  obtain ⟨Bi, hBi⟩ : ∃ Bi, Bi = w.heap.size + 1 := ⟨_, rfl⟩
  obtain ⟨Br, hBr⟩ : ∃ Br, Br = w.heap.size + 1 + 1 := ⟨_, rfl⟩
  have hkl : wz.heap[Bl]? = some (.cells #[dptr p] 29 (0, 0)) := by rw [hwz, hBl, heap_alloc_old _ _ (by simp; omega), heap_alloc_old _ _ (by simp)]; exact heap_alloc_new _ _
  have hki : wz.heap[Bi]? = some (.cells #[.int .i64 i] 3 (0, 0)) := by
    have e : Bi = (w.alloc (.cells #[dptr p] 29)).heap.size := by rw [hBi]; simp
    rw [hwz, heap_alloc_old _ _ (by rw [hBi]; simp), e]; exact heap_alloc_new _ _
  have hkr : wz.heap[Br]? = some (.cells #[.int .i64 0] 39 (0, 0)) := by
    have e : Br = ((w.alloc (.cells #[dptr p] 29)).alloc (.cells #[.int .i64 i] 3)).heap.size := by rw [hBr]; simp
    rw [hwz, e]; exact heap_alloc_new _ _
  have HBw : Hid (Below w.heap.size w wz) := hbw
  have n0 : ∀ u : BwD wz, u.wo.cell? ⟨Bl, 0, none⟩ = some (dptr p) := fun u => cell_blk ((u.is.block Bl (lt_blk hkl)).trans hkl) rfl
  have n1 : ∀ u : BwD wz, u.wo.cell? ⟨Bi, 0, none⟩ = some (.int .i64 i) := fun u => cell_blk ((u.is.block Bi (lt_blk hki)).trans hki) rfl
  have C1 : Hid (∀ u : BwD wz, Calls Tryz.prog 21 #[dptr p] u.wo fun e w' => e = .returned (.int .i64 (A : Int)) ∧ ∃ u' : BwD wz, w' = u'.wo) := fun u => (FF.out u.wo (HBw.out.trans (u.is.mono HBw.out.size))).mono fun e w' r => ⟨r.1, u, r.2⟩
  have C2 : Hid (∀ u : BwD wz, Calls Tryz.prog 18 #[dptr p] u.wo fun e w' => e = .returned (.int .i64 ((Z : Int) - 1)) ∧ ∃ u' : BwD wz, w' = u'.wo) := fun u => (FL.out u.wo (HBw.out.trans (u.is.mono HBw.out.size))).mono fun e w' r => ⟨r.1, BwD.of (u.is.trans (r.2.mono u.is.size)), rfl⟩
  by_cases hout : i < (A : Int) ∨ (Z : Int) < i
  · have HE : Hid (∀ U, Below w.heap.size w U → (Ending.returned (.int .i64 ((17 : Nat) : Int)) = Ending.returned (.int .i64 (R.1 : Int)) ∧ DidW w0 w b m S p T R.2.1 R.2.2 U)) := early hout
    have HZ : Hid (Br < wz.heap.size ∧ w.heap.size ≤ Br ∧ wz.heap[Br]? = some (.cells #[.int .i64 0] 39 (0, 0))) := ⟨lt_blk hkr, by omega, hkr⟩
    have ez : IntKind.i64.wrap ((Z : Int) - 1 + 1) = (Z : Int) := by rw [IntKind.wrap_i64]; omega
    have ez2 : (Z : Int) - 1 + 1 = (Z : Int) := by omega
    clear early FF FL HQ HPb
    have fin : Hid (∀ (u : BwD wz), ∀ V, V = u.wo.setCell ⟨Br, 0, none⟩ (.int .i64 17) → Below w.heap.size w V ∧ V.cell? ⟨Br, 0, none⟩ = some (.int .i64 17)) := fun u V hV => by
      have hk := (u.is.block Br HZ.out.1).trans HZ.out.2.2
      refine ⟨?_, ?_⟩
      · rw [hV]
        exact (HBw.out.trans (u.is.mono HBw.out.size)).setCell HZ.out.2.1 _
      · rw [hV]
        exact cell_blk (set_blk hk 0 _) rfl
    have hQ : ∀ u : BwD wz, u.wo.cell? ⟨Br, 0, none⟩ = some (.int .i64 0) ∧ u.wo.frozen? ⟨Br, 0, none⟩ = false := fun u => by
      have hk := (u.is.block Br HZ.out.1).trans HZ.out.2.2
      exact ⟨cell_blk hk rfl, free_blk hk 0⟩
    have HQ2 : Hid (∀ u : BwD wz, u.wo.cell? ⟨Br, 0, none⟩ = some (.int .i64 0) ∧ u.wo.frozen? ⟨Br, 0, none⟩ = false) := hQ
    clear hQ hkl hki hkr hbw
    by_cases h1 : i < (A : Int)
    · have qd : decide (i < (A : Int)) = true := by simp; omega
      clear hout
      gi_wp2
      rw [← hBr, ← hBi, ← hBl, ← hwz]
      clear hwz hBl hBi hBr
      refine wpIn_mono (Q := fun ex a' w' => match ex with
        | .normal => (∃ u7 u8 u9 u10 u11 u12 u13 u14 u15 u16, a' = { tmps := #[dptr p, .int .i64 i, .pointer (some ⟨Bl, 0, none⟩), .pointer (some ⟨Bi, 0, none⟩), .pointer (some ⟨Br, 0, none⟩), undef, undef, u7, u8, u9, u10, u11, u12, u13, u14, u15, u16, .bool true, undef, undef, undef, undef, undef, undef, undef, undef, undef, undef, undef, undef, undef, undef, undef, undef, undef, undef, undef, undef, undef, undef], defers := [] }) ∧ ∃ u : BwD wz, w' = u.wo
        | _ => False) (wpIn_wide.2 ?_) ?_
      · refine region_classD (fun w' => ∃ u : BwD wz, w' = u.wo) (by kernel_rfl) (by kernel_rfl) (BwD.first wz) ?_
        haveI := BwD.some wz
        repeat (go_big_quiet_step (first | (go_at_call 21; exact C1.out _) | (go_at_call 18; exact C2.out _) | exact rfl))
        refine wpQuiet_nil ?_
        rintro w5 ⟨u, rfl⟩
        exact ⟨⟨_, _, _, _, _, _, _, _, _, _, rfl⟩, u, rfl⟩
      · rintro ex a' w1 hx
        cases ex with
        | normal =>
          obtain ⟨⟨u7, u8, u9, u10, u11, u12, u13, u14, u15, u16, rfl⟩, u, rfl⟩ := hx
          obtain ⟨y1, y2⟩ := HQ2.out u
          obtain ⟨V, hV⟩ : ∃ V, V = u.wo.setCell ⟨Br, 0, none⟩ (.int .i64 17) := ⟨_, rfl⟩
          obtain ⟨g1, g2⟩ := fin.out u V hV
          have HG : Hid (Below w.heap.size w V) := g1
          clear n0 n1 C1 C2 g1
          gi_wp2
          rw [← hV]
          clear hV
          refine ⟨.int .i64 17, ?_, HE.out _ HG.out⟩
          rw [results_one rfl]
          go_simp
        | _ => exact hx.elim
    · have h2 : (Z : Int) < i := hout.resolve_left h1
      have qd : decide (i < (A : Int)) = false := by simp; omega
      have qd2 : decide ((Z : Int) < i) = true := by simp; omega
      clear hout
      gi_wp2
      rw [← hBr, ← hBi, ← hBl, ← hwz]
      clear hwz hBl hBi hBr
      refine wpIn_mono (Q := fun ex a' w' => match ex with
        | .normal => (∃ u7 u8 u9 u10 u11 u12 u13 u14 u15 u16, a' = { tmps := #[dptr p, .int .i64 i, .pointer (some ⟨Bl, 0, none⟩), .pointer (some ⟨Bi, 0, none⟩), .pointer (some ⟨Br, 0, none⟩), undef, undef, u7, u8, u9, u10, u11, u12, u13, u14, u15, u16, .bool true, undef, undef, undef, undef, undef, undef, undef, undef, undef, undef, undef, undef, undef, undef, undef, undef, undef, undef, undef, undef, undef, undef], defers := [] }) ∧ ∃ u : BwD wz, w' = u.wo
        | _ => False) (wpIn_wide.2 ?_) ?_
      · refine region_classD (fun w' => ∃ u : BwD wz, w' = u.wo) (by kernel_rfl) (by kernel_rfl) (BwD.first wz) ?_
        haveI := BwD.some wz
        repeat (go_big_quiet_step (first | (go_at_call 21; exact C1.out _) | (go_at_call 18; exact C2.out _) | exact rfl))
        refine wpQuiet_nil ?_
        rintro w5 ⟨u, rfl⟩
        exact ⟨⟨_, _, _, _, _, _, _, _, _, _, rfl⟩, u, rfl⟩
      · rintro ex a' w1 hx
        cases ex with
        | normal =>
          obtain ⟨⟨u7, u8, u9, u10, u11, u12, u13, u14, u15, u16, rfl⟩, u, rfl⟩ := hx
          obtain ⟨y1, y2⟩ := HQ2.out u
          obtain ⟨V, hV⟩ : ∃ V, V = u.wo.setCell ⟨Br, 0, none⟩ (.int .i64 17) := ⟨_, rfl⟩
          obtain ⟨g1, g2⟩ := fin.out u V hV
          have HG : Hid (Below w.heap.size w V) := g1
          clear n0 n1 C1 C2 g1
          gi_wp2
          rw [← hV]
          clear hV
          refine ⟨.int .i64 17, ?_, HE.out _ HG.out⟩
          rw [results_one rfl]
          go_simp
        | _ => exact hx.elim
  · clear early n0 n1 C1 C2 hkl hki hkr hbw hBl hBi hBr HBw
    clear hwz wz
    have h1 : ¬ i < (A : Int) := fun e => hout (.inl e)
    have h2 : ¬ (Z : Int) < i := fun e => hout (.inr e)
    clear hout
    clear Bl Bi Br
    first
    | skip
      obtain ⟨NI, hNI⟩ : ∃ NI : Nat, i = (NI : Int) := ⟨i.toNat, by omega⟩
      subst hNI
      have HAN : Hid (A ≤ NI ∧ NI ≤ Z ∧ Z ≤ 1000000) := ⟨by omega, by omega, by omega⟩
      have HR3 : Hid ((if (cutsP A NI d (q.reverse.map (·.1))).1 ≠ 0 then cutsP A NI d (q.reverse.map (·.1)) else cutlP (cutsP A NI d (q.reverse.map (·.1))).2.1 (cutsP A NI d (q.reverse.map (·.1))).2.2 NI) = R) := by
        show _ = R
        have hR := HR.out
        unfold wcutP at hR
        rw [HQ.out.2.2.2.2, HQ.out.2.2.2.1, HQ.out.2.2.1, if_neg (by omega), Int.toNat_natCast, ← List.map_reverse] at hR
        exact hR
      obtain ⟨wz, hwz⟩ : ∃ wz, wz = ((w.alloc (.cells #[dptr p] 29)).alloc (.cells #[.int .i64 (NI : Int)] 3)).alloc (.cells #[.int .i64 0] 39) := ⟨_, rfl⟩
      have hbw : Below w.heap.size w wz := by rw [hwz]; exact (((Below.refl _ w).alloc (Nat.le_refl _) _).alloc (by simp) _).alloc (by simp; omega) _
      have HBw : Hid (Below w.heap.size w wz) := hbw
      have hd : Below w.heap.size w wz.drew := hbw.trans ⟨rfl, rfl, rfl, Nat.le_refl _, fun _ _ => rfl⟩
      have c1 := FF.out wz.drew hd
      have c2 := FL.out wz.drew hd
      obtain ⟨Bl, hBl⟩ : ∃ Bl, Bl = w.heap.size := ⟨_, rfl⟩
      obtain ⟨Bi, hBi⟩ : ∃ Bi, Bi = w.heap.size + 1 := ⟨_, rfl⟩
      obtain ⟨Br, hBr⟩ : ∃ Br, Br = w.heap.size + 1 + 1 := ⟨_, rfl⟩
      have hkl : wz.heap[Bl]? = some (.cells #[dptr p] 29 (0, 0)) := by rw [hwz, hBl, heap_alloc_old _ _ (by simp; omega), heap_alloc_old _ _ (by simp)]; exact heap_alloc_new _ _
      have hki : wz.heap[Bi]? = some (.cells #[.int .i64 (NI : Int)] 3 (0, 0)) := by
        have e : Bi = (w.alloc (.cells #[dptr p] 29)).heap.size := by rw [hBi]; simp
        rw [hwz, heap_alloc_old _ _ (by rw [hBi]; simp), e]; exact heap_alloc_new _ _
      have hkr : wz.heap[Br]? = some (.cells #[.int .i64 0] 39 (0, 0)) := by
        have e : Br = ((w.alloc (.cells #[dptr p] 29)).alloc (.cells #[.int .i64 (NI : Int)] 3)).heap.size := by rw [hBr]; simp
        rw [hwz, e]; exact heap_alloc_new _ _
      have k0 : wz.cell? ⟨Bl, 0, none⟩ = some (dptr p) := cell_blk hkl rfl
      have k1 : wz.cell? ⟨Bi, 0, none⟩ = some (.int .i64 (NI : Int)) := cell_blk hki rfl
      have q1 : ¬ (NI : Int) < (A : Int) := h1
      have q2 : ¬ (Z : Int) < (NI : Int) := h2
      gi_wp2
      rw [← hBr, ← hBi, ← hBl, ← hwz]
      have HZ : Hid (wz.heap.size = w.heap.size + 3 ∧ Bl = w.heap.size ∧ Bi = w.heap.size + 1 ∧ Br = w.heap.size + 2 ∧ Below w.heap.size w wz) := ⟨by rw [hwz]; simp, hBl, hBi, hBr, hbw⟩
      clear hBl hBi hBr hwz hd hbw h1 h2
      have qa : ¬ NI < A := by omega
      have qb : ¬ Z < NI := by omega
      have qd1 : decide ((NI : Int) < (A : Int)) = false := by simp; omega
      have qd2 : decide (NI < A) = false := by simp; omega
      have qd3 : decide ((Z : Int) < (NI : Int)) = false := by simp; omega
      have qd4 : decide (Z < NI) = false := by simp; omega
      have ez : IntKind.i64.wrap ((Z : Int) - 1 + 1) = (Z : Int) := by rw [IntKind.wrap_i64]; omega
      have ez2 : (Z : Int) - 1 + 1 = (Z : Int) := by omega
      refine wpIn_mono (Q := fun ex a' w' => match ex with
        | .normal => (∃ u7 u8 u9 u10 u11 u12 u13 u14 u15 u16, a' = { tmps := #[dptr p, .int .i64 (NI : Int), .pointer (some ⟨Bl, 0, none⟩), .pointer (some ⟨Bi, 0, none⟩), .pointer (some ⟨Br, 0, none⟩), undef, undef, u7, u8, u9, u10, u11, u12, u13, u14, u15, u16, .bool false, undef, undef, undef, undef, undef, undef, undef, undef, undef, undef, undef, undef, undef, undef, undef, undef, undef, undef, undef, undef, undef, undef], defers := [] }) ∧ Below wz.heap.size wz w'
        | _ => False) (wpIn_wide.2 ?_) ?_
      · have n0 : ∀ u : BwD wz, u.wo.cell? ⟨Bl, 0, none⟩ = some (dptr p) := fun u => by rw [u.is.cell (World.block_lt_of_cell? wz _ k0)]; exact k0
        have n1 : ∀ u : BwD wz, u.wo.cell? ⟨Bi, 0, none⟩ = some (.int .i64 (NI : Int)) := fun u => by rw [u.is.cell (World.block_lt_of_cell? wz _ k1)]; exact k1
        have C1 : Hid (∀ u : BwD wz, Calls Tryz.prog 21 #[dptr p] u.wo fun e w' => e = .returned (.int .i64 (A : Int)) ∧ ∃ u' : BwD wz, w' = u'.wo) := fun u => (FF.out u.wo (HBw.out.trans (u.is.mono HBw.out.size))).mono fun e w' r => ⟨r.1, u, r.2⟩
        have C2 : Hid (∀ u : BwD wz, Calls Tryz.prog 18 #[dptr p] u.wo fun e w' => e = .returned (.int .i64 ((Z : Int) - 1)) ∧ ∃ u' : BwD wz, w' = u'.wo) := fun u => (FL.out u.wo (HBw.out.trans (u.is.mono HBw.out.size))).mono fun e w' r => ⟨r.1, BwD.of (u.is.trans (r.2.mono u.is.size)), rfl⟩
        clear k0 k1 c1 c2
        refine region_classD (fun w' => ∃ u : BwD wz, w' = u.wo) (by kernel_rfl) (by kernel_rfl) (BwD.first wz) ?_
        haveI := BwD.some wz
        repeat (go_big_quiet_step (first | (go_at_call 21; exact C1.out _) | (go_at_call 18; exact C2.out _) | exact rfl))
        refine wpQuiet_nil ?_
        intro w5 hw5
        obtain ⟨u, hu⟩ := hw5
        subst hu
        exact ⟨⟨_, _, _, _, _, _, _, _, _, _, rfl⟩, u.is⟩
      rintro ex a' w1 hx
      cases ex with
      | normal =>
        obtain ⟨⟨u7, u8, u9, u10, u11, u12, u13, u14, u15, u16, rfl⟩, hb1⟩ := hx
        clear c1 c2 q1 q2 ez ez2 qa qb qd1 qd2 qd3 qd4
        have hkl1 := (hb1.block Bl (lt_blk hkl)).trans hkl
        have hki1 := (hb1.block Bi (lt_blk hki)).trans hki
        have hkr1 := (hb1.block Br (lt_blk hkr)).trans hkr
        have HBl : Hid (w1.heap[Bl]? = some (.cells #[dptr p] 29 (0, 0)) ∧ w1.heap[Bi]? = some (.cells #[.int .i64 (NI : Int)] 3 (0, 0)) ∧ w1.heap[Br]? = some (.cells #[.int .i64 0] 39 (0, 0))) := ⟨hkl1, hki1, hkr1⟩
        have k2 : w1.cell? ⟨Bl, 0, none⟩ = some (dptr p) := cell_blk hkl1 rfl
        have HB1 : Hid (Below w.heap.size w w1) := HBw.out.trans (hb1.mono HBw.out.size)
        clear k0 k1 hkl hki hkr hkl1 hki1 hkr1 hb1
        gi_wp2
        have hbw1 := HB1.out
        have o1 : w.heap.size ≤ w1.heap.size := hbw1.size
        have o2 : Bl < w1.heap.size := lt_blk HBl.out.1
        have o3 : Bi < w1.heap.size := lt_blk HBl.out.2.1
        have o4 : Br < w1.heap.size := lt_blk HBl.out.2.2
        obtain ⟨g, c, hvs, hc, hT, hcm⟩ := HW.out.lg.form hq
        subst hvs
        have hfew := HW.out.lg.few
        have h0 := HW.out.lv.below.size
        have hST : ∀ k, S k ∨ T k → k < w.heap.size := fun k hk => by
          obtain ⟨sl, hd⟩ := HW.out.lv.dk
          exact hk.elim (hd.lt k) (HW.out.lg.lt k)
        have hI0 : CsI w0 w b m S d p T q g c Bl Bi Br A NI 29 3 39 [] w1 := ⟨d, q, HW.out.same hbw1, StW.same S T hbw1, rfl, hq, rfl, HBl.out.1, HBl.out.2.1, HBl.out.2.2⟩
        have oI := CsI.own (w0 := w0) (w := w) (wz := w1) (b := b) (m := m) (S := S) (d := d) (p := p) (T := T) (q := q) (g := g) (c := c) (Bl := Bl) (Bi := Bi) (Br := Br) (first := A) (i := NI) (tl := 29) (ti := 3) (tr := 39) o1 h0 hST o2 o3 o4
        have HOI : Hid (OwnFrom w1.heap.size (CsI w0 w b m S d p T q g c Bl Bi Br A NI 29 3 39)) := oI
        have HST : Hid (∀ k, S k ∨ T k → k < w.heap.size) := hST
        have HO : Hid (w.heap.size ≤ w1.heap.size ∧ Bl < w1.heap.size ∧ Bi < w1.heap.size ∧ Br < w1.heap.size) := ⟨o1, o2, o3, o4⟩
        refine wp_range (gf := 70) (la := #[dptr p]) (lb := #[]) rfl (by omega) rfl trivial (enters_of Tryz.func70 (by kernel_rfl) rfl) (fromLast_iter 7 (by omega) p g c q hfew) (fun _ => rfl)
          (CsI w0 w b m S d p T q g c Bl Bi Br A NI 29 3 39) (CsX w0 w b m S d p T q Bl Bi Br A NI 29 3 39)
          (fun x a' U => ∃ sb, a' = { tmps := #[dptr p, .int .i64 (NI : Int), .pointer (some ⟨Bl, 0, none⟩), .pointer (some ⟨Bi, 0, none⟩), .pointer (some ⟨Br, 0, none⟩), .pointer (some ⟨sb, 0, none⟩), undef, u7, u8, u9, u10, u11, u12, u13, u14, u15, u16, .bool false, dptr p, .func (.func 70) #[dptr p] #[], sgV x.1.num x.2, undef, undef, undef, undef, undef, undef, undef, undef, undef, undef, undef, undef, undef, undef, undef, undef, undef, undef, undef], defers := [] } ∧ w1.heap.size ≤ sb ∧ U.heap[sb]? = some (.cells #[.int .i64 (x.1.num : Int), x.2] 101 (0, 0)))
          (fun _ _ h => h.rd) oI (CsX.own o1 h0 hST o2 o3 o4) ?oA hI0 ?assign ?body ?done ?left
        case oA =>
          rintro a' x V V' row ⟨sb, e1, e2, e3⟩ hg hrow
          refine ⟨sb, e1, e2, ?_⟩
          rw [hg.block sb (lt_blk e3) (fun e => by
            obtain ⟨_, o, ho, hc⟩ := hrow sb e.symm
            rw [e3] at ho
            cases ho
            cases hc)]
          exact e3
        case assign =>
          intro l D pre x post W hD hD2 hl hl2 hxs hI
          obtain ⟨dd, pg, pc, hxv, _⟩ := hI.at hxs
          obtain ⟨⟨N, pl⟩, xv⟩ := x
          simp only at hxv
          subst hxv
          clear oI hI0 hST o1 o2 o3 o4
          gi_wp2
          refine ⟨⟨heap_alloc_old _ _ hl2, heap_alloc_old _ _ hD2⟩, HOI.out.alloc _ hI, by omega, ?_⟩
          exact Option.some.inj ((Array.getElem?_eq_getElem (by simp)).symm.trans (heap_alloc_new W (.cells #[.int .i64 (N : Int), .slice (some ⟨pg, 0, none⟩) pl.length pc] 101)))
        case body =>
          intro l D pre x post a' U hD hD2 hl hl2 hxs hI ha
          obtain ⟨sb, rfl, hsb, hsbk⟩ := ha
          obtain ⟨dd, pg, pc, hxv, i1, i2, i3, i5, i6, i7, i8⟩ := hI.at hxs
          obtain ⟨⟨N, pl⟩, xv⟩ := x
          simp only at hxv
          subst hxv
          have hhead : ∃ yr, post.reverse ++ [((⟨N, pl⟩ : Sg), Value.slice (some ⟨pg, 0, none⟩) pl.length pc)] = y0 :: yr := by
            have h1 := HQ.out.1
            have h4 : q = (post.reverse ++ [((⟨N, pl⟩ : Sg), Value.slice (some ⟨pg, 0, none⟩) pl.length pc)]) ++ pre.reverse := by
              have := congrArg List.reverse i3
              simpa using this
            cases hp : post.reverse with
            | nil => rw [hp, h1] at h4; exact ⟨[], by rw [List.nil_append]; congr 1; exact (List.cons.inj h4).1.symm⟩
            | cons z zs => rw [hp, h1] at h4; exact ⟨zs ++ [_], by rw [List.cons_append]; congr 1; exact (List.cons.inj h4).1.symm⟩
          obtain ⟨yr, hyr⟩ := hhead
          have FU : Hid (∀ u : BwD U, Calls Tryz.prog 21 #[dptr p] u.wo fun e w' => e = .returned (.int .i64 (A : Int)) ∧ ∃ u' : BwD U, w' = u'.wo) := fun u => by
            have h1 := (i1.same u.is).lg
            rw [hyr] at h1
            have := first_any h1
            rw [HQ.out.2.2.1] at this
            exact this.mono fun e w' r => ⟨r.1, u, r.2⟩
          have z0 : ∀ u : BwD U, u.wo.cell? ⟨Bl, 0, none⟩ = some (dptr p) := fun u => cell_blk ((u.is.block Bl (lt_blk i6)).trans i6) rfl
          have z1 : ∀ u : BwD U, u.wo.cell? ⟨Bi, 0, none⟩ = some (.int .i64 (NI : Int)) := fun u => cell_blk ((u.is.block Bi (lt_blk i7)).trans i7) rfl
          have z2 : ∀ u : BwD U, u.wo.cell? ⟨sb, 0, none⟩ = some (.int .i64 (N : Int)) := fun u => cell_blk ((u.is.block sb (lt_blk hsbk)).trans hsbk) rfl
          have HI : Hid (Wl w0 U b m S dd p T (.slice (some ⟨g, 0, none⟩) (post.reverse ++ [((⟨N, pl⟩ : Sg), Value.slice (some ⟨pg, 0, none⟩) pl.length pc)]).length c) (post.reverse ++ [((⟨N, pl⟩ : Sg), Value.slice (some ⟨pg, 0, none⟩) pl.length pc)]) ∧ StW w S T U S T ∧ q.reverse = pre ++ (post.reverse ++ [((⟨N, pl⟩ : Sg), Value.slice (some ⟨pg, 0, none⟩) pl.length pc)]).reverse ∧ cutsP A NI d (q.reverse.map (·.1)) = cutsP A NI dd ((post.reverse ++ [((⟨N, pl⟩ : Sg), Value.slice (some ⟨pg, 0, none⟩) pl.length pc)]).reverse.map (·.1)) ∧ U.heap[Bl]? = some (.cells #[dptr p] 29 (0, 0)) ∧ U.heap[Bi]? = some (.cells #[.int .i64 (NI : Int)] 3 (0, 0)) ∧ U.heap[Br]? = some (.cells #[.int .i64 0] 39 (0, 0))) := ⟨i1, i2, i3, i5, i6, i7, i8⟩
          have HBd : Hid (w1.heap.size ≤ D ∧ D < U.heap.size ∧ w1.heap.size ≤ l ∧ l < U.heap.size) := ⟨hD, hD2, hl, hl2⟩
          have HYr : Hid (post.reverse ++ [((⟨N, pl⟩ : Sg), Value.slice (some ⟨pg, 0, none⟩) pl.length pc)] = y0 :: yr) := hyr
          have bN : (N : Int) ≤ 999999 := by have := i1.lg.num ((⟨N, pl⟩ : Sg), Value.slice (some ⟨pg, 0, none⟩) pl.length pc) (by simp); simp only at this; omega
          have hcu : cutsP A NI dd ((post.reverse ++ [((⟨N, pl⟩ : Sg), Value.slice (some ⟨pg, 0, none⟩) pl.length pc)]).reverse.map (·.1)) = (if N < NI ∨ N = A then (0, dd, (⟨N, pl⟩ :: post.map (·.1)).reverse) else if (removeP dd (nameL N)).1 ≠ 0 then ((removeP dd (nameL N)).1, (removeP dd (nameL N)).2, (⟨N, pl⟩ :: post.map (·.1)).reverse) else cutsP A NI (removeP dd (nameL N)).2 (post.map (·.1))) := by
            rw [List.reverse_append, List.reverse_reverse]
            show cutsP A NI dd (⟨N, pl⟩ :: post.map (·.1)) = _
            rw [cutsP]
          have HCu : Hid (cutsP A NI dd ((post.reverse ++ [((⟨N, pl⟩ : Sg), Value.slice (some ⟨pg, 0, none⟩) pl.length pc)]).reverse.map (·.1)) = (if N < NI ∨ N = A then (0, dd, (⟨N, pl⟩ :: post.map (·.1)).reverse) else if (removeP dd (nameL N)).1 ≠ 0 then ((removeP dd (nameL N)).1, (removeP dd (nameL N)).2, (⟨N, pl⟩ :: post.map (·.1)).reverse) else cutsP A NI (removeP dd (nameL N)).2 (post.map (·.1)))) := hcu
          clear i1 i2 i3 i5 i6 i7 i8 hD hD2 hl hl2 hxs hI hyr hsbk hsb oI hI0 hST o1 o2 o3 o4 hcu k2
          have exitOK : Hid ((N < NI ∨ N = A) → ∀ V, Below U.heap.size U V → Two l D U V ∧ LeftBy (CsI w0 w b m S d p T q g c Bl Bi Br A NI 29 3 39) (CsX w0 w b m S d p T q Bl Bi Br A NI 29 3 39) (pre ++ [((⟨N, pl⟩ : Sg), Value.slice (some ⟨pg, 0, none⟩) pl.length pc)]) V (.exit 0)) := fun hc V hb => by
            obtain ⟨i1, i2, i3, i5, i6, i7, i8⟩ := HI.out
            have hbd := HBd.out
            refine ⟨⟨hb.block l hbd.2.2.2, hb.block D hbd.2.1⟩, dd, _, post.reverse, ((⟨N, pl⟩ : Sg), Value.slice (some ⟨pg, 0, none⟩) pl.length pc), i1.same hb, i2.trans (StW.same S T hb), ?_, ?_, hc, (hb.block Bl (lt_blk i6)).trans i6, (hb.block Bi (lt_blk i7)).trans i7, (hb.block Br (lt_blk i8)).trans i8⟩
            · rw [i5, HCu.out, if_pos hc]; simp
            · have := congrArg List.reverse i3
              rw [List.reverse_reverse, List.reverse_append, List.reverse_reverse] at this
              rw [this]; simp
          by_cases hcase : N < NI ∨ N = A
          · have HCs : Hid (N < NI ∨ N = A) := hcase
            have hX := exitOK.out hcase
            have HX : Hid (∀ V, Below U.heap.size U V → Two l D U V ∧ LeftBy (CsI w0 w b m S d p T q g c Bl Bi Br A NI 29 3 39) (CsX w0 w b m S d p T q Bl Bi Br A NI 29 3 39) (pre ++ [((⟨N, pl⟩ : Sg), Value.slice (some ⟨pg, 0, none⟩) pl.length pc)]) V (.exit 0)) := hX
            clear hX exitOK HI HCu HYr HBd
            by_cases hlt : N < NI
            · have q1 : (N : Int) < (NI : Int) := by omega
              have q2 : decide ((N : Int) < (NI : Int)) = true := by simp; omega
              clear hcase
              gi_upto_region 5 with fail
              dsimp only
              refine region_classR (fun w' => ∃ u : BwD U, w' = u.wo) (by kernel_rfl) (by kernel_rfl) (by kernel_rfl) (BwD.first U) ?_
              haveI := BwD.some U
              repeat (go_big_quiet_step (first | (go_at_call 21; exact FU.out _) | exact rfl))
              refine wpQuiet_nil ?_
              rintro w5 ⟨u, rfl⟩
              have HB5 : Hid (Below U.heap.size U u.wo) := u.is
              generalize u.wo = w6 at *
              gi_wp2
              exact HX.out _ HB5.out
            · have q1 : ¬ (N : Int) < (NI : Int) := by omega
              have q2 : decide ((N : Int) < (NI : Int)) = false := by simp; omega
              have q3 : N = A := hcase.resolve_left hlt
              subst q3
              have q4 : ((N : Int) == (N : Int)) = true := by simp
              clear hcase
              gi_upto_region 5 with fail
              dsimp only
              refine region_classR (fun w' => ∃ u : BwD U, w' = u.wo) (by kernel_rfl) (by kernel_rfl) (by kernel_rfl) (BwD.first U) ?_
              haveI := BwD.some U
              repeat (go_big_quiet_step (first | (go_at_call 21; exact FU.out _) | exact rfl))
              refine wpQuiet_nil ?_
              rintro w5 ⟨u, rfl⟩
              have HB5 : Hid (Below U.heap.size U u.wo) := u.is
              generalize u.wo = w6 at *
              gi_wp2
              exact HX.out _ HB5.out
          · have q1 : ¬ (N : Int) < (NI : Int) := by omega
            have q2 : decide ((N : Int) < (NI : Int)) = false := by simp; omega
            have q4 : ((N : Int) == (A : Int)) = false := by simp; omega
            have HCs : Hid (¬ (N < NI ∨ N = A)) := hcase
            clear hcase exitOK
            gi_upto_region 5 with fail
            dsimp only
            refine region_classR (fun w' => ∃ u : BwD U, w' = u.wo) (by kernel_rfl) (by kernel_rfl) (by kernel_rfl) (BwD.first U) ?_
            haveI := BwD.some U
            repeat (go_big_quiet_step (first | (go_at_call 21; exact FU.out _) | exact rfl))
            refine wpQuiet_nil ?_
            rintro w5 ⟨u, rfl⟩
            have HB5 : Hid (Below U.heap.size U u.wo) := u.is
            generalize u.wo = w6 at *
            obtain ⟨i1, i2, i3, i5, i6, i7, i8⟩ := HI.out
            have hbd := HBd.out
            have hrem := rem_ex (i1.same HB5.out)
            have k0 : w6.cell? ⟨Bl, 0, none⟩ = some (dptr p) := cell_blk ((HB5.out.block Bl (lt_blk i6)).trans i6) rfl
            obtain ⟨E, hE⟩ : ∃ E, removeP dd (nameL N) = E := ⟨_, rfl⟩
            simp only at hrem
            rw [hE] at hrem
            obtain ⟨e1, he1⟩ : ∃ e1, E.1 = e1 := ⟨_, rfl⟩
            rw [he1] at hrem
            have HU : Hid (removeP dd (nameL N) = E ∧ E.1 = e1) := ⟨hE, he1⟩
            clear hE he1 i1 i2 i3 i5 i6 i7 i8 hbd z0 z1 z2 FU q1 q2 q4
            gi_wp2
            refine ⟨trivial, ?_⟩
            refine (CallsIn.inRound l (callsIn_wide.2 hrem)).mono ?_
            rintro e U1 ⟨rfl, hst, hcase⟩
            obtain ⟨i1, i2, i3, i5, i6, i7, i8⟩ := HI.out
            have hbd := HBd.out
            have hz := HB5.out.size
            have ho := HO.out
            have hout : ∀ k, w.heap.size ≤ k → k < U.heap.size → U1.heap[k]? = U.heap[k]? := fun k hk hk2 => (hst.1.block k (Nat.lt_of_lt_of_le hk2 hz) (fun e => by
              have := HST.out k e
              omega)).trans (HB5.out.block k hk2)
            have HZo := HZ.out
            have HTwo : Hid (Two l D U U1) := ⟨hout l (by omega) hbd.2.2.2, hout D (by omega) hbd.2.1⟩
            have HSt : Hid (StW w S T U1 S T) := (i2.trans (StW.same S T HB5.out)).trans hst
            have hbl : U1.heap[Bl]? = some (.cells #[dptr p] 29 (0, 0)) := (hout Bl (by omega) (lt_blk i6)).trans i6
            have hbi : U1.heap[Bi]? = some (.cells #[.int .i64 (NI : Int)] 3 (0, 0)) := (hout Bi (by omega) (lt_blk i7)).trans i7
            have hbr : U1.heap[Br]? = some (.cells #[.int .i64 0] 39 (0, 0)) := (hout Br (by omega) (lt_blk i8)).trans i8
            have H5 : Hid (cutsP A NI d (q.reverse.map (·.1)) = (if e1 ≠ 0 then (e1, E.2, (⟨N, pl⟩ :: post.map (·.1)).reverse) else cutsP A NI E.2 (post.map (·.1)))) := by
              show cutsP A NI d (q.reverse.map (·.1)) = _
              rw [i5, HCu.out, if_neg HCs.out, HU.out.1, HU.out.2]
            have H3 : Hid (q.reverse = pre ++ (post.reverse ++ [((⟨N, pl⟩ : Sg), Value.slice (some ⟨pg, 0, none⟩) pl.length pc)]).reverse) := i3
            have HB : Hid (U1.heap[Bl]? = some (.cells #[dptr p] 29 (0, 0)) ∧ U1.heap[Bi]? = some (.cells #[.int .i64 (NI : Int)] 3 (0, 0)) ∧ U1.heap[Br]? = some (.cells #[.int .i64 0] 39 (0, 0))) := ⟨hbl, hbi, hbr⟩
            have HNe : Hid (post.reverse ≠ []) := fun hp => by
              have h1 := HYr.out
              rw [hp, List.nil_append] at h1
              have h2 := (List.cons.inj h1).1
              have h3 := HQ.out.2.2.1
              rw [← h2] at h3
              exact HCs.out (.inr h3)
            clear hrem i1 i2 i3 i5 i6 i7 i8 hbd hz ho hout HZo hst k0
            rcases hcase with ⟨hz, hW1⟩ | ⟨hnz, hW1⟩
            · have HW1 : Hid (Wl w0 U1 b m S E.2 p T (.slice (some ⟨g, 0, none⟩) post.reverse.length c) post.reverse) := hW1
              have HE0 : Hid (e1 = 0) := hz
              have q9 : ((e1 : Int) != 0) = false := by simp; omega
              have q8 : ((e1 : Int) == 0) = true := by simp; omega
              clear hbl hbi hbr hz hW1
              gi_wp2
              refine ⟨HTwo.out, E.2, post.reverse, HW1.out, HSt.out, ?_, HNe.out, ?_, HB.out.1, HB.out.2.1, HB.out.2.2⟩
              · rw [H3.out]; simp
              · rw [H5.out, if_neg (by rw [HE0.out]; simp), List.reverse_reverse]
            · have HW1 : Hid (Wl w0 U1 b m S E.2 p T (.slice (some ⟨g, 0, none⟩) (post.reverse ++ [((⟨N, pl⟩ : Sg), Value.slice (some ⟨pg, 0, none⟩) pl.length pc)]).length c) (post.reverse ++ [((⟨N, pl⟩ : Sg), Value.slice (some ⟨pg, 0, none⟩) pl.length pc)])) := hW1
              have HE0 : Hid (e1 ≠ 0) := hnz
              have q9 : ((e1 : Int) != 0) = true := by simp; omega
              have q8 : ((e1 : Int) == 0) = false := by simp; omega
              have y1 : U1.cell? ⟨Br, 0, none⟩ = some (.int .i64 0) := cell_blk hbr rfl
              have y2 := free_blk hbr 0
              obtain ⟨U2, hU2⟩ : ∃ U2, U2 = U1.setCell ⟨Br, 0, none⟩ (.int .i64 (e1 : Int)) := ⟨_, rfl⟩
              have HU2 : Hid (U2 = U1.setCell ⟨Br, 0, none⟩ (.int .i64 (e1 : Int))) := hU2
              clear hbl hbi hbr hnz hW1
              gi_wp2
              (try rw [← hU2])
              have hfr : Fr (fun k => k = Br) U1 U2 := by rw [hU2]; exact Fr.set (S := fun k => k = Br) (p := ⟨Br, 0, none⟩) (Fr.refl _ U1) rfl _
              have hz := HZ.out
              have hbd := HBd.out
              have ho := HO.out
              have hns : ∀ k, S k ∨ T k → k ≠ Br := fun k hk e => by have := HST.out k hk; omega
              have hBr := lt_blk HB.out.2.2
              have hlD : l ≠ Br ∧ D ≠ Br := by omega
              refine ⟨⟨(hfr.block l ?_ hlD.1).trans HTwo.out.1, (hfr.block D ?_ hlD.2).trans HTwo.out.2⟩, e1, E.2, _, post.reverse ++ [((⟨N, pl⟩ : Sg), Value.slice (some ⟨pg, 0, none⟩) pl.length pc)], HW1.out.other hfr (fun e => hns Br (.inl e) rfl) (fun e => hns Br (.inr e) rfl) (by have := HW.out.lv.below.size; omega), ?_, ?_, HE0.out, ?_⟩
              · have h1 := HTwo.out.1
                have h2 : l < U.heap.size := hbd.2.2.2
                rw [Array.getElem?_eq_getElem h2] at h1
                exact (Array.getElem?_eq_some_iff.1 h1).1
              · have h1 := HTwo.out.2
                have h2 : D < U.heap.size := hbd.2.1
                rw [Array.getElem?_eq_getElem h2] at h1
                exact (Array.getElem?_eq_some_iff.1 h1).1
              · exact HSt.out.more ⟨hfr.os, hfr.tape, hfr.output, hfr.size, fun k hk hn => hfr.block k hk (fun e => hn (.inr (by omega)))⟩ (fun k hk => .inl hk)
              · rw [H5.out, if_pos HE0.out]; simp
              · rw [hU2]; exact set_blk HB.out.2.2 0 _
        case done =>
          intro D U hD hI hK
          obtain ⟨dd, q1, i1, i2, i3, i4, i5, i6, i7, i8⟩ := hI
          exfalso
          apply i4
          have := congrArg List.length i3
          simp at this
          exact this
        case left =>
          intro D cc pre x post U hD hxs hX hK
          cases cc with
          | ret =>
            obtain ⟨e1, dd, vs1, q1, x1, x2, x3, x4, x5⟩ := hX
            have HX : Hid (e1 ≠ 0 ∧ cutsP A NI d (q.reverse.map (·.1)) = (e1, dd, q1.map (·.1))) := ⟨x4, x3⟩
            obtain ⟨U3, hU3⟩ : ∃ U3, U3 = U.putObj D (.deferred none) := ⟨_, rfl⟩
            have hz := HZ.out
            have ho := HO.out
            have h0 := HW.out.lv.below.size
            have hns : ¬ (S D ∨ T D) := fun e => by have := HST.out D e; omega
            obtain ⟨v1, v2, v3⟩ := x1.shut x2 ⟨fun e => hns (.inl e), fun e => hns (.inr e)⟩ (by omega) h0 x5 hK hU3
            have y3 : U3.cell? ⟨Br, 0, none⟩ = some (.int .i64 (e1 : Int)) := cell_blk v3 rfl
            have HV : Hid (Wl w0 U3 b m S dd p T vs1 q1 ∧ StW w S T U3 S T) := ⟨v1, v2⟩
            clear x1 x2 x3 x4 x5 v1 v2 v3 hz ho h0 hns oI hI0 hST o1 o2 o3 o4 k2
            gi_wp2
            refine ⟨by simp, .inl ⟨_, _, rfl, run_takeDeferred hK, ?_⟩⟩
            rw [← hU3]
            clear hU3
            refine ⟨.int .i64 (e1 : Int), ?_, ?_⟩
            · rw [results_one rfl]
              go_simp
            · have hR := HR3.out
              rw [HX.out.2, if_pos HX.out.1] at hR
              refine ⟨by rw [← hR], ?_⟩
              rw [← hR]
              exact ⟨S, T, vs1, q1, HV.out.1, rfl, HV.out.2⟩
          | exit id =>
            cases id with
            | zero =>
              obtain ⟨dd, vs1, q1, x9, x1, x2, x3, x4, x5, x6, x7, x8⟩ := hX
              have hmem := x4
              have hAN := HAN.out
              have hnum9 : x9.1.num ≤ NI := by
                rcases x5 with x5 | x5
                · omega
                · omega
              have hcut := cutl_any x1 NI hnum9 (by omega) (fun P hP => HPb.out x9 hmem P hP)
              obtain ⟨E, hE⟩ : ∃ E, cutlP dd ((q1 ++ [x9]).map (·.1)) NI = E := ⟨_, rfl⟩
              rw [hE] at hcut
              have y0 : U.cell? ⟨Bl, 0, none⟩ = some (dptr p) := cell_blk x6 rfl
              have y1 : U.cell? ⟨Bi, 0, none⟩ = some (.int .i64 (NI : Int)) := cell_blk x7 rfl
              have HI : Hid (StW w S T U S T ∧ cutsP A NI d (q.reverse.map (·.1)) = (0, dd, (q1 ++ [x9]).map (·.1)) ∧ cutlP dd ((q1 ++ [x9]).map (·.1)) NI = E ∧ U.heap[Br]? = some (.cells #[.int .i64 0] 39 (0, 0)) ∧ U.heap[D]? = some (.deferred (some [])) ∧ w1.heap.size ≤ D) := ⟨x2, x3, hE, x8, hK, hD⟩
              clear hE x1 x2 x3 x4 x5 x6 x7 x8 hD hK hnum9 hmem hAN oI hI0 hST o1 o2 o3 o4 k2
              gi_wp2
              refine ⟨trivial, ?_⟩
              refine (callsIn_wide.2 hcut).mono ?_
              rintro e U1 ⟨rfl, S', T', vs', q', c1, c2, c3⟩
              obtain ⟨j1, j2, j3, j4, j5, j6⟩ := HI.out
              have hz := HZ.out
              have ho := HO.out
              have hns : ∀ k, w.heap.size ≤ k → ¬ (S k ∨ T k) := fun k hk e => by have := HST.out k e; omega
              have hbr : U1.heap[Br]? = some (.cells #[.int .i64 0] 39 (0, 0)) := (c3.1.block Br (lt_blk j4) (hns Br (by omega))).trans j4
              have hD1 : U1.heap[D]? = some (.deferred (some [])) := (c3.1.block D (Array.getElem?_eq_some_iff.1 j5).1 (hns D (by omega))).trans j5
              have y1 : U1.cell? ⟨Br, 0, none⟩ = some (.int .i64 0) := cell_blk hbr rfl
              have y2 := free_blk hbr 0
              obtain ⟨e1, he1⟩ : ∃ e1, E.1 = e1 := ⟨_, rfl⟩
              rw [he1]
              have HE : Hid (E.1 = e1) := he1
              have HD1 : Hid (U1.heap[D]? = some (.deferred (some [])) ∧ U1.heap[Br]? = some (.cells #[.int .i64 0] 39 (0, 0))) := ⟨hD1, hbr⟩
              have HW1 : Hid (Wl w0 U1 b m S' E.2.1 p T' vs' q' ∧ q'.map (·.1) = E.2.2 ∧ StW w S T U1 S' T' ∧ ¬ S' Br ∧ ¬ T' Br ∧ ¬ S' D ∧ ¬ T' D) := by
                refine ⟨c1, c2, j1.trans c3, ?_⟩
                have hU : Br < U.heap.size := lt_blk j4
                have hUD : D < U.heap.size := (Array.getElem?_eq_some_iff.1 j5).1
                have hno : ∀ k, w.heap.size ≤ k → k < U.heap.size → ¬ (S' k ∨ T' k) := fun k hk hk2 e => by
                  rcases c3.2 k e with e | e
                  · exact hns k hk e
                  · omega
                exact ⟨fun e => hno Br (by omega) hU (.inl e), fun e => hno Br (by omega) hU (.inr e), fun e => hno D (by omega) hUD (.inl e), fun e => hno D (by omega) hUD (.inr e)⟩
              clear hcut y0 j1 j2 j3 j4 j5 j6 hz ho hns hbr hD1 he1 c1 c2 c3
              obtain ⟨U2, hU2⟩ : ∃ U2, U2 = U1.setCell ⟨Br, 0, none⟩ (.int .i64 (e1 : Int)) := ⟨_, rfl⟩
              have HU2 : Hid (U2 = U1.setCell ⟨Br, 0, none⟩ (.int .i64 (e1 : Int))) := hU2
              gi_wp2
              rw [← hU2]
              obtain ⟨U3, hU3⟩ : ∃ U3, U3 = U2.putObj D (.deferred none) := ⟨_, rfl⟩
              have hz := HZ.out
              have ho := HO.out
              have h0 := HW.out.lv.below.size
              obtain ⟨v1, v2, v3, v4⟩ := HW1.out.1.leave HW1.out.2.2.1 HW1.out.2.2.2 (by omega) (by have := HI.out.2.2.2.2.2; omega) h0 HD1.out.2 HD1.out.1 hU2 hU3
              refine ⟨by simp, .inl ⟨_, _, rfl, run_takeDeferred v4, ?_⟩⟩
              rw [← hU3]
              have y3 : U3.cell? ⟨Br, 0, none⟩ = some (.int .i64 (e1 : Int)) := cell_blk v3 rfl
              have HV : Hid (Wl w0 U3 b m S' E.2.1 p T' vs' q' ∧ StW w S T U3 S' T') := ⟨v1, v2⟩
              clear v1 v2 v3 v4 hU2 hU3 hz ho h0
              refine ⟨.int .i64 (e1 : Int), ?_, ?_⟩
              · rw [results_one rfl]
                go_simp
              · have hR := HR3.out
                rw [HI.out.2.1, if_neg (by simp)] at hR
                simp only at hR
                rw [HI.out.2.2.1] at hR
                refine ⟨by rw [← hR, ← HE.out], ?_⟩
                rw [← hR]
                exact ⟨S', T', vs', q', HV.out.1, HW1.out.2.1, HV.out.2⟩
            | succ k => exact hX.elim
          | _ => exact hX.elim
      | _ => exact hx.elim
theorem cutG {w0 : World} {b m p : Nat} {d : Dk} {L1 : List Sg} {G : Nat → Prop} {w : World} (h : LgS w0 b m p d L1 G w) {s : Sg} {L : List Sg} (hL : L1 = s :: L) (i : Int) (hi : -9223372036854775808 ≤ i ∧ i ≤ 9223372036854775807) (hpb : ∀ s ∈ L1, ∀ P ∈ s.pl, P ≤ 1099511627776) (hnx : (lastS L1).next ≤ 1000000) :
    Calls Tryz.prog 19 #[dptr p, .int .i64 i] w fun e w' => e = .returned (.int .i64 ((wcutP d L1 s.num i).1 : Int)) ∧ LgS w0 b m p (wcutP d L1 s.num i).2.1 (wcutP d L1 s.num i).2.2 G w' ∧ Kps G w w' := by
  obtain ⟨S, T, vs, q, h1, h2, h3⟩ := h
  subst h2
  obtain ⟨y, q', rfl, h4, h5⟩ := cons_of hL
  rw [← h5]
  refine (wcut_any h1 rfl i hi (fun y' hy' P hP => hpb y'.1 (List.mem_map_of_mem hy') P hP) hnx).mono fun e w' r => ⟨r.1, ?_⟩
  exact LgS.did h3 r.2
theorem resetG {w0 : World} {b m p : Nat} {d : Dk} {L : List Sg} {G : Nat → Prop} {w : World} (h : LgS w0 b m p d L G w) (hL : L ≠ []) (i : Int) (hi : -9223372036854775808 ≤ i ∧ i ≤ 9223372036854775807) (hu : usedL d.files ≤ 1099511627776) (hf : d.files.length + 1 ≤ 1048576) :
    Calls Tryz.prog 22 #[dptr p, .int .i64 i] w fun e w' => e = .returned (.int .i64 ((resetP d L i).1 : Int)) ∧ LgS w0 b m p (resetP d L i).2.1 (resetP d L i).2.2 G w' ∧ Kps G w w' := by
  obtain ⟨S, T, vs, q, h1, h2, h3⟩ := h
  subst h2
  refine (reset_any h1 (fun e => hL (by rw [e]; rfl)) i hi hu hf).mono fun e w' r => ⟨r.1, ?_⟩
  exact LgS.did h3 r.2
end Go.Proofs.YtkbmblmnhhlicaaGreatDoor
