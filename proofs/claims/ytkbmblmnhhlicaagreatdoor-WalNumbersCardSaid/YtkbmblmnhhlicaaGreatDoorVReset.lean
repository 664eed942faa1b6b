/- Reset, walked. -/
import Derived.Test.YtkbmblmnhhlicaaGreatDoorV15
import Derived.Test.YtkbmblmnhhlicaaGreatDoorV14
set_option linter.unusedVariables false
namespace Go.Proofs.YtkbmblmnhhlicaaGreatDoor
open Go.RowKit
attribute [local go_sem] Oper.semAt_some

theorem rm_used {d : Dk} (h : DkOk d) (n : Nm) : usedL (removeP d n).2.files ≤ usedL d.files ∧ (removeP d n).2.files.length ≤ d.files.length := by
  unfold removeP
  split
  · exact ⟨Nat.le_refl _, Nat.le_refl _⟩
  · split
    · rename_i h0
      have e : failD d = fallD d.keep d := by unfold failD; rw [if_pos h0]
      rw [e]
      exact ⟨fallL_used (keep := d.keep) (i := 0) h.lasts, by show (fallL _ _ _).length ≤ _; rw [fallL_length]; exact Nat.le_refl _⟩
    · rename_i h0
      have e := failD_files h0
      show usedL (delA n (failD d).files) ≤ _ ∧ (delA n (failD d).files).length ≤ _
      rw [e]
      have := usedL_del n d.files h.rises
      exact ⟨by omega, List.length_filter_le _ _⟩
theorem results_one {fn : Func} {p : Tmp} {ty : TypeId} (h : fn.results = #[.cell p ty]) (tmps : Array Value) (P : Program) (w : World) :
    (results fn tmps).run P w = ((asAddr (tmps.getD p undef)).run P w).andThen fun a w₁ => (loadVar ty a).run P w₁ := by
  simp only [results, h]
  simp [Sem.run_bind, Result.andThen]
/-- Behind a return: the result's cell is written, the block of deferred calls is shut. -/
theorem Wl.leave {w0 w U1 U2 U3 : World} {b m : Nat} {S T S' T' : Nat → Prop} {d : Dk} {p Br D : Nat} {vs u : Value} {q : Sgs} {tr : TypeId} {x : Value} (h : Wl w0 U1 b m S' d p T' vs q) (hs : StW w S T U1 S' T') (hS : ¬ S' Br ∧ ¬ T' Br ∧ ¬ S' D ∧ ¬ T' D) (hB : w.heap.size ≤ Br) (hD : w.heap.size ≤ D) (h0 : w0.heap.size ≤ w.heap.size) (hbr : U1.heap[Br]? = some (.cells #[x] tr (0, 0))) (hk : U1.heap[D]? = some (.deferred (some [])))
    (h2 : U2 = U1.setCell ⟨Br, 0, none⟩ u) (h3 : U3 = U2.putObj D (.deferred none)) : Wl w0 U3 b m S' d p T' vs q ∧ StW w S T U3 S' T' ∧ U3.heap[Br]? = some (.cells #[u] tr (0, 0)) ∧ U2.heap[D]? = some (.deferred (some [])) := by
  have hne : D ≠ Br := by
    intro e
    rw [e, hbr] at hk
    cases hk
  have hg2 : U1.grownBy U2 (some Br) := by rw [h2]; exact grownBy_setCell' U1 Br u
  have hg3 : U2.grownBy U3 (some D) := by rw [h3]; exact grownBy_putObj' U2 D _
  have f2 : Fr (fun k => k = Br) U1 U2 := ⟨hg2.os, hg2.tape, hg2.output, hg2.size, fun k hk hn => hg2.block k hk (fun e => hn (Option.some.inj e))⟩
  have f3 : Fr (fun k => k = D) U2 U3 := ⟨hg3.os, hg3.tape, hg3.output, hg3.size, fun k hk hn => hg3.block k hk (fun e => hn (Option.some.inj e))⟩
  have b2 : U2.heap[Br]? = some (.cells #[u] tr (0, 0)) := by rw [h2]; exact set_blk hbr 0 _
  have k2 : U2.heap[D]? = some (.deferred (some [])) := by rw [h2, set_other _ hne]; exact hk
  refine ⟨(h.other f2 hS.1 hS.2.1 (by omega)).other f3 hS.2.2.1 hS.2.2.2 (by omega), ?_, ?_, k2⟩
  · have s2 : StW w S T U2 S' T' := ⟨⟨hg2.os.trans hs.1.os, hg2.tape.trans hs.1.tape, hg2.output.trans hs.1.output, Nat.le_trans hs.1.size hg2.size, fun k hk hn => by
      rw [f2.block k (Nat.lt_of_lt_of_le hk hs.1.size) (by omega)]; exact hs.1.block k hk hn⟩, hs.2⟩
    exact ⟨⟨hg3.os.trans s2.1.os, hg3.tape.trans s2.1.tape, hg3.output.trans s2.1.output, Nat.le_trans s2.1.size hg3.size, fun k hk hn => by
      rw [f3.block k (Nat.lt_of_lt_of_le hk s2.1.size) (by omega)]; exact s2.1.block k hk hn⟩, s2.2⟩
  · rw [f3.block Br (lt_blk b2) (Ne.symm hne)]; exact b2
theorem Wl.shut {w0 w U2 U3 : World} {b m : Nat} {S T S' T' : Nat → Prop} {d : Dk} {p Br D : Nat} {vs : Value} {q : Sgs} {tr : TypeId} {x : Value} (h : Wl w0 U2 b m S' d p T' vs q) (hs : StW w S T U2 S' T') (hS : ¬ S' D ∧ ¬ T' D) (hD : w.heap.size ≤ D) (h0 : w0.heap.size ≤ w.heap.size) (hbr : U2.heap[Br]? = some (.cells #[x] tr (0, 0))) (hk : U2.heap[D]? = some (.deferred (some [])))
    (h3 : U3 = U2.putObj D (.deferred none)) : Wl w0 U3 b m S' d p T' vs q ∧ StW w S T U3 S' T' ∧ U3.heap[Br]? = some (.cells #[x] tr (0, 0)) := by
  have hne : D ≠ Br := by
    intro e
    rw [e, hbr] at hk
    cases hk
  have hg3 : U2.grownBy U3 (some D) := by rw [h3]; exact grownBy_putObj' U2 D _
  have f3 : Fr (fun k => k = D) U2 U3 := ⟨hg3.os, hg3.tape, hg3.output, hg3.size, fun k hk hn => hg3.block k hk (fun e => hn (Option.some.inj e))⟩
  refine ⟨h.other f3 hS.1 hS.2 (by omega), ⟨⟨hg3.os.trans hs.1.os, hg3.tape.trans hs.1.tape, hg3.output.trans hs.1.output, Nat.le_trans hs.1.size hg3.size, fun k hk hn => by
      rw [f3.block k (Nat.lt_of_lt_of_le hk hs.1.size) (by omega)]; exact hs.1.block k hk hn⟩, hs.2⟩, ?_⟩
  rw [f3.block Br (lt_blk hbr) (Ne.symm hne)]; exact hbr
theorem Wl.turn {w0 A U : World} {b m : Nat} {S : Nat → Prop} {d : Dk} {p : Nat} {T : Nat → Prop} {vs : Value} {q : Sgs} (h : Wl w0 A b m S d p T vs q) {row : Option Nat} (hg : A.grownBy U row) {B : Nat} (hr : ∀ r, row = some r → B ≤ r) (hB : ∀ k, S k ∨ T k → k < B) (h0 : w0.heap.size ≤ B) : Wl w0 U b m S d p T vs q := by
  have hf : Fr (fun k => B ≤ k) A U := ⟨hg.os, hg.tape, hg.output, hg.size, fun k hk hn => hg.block k hk (fun e => hn (hr k e.symm))⟩
  obtain ⟨sl, hd⟩ := h.lv.dk
  exact ⟨⟨⟨sl, hd.keep hf.size (fun k hk => hf.block k (hd.lt k hk) (fun e => by have := hB k (.inl hk); omega))⟩, h.lv.ge, h.lv.below.trans (hf.below (fun k hk => Nat.le_trans h0 hk) h.lv.below.size)⟩, h.lg.keep hf.size (fun k hk => hf.block k (h.lg.lt k hk) (fun e => by have := hB k (.inr hk); omega)), h.ge, h.ap, h.tb⟩
theorem StW.turn {w A U : World} {S T S1 T1 : Nat → Prop} (h : StW w S T A S1 T1) {row : Option Nat} (hg : A.grownBy U row) (hr : ∀ r, row = some r → w.heap.size ≤ r) : StW w S T U S1 T1 := by
  refine ⟨⟨hg.os.trans h.1.os, hg.tape.trans h.1.tape, hg.output.trans h.1.output, Nat.le_trans h.1.size hg.size, fun k hk hn => ?_⟩, h.2⟩
  rw [hg.block k (Nat.lt_of_lt_of_le hk h.1.size) (fun e => by have := hr k e.symm; omega)]
  exact h.1.block k hk hn

/-- What stands between two rounds. -/
def RsI (w0 w : World) (b m : Nat) (S : Nat → Prop) (d : Dk) (p : Nat) (T : Nat → Prop) (q : Sgs) (g c Bl Br : Nat) (tl tr : TypeId) (pre : Sgs) (U : World) : Prop :=
  ∃ dd q1, Wl w0 U b m S dd p T (.slice (some ⟨g, 0, none⟩) q1.length c) q1 ∧ StW w S T U S T ∧ q.reverse = pre ++ q1.reverse ∧ remsP d (q.reverse.map (·.1)) = remsP dd (q1.reverse.map (·.1)) ∧ usedL dd.files ≤ usedL d.files ∧ dd.files.length ≤ d.files.length ∧
    U.heap[Bl]? = some (.cells #[dptr p] tl (0, 0)) ∧ U.heap[Br]? = some (.cells #[.int .i64 0] tr (0, 0))
/-- What stands where a round has left the function. -/
def RsX (w0 w : World) (b m : Nat) (S : Nat → Prop) (d : Dk) (p : Nat) (T : Nat → Prop) (q : Sgs) (Br : Nat) (tr : TypeId) : Code → Sgs → World → Prop
  | .ret, _, U => ∃ e dd vs q1, Wl w0 U b m S dd p T vs q1 ∧ StW w S T U S T ∧ remsP d (q.reverse.map (·.1)) = (e, dd, q1.map (·.1)) ∧ e ≠ 0 ∧ U.heap[Br]? = some (.cells #[.int .i64 (e : Int)] tr (0, 0))
  | _, _, _ => False

theorem RsI.rd {w0 w : World} {b m : Nat} {S : Nat → Prop} {d : Dk} {p : Nat} {T : Nat → Prop} {q : Sgs} {g c Bl Br : Nat} {tl tr : TypeId} {pre : Sgs} {U : World} (h : RsI w0 w b m S d p T q g c Bl Br tl tr pre U) : SegRd p g c q pre U := by
  obtain ⟨dd, q1, h1, h2, h3, _⟩ := h
  have hl := congrArg List.length h3
  simp at hl
  have hq : q = q1 ++ pre.reverse := by
    have := congrArg List.reverse h3
    simpa using this
  have e1 : q.length - pre.length = q1.length := by omega
  refine ⟨by omega, by rw [e1]; exact cell_blk h1.lg.blk rfl, fun i x hi hx => ?_⟩
  rw [e1] at hi
  rw [hq, List.getElem?_append_left hi] at hx
  exact h1.lg.at hx
theorem RsI.own {w0 w wz : World} {b m : Nat} {S : Nat → Prop} {d : Dk} {p : Nat} {T : Nat → Prop} {q : Sgs} {g c Bl Br : Nat} {tl tr : TypeId} (hz : w.heap.size ≤ wz.heap.size) (h0 : w0.heap.size ≤ w.heap.size) (hST : ∀ k, S k ∨ T k → k < w.heap.size) (hl : Bl < wz.heap.size) (hr : Br < wz.heap.size) : OwnFrom wz.heap.size (RsI w0 w b m S d p T q g c Bl Br tl tr) := by
  intro pre A U row hs hg hrow
  obtain ⟨dd, q1, h1, h2, h3, h4, h5, h6, h7, h8⟩ := hs
  have hge : ∀ r, row = some r → wz.heap.size ≤ r := fun r e => (hrow r e).1
  refine ⟨dd, q1, h1.turn hg hge (fun k hk => Nat.lt_of_lt_of_le (hST k hk) hz) (Nat.le_trans h0 hz), h2.turn hg (fun r e => Nat.le_trans hz (hge r e)), h3, h4, h5, h6, ?_, ?_⟩
  · rw [hg.block Bl (lt_blk h7) (fun e => by have := hge Bl e.symm; omega)]; exact h7
  · rw [hg.block Br (lt_blk h8) (fun e => by have := hge Br e.symm; omega)]; exact h8
theorem RsX.own {w0 w wz : World} {b m : Nat} {S : Nat → Prop} {d : Dk} {p : Nat} {T : Nat → Prop} {q : Sgs} {Br : Nat} {tr : TypeId} (hz : w.heap.size ≤ wz.heap.size) (h0 : w0.heap.size ≤ w.heap.size) (hST : ∀ k, S k ∨ T k → k < w.heap.size) (hr : Br < wz.heap.size) (c : Code) : OwnFrom wz.heap.size (RsX w0 w b m S d p T q Br tr c) := by
  intro pre A U row hs hg hrow
  have hge : ∀ r, row = some r → wz.heap.size ≤ r := fun r e => (hrow r e).1
  cases c with
  | ret =>
    obtain ⟨e, dd, vs, q1, h1, h2, h3, h4, h8⟩ := hs
    refine ⟨e, dd, vs, q1, h1.turn hg hge (fun k hk => Nat.lt_of_lt_of_le (hST k hk) hz) (Nat.le_trans h0 hz), h2.turn hg (fun r e => Nat.le_trans hz (hge r e)), h3, h4, ?_⟩
    rw [hg.block Br (lt_blk h8) (fun e => by have := hge Br e.symm; omega)]; exact h8
  | _ => exact hs.elim

set_option maxHeartbeats 4000000 in
set_option maxRecDepth 20000 in
theorem reset_any {w0 w : World} {b m : Nat} {S : Nat → Prop} {d : Dk} {p : Nat} {T : Nat → Prop} {vs : Value} {q : Sgs} (h : Wl w0 w b m S d p T vs q) (hq : q ≠ []) (i : Int) (hi : -9223372036854775808 ≤ i ∧ i ≤ 9223372036854775807) (hu : usedL d.files ≤ 1099511627776) (hf : d.files.length + 1 ≤ 1048576) :
    Calls Tryz.prog 22 #[dptr p, .int .i64 i] w fun e w' => e = .returned (.int .i64 ((resetP d (q.map (·.1)) i).1 : Int)) ∧ DidW w0 w b m S p T (resetP d (q.map (·.1)) i).2.1 (resetP d (q.map (·.1)) i).2.2 w' := by
  obtain ⟨R, hR⟩ : ∃ R, resetP d (q.map (·.1)) i = R := ⟨_, rfl⟩
  rw [hR]
  have HR : Hid (resetP d (q.map (·.1)) i = R) := hR
  have HW : Hid (Wl w0 w b m S d p T vs q) := h
  have HQ : Hid (q ≠ [] ∧ usedL d.files ≤ 1099511627776 ∧ d.files.length + 1 ≤ 1048576) := ⟨hq, hu, hf⟩
  clear h hR hu hf
  refine (callsIn_wide (n := 8)).1 ?_
  refine callsIn_of_wp_marks Tryz.func22 rfl trivial ?_ rfl
  simp only [Tryz.ntmps22, List.size_toArray, List.length_cons, List.length_nil, Nat.reduceAdd, Nat.reduceSub, Array.replicate_succ, Array.replicate_zero, List.push_toArray, List.append_toArray, List.nil_append, List.cons_append]
  have early : i < 1 ∨ 999999 < i → ∀ U, Below w.heap.size w U → (Ending.returned (.int .i64 ((1 : Nat) : Int)) = Ending.returned (.int .i64 (R.1 : Int)) ∧ DidW w0 w b m S p T R.2.1 R.2.2 U) := fun hi U hU => by
    have hR := HR.out
    unfold resetP at hR
    rw [if_pos hi] at hR
    rw [← hR]
    exact ⟨rfl, S, T, vs, q, HW.out.same hU, rfl, StW.same S T hU⟩
  by_cases h1 : i < 1
  · have HE := early (.inl h1)
    clear early
    gi_wp2
    refine ⟨.int .i64 1, ?_, HE _ (((Below.refl _ w).alloc (Nat.le_refl _) _).alloc (by simp) _)⟩
    rw [results_one rfl]
    go_simp
  · by_cases h2 : 999999 < i
    · have HE := early (.inr h2)
      clear early
      gi_wp2
      refine ⟨.int .i64 1, ?_, HE _ (((Below.refl _ w).alloc (Nat.le_refl _) _).alloc (by simp) _)⟩
      rw [results_one rfl]
      go_simp
    · clear early
      obtain ⟨NI, hNI⟩ : ∃ NI : Nat, i = (NI : Int) := ⟨i.toNat, by omega⟩
      subst hNI
      have HNI : Hid (1 ≤ NI ∧ NI ≤ 999999) := ⟨by omega, by omega⟩
      have hR2 : resetP d (q.map (·.1)) (NI : Int) = (if (remsP d (q.map (·.1)).reverse).1 ≠ 0 then remsP d (q.map (·.1)).reverse else ((appendP (remsP d (q.map (·.1)).reverse).2.1 (nameL NI) []).1, (appendP (remsP d (q.map (·.1)).reverse).2.1 (nameL NI) []).2, [⟨NI, [0]⟩])) := by
        unfold resetP
        rw [if_neg (by omega), Int.toNat_natCast]
      rw [← List.map_reverse] at hR2
      have HR2 : Hid ((if (remsP d (q.reverse.map (·.1))).1 ≠ 0 then remsP d (q.reverse.map (·.1)) else ((appendP (remsP d (q.reverse.map (·.1))).2.1 (nameL NI) []).1, (appendP (remsP d (q.reverse.map (·.1))).2.1 (nameL NI) []).2, [⟨NI, [0]⟩])) = R) := by rw [← hR2]; exact HR.out
      clear hR2
      obtain ⟨g, c, hvs, hc, hT, hcm⟩ := HW.out.lg.form hq
      subst hvs
      have hfew := HW.out.lg.few
      have h0 := HW.out.lv.below.size
      have hST : ∀ k, S k ∨ T k → k < w.heap.size := fun k hk => by
        obtain ⟨sl, hd⟩ := HW.out.lv.dk
        exact hk.elim (hd.lt k) (HW.out.lg.lt k)
      obtain ⟨wz, hwz⟩ : ∃ wz, wz = (w.alloc (.cells #[dptr p] 29)).alloc (.cells #[.int .i64 0] 39) := ⟨_, rfl⟩
      obtain ⟨Bl, hBl⟩ : ∃ Bl, Bl = w.heap.size := ⟨_, rfl⟩
      obtain ⟨Br, hBr⟩ : ∃ Br, Br = w.heap.size + 1 := ⟨_, rfl⟩
      have hz : wz.heap.size = w.heap.size + 2 := by rw [hwz]; simp
      have hbw : Below w.heap.size w wz := by rw [hwz]; exact ((Below.refl _ w).alloc (Nat.le_refl _) _).alloc (by simp) _
      have hkl : wz.heap[Bl]? = some (.cells #[dptr p] 29 (0, 0)) := by rw [hwz, hBl, heap_alloc_old _ _ (by simp)]; exact heap_alloc_new _ _
      have hkr : wz.heap[Br]? = some (.cells #[.int .i64 0] 39 (0, 0)) := by
        have : Br = (w.alloc (.cells #[dptr p] 29)).heap.size := by rw [hBr]; simp
        rw [hwz, this]; exact heap_alloc_new _ _
      have hI0 : RsI w0 w b m S d p T q g c Bl Br 29 39 [] wz := ⟨d, q, HW.out.same hbw, StW.same S T hbw, rfl, rfl, Nat.le_refl _, Nat.le_refl _, hkl, hkr⟩
      gi_wp2
      rw [← hBr, ← hBl, ← hwz]
      have o1 : w.heap.size ≤ wz.heap.size := by omega
      have o2 : Bl < wz.heap.size := by omega
      have o3 : Br < wz.heap.size := by omega
      have HZ : Hid (wz.heap.size = w.heap.size + 2 ∧ Bl = w.heap.size ∧ Br = w.heap.size + 1 ∧ Below w.heap.size w wz) := ⟨hz, hBl, hBr, hbw⟩
      have HST : Hid (∀ k, S k ∨ T k → k < w.heap.size) := hST
      clear hBl hBr hwz hz hbw hkl hkr
      refine wp_range (gf := 70) (la := #[dptr p]) (lb := #[]) rfl (by omega) rfl trivial (enters_of Tryz.func70 (by kernel_rfl) rfl) (fromLast_iter 7 (by omega) p g c q hfew) (fun _ => rfl)
        (RsI w0 w b m S d p T q g c Bl Br 29 39) (RsX w0 w b m S d p T q Br 39)
        (fun x a' _ => a' = { tmps := #[dptr p, .int .i64 (NI : Int), .pointer (some ⟨Bl, 0, none⟩), undef, .pointer (some ⟨Br, 0, none⟩), undef, .int .i64 (NI : Int), .bool false, .bool false, .int .i64 (NI : Int), .bool false, .bool false, dptr p, .func (.func 70) #[dptr p] #[], sgV x.1.num x.2, undef, undef, undef, undef, undef, undef, undef, undef], defers := [] })
        (fun _ _ h => h.rd) (RsI.own o1 h0 hST o2 o3) (RsX.own o1 h0 hST o3) (fun _ _ _ _ _ hs _ _ => hs) hI0 ?assign ?body ?done ?left
      case assign =>
        intro l D pre x post W _ _ _ _ _ hI
        gi_wp2
        exact ⟨⟨rfl, rfl⟩, hI, by first | rfl | (simp; done) | kernel_rfl⟩
      case body =>
        intro l D pre x post a' U hD hD2 hl hl2 hxs hI ha
        subst ha
        obtain ⟨dd, q1, i1, i2, i3, i4, i5, i6, i7, i8⟩ := hI
        have hq1 : q1 = post.reverse ++ [x] := by
          rw [i3] at hxs
          have h3 := List.append_cancel_left hxs
          have := congrArg List.reverse h3
          simpa using this
        subst hq1
        have hrem := rem_ex i1
        have y0 : U.cell? ⟨Bl, 0, none⟩ = some (dptr p) := cell_blk i7 rfl
        obtain ⟨⟨N, pl⟩, xv⟩ := x
        obtain ⟨E, hE⟩ : ∃ E, removeP dd (nameL N) = E := ⟨_, rfl⟩
        simp only at hrem
        rw [hE] at hrem
        obtain ⟨e1, he1⟩ : ∃ e1, E.1 = e1 := ⟨_, rfl⟩
        rw [he1] at hrem
        have HU : Hid (removeP dd (nameL N) = E ∧ E.1 = e1) := ⟨hE, he1⟩
        have HI : Hid (Wl w0 U b m S dd p T (.slice (some ⟨g, 0, none⟩) (post.reverse ++ [((⟨N, pl⟩ : Sg), xv)]).length c) (post.reverse ++ [(⟨N, pl⟩, xv)]) ∧ StW w S T U S T ∧ q.reverse = pre ++ (post.reverse ++ [((⟨N, pl⟩ : Sg), xv)]).reverse ∧ remsP d (q.reverse.map (·.1)) = remsP dd ((post.reverse ++ [((⟨N, pl⟩ : Sg), xv)]).reverse.map (·.1)) ∧ usedL dd.files ≤ usedL d.files ∧ dd.files.length ≤ d.files.length ∧ U.heap[Bl]? = some (.cells #[dptr p] 29 (0, 0)) ∧ U.heap[Br]? = some (.cells #[.int .i64 0] 39 (0, 0))) := ⟨i1, i2, i3, i4, i5, i6, i7, i8⟩
        have HBd : Hid (wz.heap.size ≤ D ∧ D < U.heap.size ∧ wz.heap.size ≤ l ∧ l < U.heap.size) := ⟨hD, hD2, hl, hl2⟩
        clear hE he1 i1 i2 i3 i4 i5 i6 i7 i8 hD hD2 hl hl2 hxs
        gi_wp2
        refine ⟨trivial, ?_⟩
        refine (CallsIn.inRound l (callsIn_wide.2 hrem)).mono ?_
        rintro e U1 ⟨rfl, hst, hcase⟩
        have hout : ∀ k, w.heap.size ≤ k → k < U.heap.size → U1.heap[k]? = U.heap[k]? := fun k hk hk2 => hst.1.block k hk2 (fun e => by
          have := HST.out k e
          omega)
        have hz := HZ.out
        have hbd := HBd.out
        obtain ⟨i1, i2, i3, i4, i5, i6, i7, i8⟩ := HI.out
        have HTwo : Hid (Two l D U U1) := ⟨hout l (by omega) hbd.2.2.2, hout D (by omega) hbd.2.1⟩
        have HSt : Hid (StW w S T U1 S T) := i2.trans hst
        have hbl : U1.heap[Bl]? = some (.cells #[dptr p] 29 (0, 0)) := (hout Bl (by omega) (lt_blk i7)).trans i7
        have hbr : U1.heap[Br]? = some (.cells #[.int .i64 0] 39 (0, 0)) := (hout Br (by omega) (lt_blk i8)).trans i8
        have hus := rm_used (by obtain ⟨sl, hd⟩ := i1.lv.dk; exact hd.ok) (nameL N)
        rw [HU.out.1] at hus
        rw [List.reverse_append, List.reverse_reverse, List.map_append] at i4
        have hrp : remsP dd ([((⟨N, pl⟩ : Sg), xv)].reverse.map (·.1) ++ post.map (·.1)) = (if E.1 ≠ 0 then (E.1, E.2, (⟨N, pl⟩ :: post.map (·.1)).reverse) else remsP E.2 (post.map (·.1))) := by
          show remsP dd (⟨N, pl⟩ :: post.map (·.1)) = _
          rw [remsP, HU.out.1]
        rw [hrp, HU.out.2] at i4
        have HB : Hid (U1.heap[Bl]? = some (.cells #[dptr p] 29 (0, 0)) ∧ U1.heap[Br]? = some (.cells #[.int .i64 0] 39 (0, 0))) := ⟨hbl, hbr⟩
        have H4 : Hid (remsP d (q.reverse.map (·.1)) = (if e1 ≠ 0 then (e1, E.2, (⟨N, pl⟩ :: post.map (·.1)).reverse) else remsP E.2 (post.map (·.1)))) := i4
        have H5 : Hid (usedL E.2.files ≤ usedL d.files ∧ E.2.files.length ≤ d.files.length) := ⟨by omega, by omega⟩
        have H3 : Hid (q.reverse = pre ++ (post.reverse ++ [((⟨N, pl⟩ : Sg), xv)]).reverse) := i3
        clear hrem y0 hout hz hbd i1 i2 i3 i4 i5 i6 i7 i8 hus hrp hst
        rcases hcase with ⟨hz, hW1⟩ | ⟨hnz, hW1⟩
        · have HW1 : Hid (Wl w0 U1 b m S E.2 p T (.slice (some ⟨g, 0, none⟩) post.reverse.length c) post.reverse) := hW1
          have HE0 : Hid (e1 = 0) := hz
          have q9 : ((e1 : Int) != 0) = false := by simp; omega
          have q8 : ((e1 : Int) == 0) = true := by simp; omega
          clear hbl hbr hz hW1
          gi_wp2
          refine ⟨HTwo.out, E.2, post.reverse, HW1.out, HSt.out, ?_, ?_, H5.out.1, H5.out.2, HB.out.1, HB.out.2⟩
          · rw [H3.out]; simp
          · rw [H4.out, if_neg (by rw [HE0.out]; simp), List.reverse_reverse]
        · have HW1 : Hid (Wl w0 U1 b m S E.2 p T (.slice (some ⟨g, 0, none⟩) (post.reverse ++ [((⟨N, pl⟩ : Sg), xv)]).length c) (post.reverse ++ [(⟨N, pl⟩, xv)])) := hW1
          have HE0 : Hid (e1 ≠ 0) := hnz
          have q9 : ((e1 : Int) != 0) = true := by simp; omega
          have q8 : ((e1 : Int) == 0) = false := by simp; omega
          have y1 : U1.cell? ⟨Br, 0, none⟩ = some (.int .i64 0) := cell_blk hbr rfl
          have y2 := free_blk hbr 0
          obtain ⟨U2, hU2⟩ : ∃ U2, U2 = U1.setCell ⟨Br, 0, none⟩ (.int .i64 (e1 : Int)) := ⟨_, rfl⟩
          have HU2 : Hid (U2 = U1.setCell ⟨Br, 0, none⟩ (.int .i64 (e1 : Int))) := hU2
          clear hbl hbr hnz hW1
          gi_wp2
          (try rw [← hU2])
          have hfr : Fr (fun k => k = Br) U1 U2 := by rw [hU2]; exact Fr.set (S := fun k => k = Br) (p := ⟨Br, 0, none⟩) (Fr.refl _ U1) rfl _
          have hz := HZ.out
          have hbd := HBd.out
          have hns : ∀ k, S k ∨ T k → k ≠ Br := fun k hk e => by have := HST.out k hk; omega
          have hBr := lt_blk HB.out.2
          have hlD : l ≠ Br ∧ D ≠ Br := by omega
          refine ⟨⟨(hfr.block l ?_ hlD.1).trans HTwo.out.1, (hfr.block D ?_ hlD.2).trans HTwo.out.2⟩, e1, E.2, _, post.reverse ++ [(⟨N, pl⟩, xv)], HW1.out.other hfr (fun e => hns Br (.inl e) rfl) (fun e => hns Br (.inr e) rfl) (by have := HW.out.lv.below.size; omega), ?_, ?_, HE0.out, ?_⟩
          · have h1 := HTwo.out.1
            have h2 : l < U.heap.size := hbd.2.2.2
            rw [Array.getElem?_eq_getElem h2] at h1
            exact (Array.getElem?_eq_some_iff.1 h1).1
          · have h1 := HTwo.out.2
            have h2 : D < U.heap.size := hbd.2.1
            rw [Array.getElem?_eq_getElem h2] at h1
            exact (Array.getElem?_eq_some_iff.1 h1).1
          · exact HSt.out.more ⟨hfr.os, hfr.tape, hfr.output, hfr.size, fun k hk hn => hfr.block k hk (fun e => hn (.inr (by omega)))⟩ (fun k hk => .inl hk)
          · rw [H4.out, if_pos HE0.out]; simp
          · rw [hU2]; exact set_blk HB.out.2 0 _
      case done =>
        intro D U hD hI hK
        obtain ⟨dd, q1, i1, i2, i3, i4, i5, i6, i7, i8⟩ := hI
        have hq1 : q1 = [] := by
          have := congrArg List.length i3
          simp at this
          exact this
        subst hq1
        have hbg := begin_any i1 NI HNI.out.2 (by have := HQ.out; omega) (by have := HQ.out; omega)
        obtain ⟨E, hE⟩ : ∃ E, appendP dd (nameL NI) [] = E := ⟨_, rfl⟩
        rw [hE] at hbg
        have y0 : U.cell? ⟨Bl, 0, none⟩ = some (dptr p) := cell_blk i7 rfl
        have HI : Hid (StW w S T U S T ∧ remsP d (q.reverse.map (·.1)) = (0, dd, []) ∧ appendP dd (nameL NI) [] = E ∧ U.heap[Br]? = some (.cells #[.int .i64 0] 39 (0, 0)) ∧ U.heap[D]? = some (.deferred (some [])) ∧ wz.heap.size ≤ D) := ⟨i2, i4, hE, i8, hK, hD⟩
        clear hE i1 i2 i3 i4 i5 i6 i7 i8 hD hK
        gi_wp2
        refine ⟨trivial, ?_⟩
        refine (callsIn_wide.2 hbg).mono ?_
        rintro e U1 ⟨rfl, S', T', vs', q', w1, w2, w3⟩
        obtain ⟨j1, j2, j3, j4, j5, j6⟩ := HI.out
        have hz := HZ.out
        have hns : ∀ k, w.heap.size ≤ k → ¬ (S k ∨ T k) := fun k hk e => by have := HST.out k e; omega
        have hbr : U1.heap[Br]? = some (.cells #[.int .i64 0] 39 (0, 0)) := (w3.1.block Br (lt_blk j4) (hns Br (by omega))).trans j4
        have hD1 : U1.heap[D]? = some (.deferred (some [])) := (w3.1.block D (Array.getElem?_eq_some_iff.1 j5).1 (hns D (by omega))).trans j5
        have y1 : U1.cell? ⟨Br, 0, none⟩ = some (.int .i64 0) := cell_blk hbr rfl
        have y2 := free_blk hbr 0
        obtain ⟨e1, he1⟩ : ∃ e1, E.1 = e1 := ⟨_, rfl⟩
        rw [he1]
        have HE : Hid (E.1 = e1) := he1
        have HD1 : Hid (U1.heap[D]? = some (.deferred (some [])) ∧ U1.heap[Br]? = some (.cells #[.int .i64 0] 39 (0, 0))) := ⟨hD1, hbr⟩
        have HW1 : Hid (Wl w0 U1 b m S' E.2 p T' vs' q' ∧ q'.map (·.1) = [⟨NI, [0]⟩] ∧ StW w S T U1 S' T' ∧ ¬ S' Br ∧ ¬ T' Br ∧ ¬ S' D ∧ ¬ T' D) := by
          refine ⟨w1, w2, j1.trans w3, ?_⟩
          have hU : Br < U.heap.size := lt_blk j4
          have hUD : D < U.heap.size := (Array.getElem?_eq_some_iff.1 j5).1
          have hno : ∀ k, w.heap.size ≤ k → k < U.heap.size → ¬ (S' k ∨ T' k) := fun k hk hk2 e => by
            rcases w3.2 k e with e | e
            · exact hns k hk e
            · omega
          exact ⟨fun e => hno Br (by omega) hU (.inl e), fun e => hno Br (by omega) hU (.inr e), fun e => hno D (by omega) hUD (.inl e), fun e => hno D (by omega) hUD (.inr e)⟩
        clear hbg y0 j1 j2 j3 j4 j5 j6 hz hns hbr hD1 he1 w1 w2 w3
        obtain ⟨U2, hU2⟩ : ∃ U2, U2 = U1.setCell ⟨Br, 0, none⟩ (.int .i64 (e1 : Int)) := ⟨_, rfl⟩
        have HU2 : Hid (U2 = U1.setCell ⟨Br, 0, none⟩ (.int .i64 (e1 : Int))) := hU2
        gi_wp2
        rw [← hU2]
        obtain ⟨U3, hU3⟩ : ∃ U3, U3 = U2.putObj D (.deferred none) := ⟨_, rfl⟩
        have hz := HZ.out
        have h0 := HW.out.lv.below.size
        obtain ⟨v1, v2, v3, v4⟩ := HW1.out.1.leave HW1.out.2.2.1 HW1.out.2.2.2 (by omega) (by have := HI.out.2.2.2.2.2; omega) h0 HD1.out.2 HD1.out.1 hU2 hU3
        refine ⟨by simp, .inl ⟨_, _, rfl, run_takeDeferred v4, ?_⟩⟩
        rw [← hU3]
        have y3 : U3.cell? ⟨Br, 0, none⟩ = some (.int .i64 (e1 : Int)) := cell_blk v3 rfl
        have HV : Hid (Wl w0 U3 b m S' E.2 p T' vs' q' ∧ StW w S T U3 S' T') := ⟨v1, v2⟩
        clear v1 v2 v3 v4 hU2 hU3 hz h0
        refine ⟨.int .i64 (e1 : Int), ?_, ?_⟩
        · rw [results_one rfl]
          go_simp
        · have hR := HR2.out
          rw [HI.out.2.1, if_neg (by simp)] at hR
          simp only at hR
          rw [HI.out.2.2.1] at hR
          refine ⟨by rw [← hR, ← HE.out], ?_⟩
          rw [← hR]
          exact ⟨S', T', vs', q', HV.out.1, HW1.out.2.1, HV.out.2⟩
      case left =>
        intro D cc pre x post U hD hxs hX hK
        cases cc with
        | ret =>
          obtain ⟨e1, dd, vs1, q1, x1, x2, x3, x4, x5⟩ := hX
          have HX : Hid (e1 ≠ 0 ∧ remsP d (q.reverse.map (·.1)) = (e1, dd, q1.map (·.1))) := ⟨x4, x3⟩
          obtain ⟨U3, hU3⟩ : ∃ U3, U3 = U.putObj D (.deferred none) := ⟨_, rfl⟩
          have hz := HZ.out
          have h0 := HW.out.lv.below.size
          have hns : ¬ (S D ∨ T D) := fun e => by have := HST.out D e; omega
          obtain ⟨v1, v2, v3⟩ := x1.shut x2 ⟨fun e => hns (.inl e), fun e => hns (.inr e)⟩ (by omega) h0 x5 hK hU3
          have y3 : U3.cell? ⟨Br, 0, none⟩ = some (.int .i64 (e1 : Int)) := cell_blk v3 rfl
          have HV : Hid (Wl w0 U3 b m S dd p T vs1 q1 ∧ StW w S T U3 S T) := ⟨v1, v2⟩
          clear x1 x2 x3 x4 x5 v1 v2 v3 hz h0 hns
          gi_wp2
          refine ⟨by simp, .inl ⟨_, _, rfl, run_takeDeferred hK, ?_⟩⟩
          rw [← hU3]
          clear hU3
          refine ⟨.int .i64 (e1 : Int), ?_, ?_⟩
          · rw [results_one rfl]
            go_simp
          · have hR := HR2.out
            rw [HX.out.2, if_pos HX.out.1] at hR
            refine ⟨by rw [← hR], ?_⟩
            rw [← hR]
            exact ⟨S, T, vs1, q1, HV.out.1, rfl, HV.out.2⟩
        | _ => exact hX.elim
end Go.Proofs.YtkbmblmnhhlicaaGreatDoor
