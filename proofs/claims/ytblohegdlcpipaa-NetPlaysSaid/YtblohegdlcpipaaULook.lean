/- A net: a letter is told; bytes.Clone; walked. -/
import Derived.Test.YtblohegdlcpipaaUHas
import Derived.Test.YtblohegdlcpipaaROrd
import Derived.BigQuiet
import Derived.Deep.QuietTactic
import Derived.Deep.Cut
set_option linter.unusedVariables false
namespace Go.Proofs.Ytblohegdlcpipaa
open Go.RowKit

theorem results_tmp4 {fn : Func} {t u v x : Tmp} (h : fn.results = #[.tmp t, .tmp u, .tmp v, .tmp x]) (tmps : Array Value) (P : Program) (w : World) :
    (results fn tmps).run P w = .ok (.tuple #[tmps.getD t undef, tmps.getD u undef, tmps.getD v undef, tmps.getD x undef]) w := by
  simp [results, h]
theorem nameW {P : Program} {md : Region.Mode} {ops : Array Oper} {C : World → Prop} {last : Nat} {Q : Exit → Act → World → Prop} {f : Nat} {s : Array Bool} {a : Act} {w : World} (h : ∀ w', w' = w → wpAnyC P md ops C last Q f s a w') : wpAnyC P md ops C last Q f s a w := h w rfl
theorem pstepV_call {P : Program} {w : World} {ops : Array Oper} {o : Oper} {c : Act} {K : Act → World → Prop} {Q : Exit → Act → World → Prop} {E : Prop} {R : Ending → World → Prop}
    (hg : o.guard = none) (f : FuncId) (args : Array Value) (hrun : (execOp c.eval o).run P w = .ok (.enter f args) w) (hc : Calls P f args w R)
    (hR : ∀ e w', R e w' → ∃ v, e = .returned v) (hK : ∀ v w', R (.returned v) w' → K (c.put o.dst v) w') :
    if Region.wanted o (yielded ops c.tmps) = true then Oper.wp P o c w K Q else E := by
  have hw : Region.wanted o (yielded ops c.tmps) = true := by simp [Region.wanted, hg]
  rw [if_pos hw]
  unfold Oper.wp
  rw [hrun, Oper.upon_enter]
  refine hc.mono fun e w' h => ?_
  obtain ⟨v, rfl⟩ := hR e w' h
  exact hK v w' h

theorem own_made0 (w : World) (B : Nat) (hB : B ≤ w.heap.size) : OwnB (w.alloc (.cells #[] 5)) B (.slice (some ⟨w.heap.size, 0, none⟩) 0 0) [] := by
  have := World.ownsRow_made (e := 5) (size := 1) (base := B) w #[] 0 hB (by simp [maxLen]) (by simp)
  exact this

theorem ownB_low {w : World} {B B' : Nat} {v : Value} {l : List UInt8} (h : OwnB w B v l) (hB : B' ≤ B) : OwnB w B' v l := by
  refine ⟨h.1, ?_⟩
  rcases h.2 with h1 | ⟨g, cap, cur, h1, h2, h3⟩
  · exact .inl h1
  · exact .inr ⟨g, cap, cur, h1, Nat.le_trans hB h2, h3⟩

set_option maxHeartbeats 4000000 in
set_option maxRecDepth 20000 in
theorem uclone_any {w : World} {a : Option Addr} {n c : Nat} {l : List UInt8} (h : BRow w a n c l) (hn : n ≤ 1000000) :
    Calls Try.prog 25 #[.slice a n c] w fun e w' => ∃ a' c', e = .returned (.slice a' n c') ∧ OwnB w' w.heap.size (.slice a' n c') l ∧ Below w.heap.size w w' := by
  have HNn : Hid (n ≤ 1000000) := hn
  clear hn
  cases a with
  | none =>
    rcases h.2 with ⟨_, h3, h4⟩ | ⟨x, h2, _⟩
    · have hl := h.1
      have hn0 : n = 0 := by omega
      subst h4 hn0
      have hl0 : l = [] := List.eq_nil_of_length_eq_zero hl
      subst hl0
      have hq : ∀ u, (binOp BinOp.eql 32 (.slice none 0 0) (.slice none 0 0)).run Try.prog u = .ok (.bool true) u := fun u => by kernel_rfl
      clear h h3 hl
      go_enter Try.func25, Try.ntmps25
      go_wp2
      go_ret
      exact ⟨none, 0, rfl, World.ownsRow_nil _ _ _ _, Below.refl _ _⟩
    · cases h2
  | some x =>
    have hq : ∀ u, (binOp BinOp.eql 32 (.slice (some x) n c) (.slice none 0 0)).run Try.prog u = .ok (.bool false) u := fun u => by kernel_rfl
    have hb0 : Below w.heap.size w (w.alloc (.cells #[] 5)) := (Below.refl _ w).alloc (Nat.le_refl _) _
    have hown := own_made0 w w.heap.size (Nat.le_refl _)
    have hrow := h.below hb0
    have HB : Hid (Below w.heap.size w (w.alloc (.cells #[] 5))) := hb0
    have HN : Hid (l.length = n) := h.1
    have bn : (n : Int) ≤ 140737488355328 := by have := HNn.out; omega
    clear h hb0
    go_enter Try.func25, Try.ntmps25
    go_wp2_with (at_builtin; refine wpList_copy hown hrow ?c2 ?c3 rfl _ _ rfl rfl rfl ?_)
    case c2 => have := HNn.out; simp; omega
    case c3 => simp
    intro vo w2 hown2 hb2
    (try rw [List.nil_append] at hown2)
    obtain ⟨a', c', hv⟩ := own_slice hown2
    subst hv
    rw [HN.out] at hown2 ⊢
    have HF : Hid (OwnB w2 w.heap.size (.slice a' n c') l ∧ Below w.heap.size w w2) := ⟨hown2, HB.out.trans hb2⟩
    clear hown2 hb2 hown hrow
    go_wp2
    go_ret
    exact ⟨a', c', rfl, HF.out⟩

/-- Where a letter lies. -/
theorem OwnL.at {w : World} {v : Value} {xs : List Lr} (h : OwnL w v xs) {j : Nat} {x : Lr} (hj : xs[j]? = some x) : ∃ g c, v = .slice (some ⟨g, 0, none⟩) xs.length c ∧ xs.length ≤ c ∧ w.cell? ⟨g, j * 3, none⟩ = some (.int .i64 (x.f : Int)) ∧ w.cell? ⟨g, j * 3 + 1, none⟩ = some (.int .i64 (x.t : Int)) ∧ w.cell? ⟨g, j * 3 + 2, none⟩ = some (.slice x.a x.d.length x.c) := by
  have hlt := (List.getElem?_eq_some_iff.1 hj).1
  rcases h.2 with ⟨_, h0⟩ | ⟨g, cap, cur, hv, hB, hg, h1, h2, h3, h4⟩
  · omega
  · have hc : ∀ q, q < 3 → w.cell? ⟨g, j * 3 + q, none⟩ = x.cells[q]? := fun q hq => by
      have h5 := flatL_get xs j x q hj hq
      rw [← h4, List.getElem?_take, if_pos (by omega), Array.getElem?_toList] at h5
      have h6 : j * 3 + q < cur.size := by rw [h3]; have := Nat.mul_le_mul_right 3 h1; omega
      rw [cell_blk hg (Array.getElem?_eq_getElem h6), ← h5, Array.getElem?_eq_getElem h6]
    refine ⟨g, cap, hv, h1, ?_, ?_, ?_⟩
    · have := hc 0 (by omega); simpa [Lr.cells] using this
    · have := hc 1 (by omega); simpa [Lr.cells] using this
    · have := hc 2 (by omega); simpa [Lr.cells] using this

set_option maxHeartbeats 4000000 in
set_option maxRecDepth 20000 in
theorem ulook_no {w : World} {b : Nat} {v : Value} {sd : Nat} {xs : List Lr} (h : NetW w b v sd xs) (i : Int) (hi : hasB xs.length i = false) :
    Calls Try.prog 11 #[nptr b, .int .i64 i] w fun e w' => e = .returned (.tuple #[.int .i64 0, .int .i64 0, .slice none 0 0, .bool false]) ∧ w' = w := by
  have h1 := uhas_any h i
  rw [hi] at h1
  clear h hi
  go_enter Try.func11, Try.ntmps11
  go_wp2_with (fail)
  refine h1.mono ?_
  rintro e w1 ⟨rfl, hw⟩
  subst hw
  clear h1
  go_wp2
  (try simp only [Exit.inBlock, Exit.then])
  refine bodyPost_ret (results_tmp4 rfl _ _ _) rfl ?_
  exact ⟨rfl, rfl⟩

set_option maxHeartbeats 4000000 in
set_option maxRecDepth 20000 in
theorem ulook_yes {w : World} {b : Nat} {v : Value} {sd : Nat} {xs : List Lr} (h : NetW w b v sd xs) {j : Nat} {x : Lr} (hj : xs[j]? = some x) :
    Calls Try.prog 11 #[nptr b, .int .i64 (j : Int)] w fun e w' => ∃ a c, e = .returned (.tuple #[.int .i64 (x.f : Int), .int .i64 (x.t : Int), .slice a x.d.length c, .bool true]) ∧ OwnB w' w.heap.size (.slice a x.d.length c) x.d ∧ Below w.heap.size w w' := by
  have hlt := (List.getElem?_eq_some_iff.1 hj).1
  have h1 := uhas_any h (j : Int)
  rw [hasB_iff.2 ⟨by omega, by omega⟩] at h1
  obtain ⟨g, c, hv, hnc, y0, y1, y2⟩ := h.row.at hj
  have x0 := h.c0
  rw [hv] at x0
  have bn : (xs.length : Int) ≤ 200 := by have := h.few; omega
  have hd := h.dat x (List.mem_of_getElem? hj)
  have hs := h.short x (List.mem_of_getElem? hj)
  obtain ⟨w1, hw1⟩ : ∃ w1, w1 = w.alloc (.cells #[.int .i64 (x.f : Int), .int .i64 (x.t : Int), .slice x.a x.d.length x.c] 57) := ⟨_, rfl⟩
  have hb1 : Below w.heap.size w w1 := by rw [hw1]; exact (Below.refl _ w).alloc (Nat.le_refl _) _
  have hk1 : w1.heap[w.heap.size]? = some (.cells #[.int .i64 (x.f : Int), .int .i64 (x.t : Int), .slice x.a x.d.length x.c] 57 (0, 0)) := by rw [hw1]; exact heap_alloc_new _ _
  have HCl : Hid (∀ u, Below w.heap.size w u → Calls Try.prog 25 #[.slice x.a x.d.length x.c] u fun e w' => ∃ a' c', e = .returned (.slice a' x.d.length c') ∧ OwnB w' u.heap.size (.slice a' x.d.length c') x.d ∧ Below u.heap.size u w') := fun u hu => uclone_any ((own_brow hd).below hu) (by omega)
  have HB1 : Hid (Below w.heap.size w w1) := hb1
  have HS : Hid (w.heap.size ≤ w1.heap.size) := hb1.size
  obtain ⟨n, hn⟩ : ∃ n, xs.length = n := ⟨_, rfl⟩
  obtain ⟨m, hm⟩ : ∃ m, x.d.length = m := ⟨_, rfl⟩
  rw [hn] at x0 bn hlt
  rw [hm] at y2 hw1 hk1 HCl ⊢
  have bj : (j : Int) < (n : Int) := by omega
  have z0 := cell_blk hk1 (i := 0) (v := .int .i64 (x.f : Int)) rfl
  have z1 := cell_blk hk1 (i := 1) (v := .int .i64 (x.t : Int)) rfl
  have z2 := cell_blk hk1 (i := 2) (v := .slice x.a m x.c) rfl
  have X0 : Hid (∀ u, Below w1.heap.size w1 u → u.cell? ⟨w.heap.size, 0, none⟩ = some (.int .i64 (x.f : Int))) := fun u hu => cell_blk (blk_below hk1 hu) rfl
  have X1 : Hid (∀ u, Below w1.heap.size w1 u → u.cell? ⟨w.heap.size, 1, none⟩ = some (.int .i64 (x.t : Int))) := fun u hu => cell_blk (blk_below hk1 hu) rfl
  have X2 : Hid (∀ u, Below w1.heap.size w1 u → u.cell? ⟨w.heap.size, 2, none⟩ = some (.slice x.a m x.c)) := fun u hu => cell_blk (blk_below hk1 hu) rfl
  clear h hj hv hnc hd hs hb1 hk1 hn hlt hm z0 z1 z2
  go_enter Try.func11, Try.ntmps11
  go_wp2_with (fail)
  refine h1.mono ?_
  rintro e w2 ⟨rfl, hw⟩
  replace hw := hw.symm
  subst hw
  clear h1
  go_upto_region 3 with fail
  go_upto_region 4 with fail
  rw [← hw1]
  clear hw1 x0 y0 y1 y2
  refine regionC (fun (w' : World) => Below w1.heap.size w1 w') 10 (by kernel_rfl) ?_
  (try (change wpAnyC _ _ _ _ _ _ _ _ _ (World.drew _)))
  refine nameW (fun W0 hW0 => ?_)
  have hC : Hid (Below w1.heap.size w1 W0) := by
    show Below _ _ _; rw [hW0]; exact (Below.refl _ _).drew
  clear hW0
  refine takeC (i := 0) (v := ?_) rfl (by kernel_rfl) (by kernel_rfl) (by kernel_rfl) (by kernel_rfl) (by kernel_rfl) (fun _ _ _ h => h) hC.out (Or.inl ⟨by rfl, ?_⟩) ?_
  rotate_left 1
  · intro w' hw'
    skip
    go_simp
    first | done | with_reducible rfl
  (try simp only [Act.put])
  (try simp only [List.setIfInBounds_toArray])
  (try simp only [List.set_cons_succ])
  (try simp only [List.set_cons_zero])
  refine takeC (i := 1) (v := ?_) rfl (by kernel_rfl) (by kernel_rfl) (by kernel_rfl) (by kernel_rfl) (by kernel_rfl) (fun _ _ _ h => h) hC.out (Or.inl ⟨by rfl, ?_⟩) ?_
  rotate_left 1
  · intro w' hw'
    have z := X0.out w' hw'
    go_simp
    first | done | with_reducible rfl
  (try simp only [Act.put])
  (try simp only [List.setIfInBounds_toArray])
  (try simp only [List.set_cons_succ])
  (try simp only [List.set_cons_zero])
  refine takeC (i := 2) (v := ?_) rfl (by kernel_rfl) (by kernel_rfl) (by kernel_rfl) (by kernel_rfl) (by kernel_rfl) (fun _ _ _ h => h) hC.out (Or.inl ⟨by rfl, ?_⟩) ?_
  rotate_left 1
  · intro w' hw'
    skip
    go_simp
    first | done | with_reducible rfl
  (try simp only [Act.put])
  (try simp only [List.setIfInBounds_toArray])
  (try simp only [List.set_cons_succ])
  (try simp only [List.set_cons_zero])
  refine takeC (i := 3) (v := ?_) rfl (by kernel_rfl) (by kernel_rfl) (by kernel_rfl) (by kernel_rfl) (by kernel_rfl) (fun _ _ _ h => h) hC.out (Or.inl ⟨by rfl, ?_⟩) ?_
  rotate_left 1
  · intro w' hw'
    have z := X1.out w' hw'
    go_simp
    first | done | with_reducible rfl
  (try simp only [Act.put])
  (try simp only [List.setIfInBounds_toArray])
  (try simp only [List.set_cons_succ])
  (try simp only [List.set_cons_zero])
  refine takeC (i := 4) (v := ?_) rfl (by kernel_rfl) (by kernel_rfl) (by kernel_rfl) (by kernel_rfl) (by kernel_rfl) (fun _ _ _ h => h) hC.out (Or.inl ⟨by rfl, ?_⟩) ?_
  rotate_left 1
  · intro w' hw'
    skip
    go_simp
    first | done | with_reducible rfl
  (try simp only [Act.put])
  (try simp only [List.setIfInBounds_toArray])
  (try simp only [List.set_cons_succ])
  (try simp only [List.set_cons_zero])
  refine takeC (i := 5) (v := ?_) rfl (by kernel_rfl) (by kernel_rfl) (by kernel_rfl) (by kernel_rfl) (by kernel_rfl) (fun _ _ _ h => h) hC.out (Or.inl ⟨by rfl, ?_⟩) ?_
  rotate_left 1
  · intro w' hw'
    have z := X2.out w' hw'
    go_simp
    first | done | with_reducible rfl
  (try simp only [Act.put])
  (try simp only [List.setIfInBounds_toArray])
  (try simp only [List.set_cons_succ])
  (try simp only [List.set_cons_zero])
  have HC0 : Hid (Calls Try.prog 25 #[.slice x.a m x.c] W0 fun e w' => ∃ a' c', e = .returned (.slice a' m c') ∧ OwnB w' W0.heap.size (.slice a' m c') x.d ∧ Below W0.heap.size W0 w') := HCl.out W0 (HB1.out.trans (hC.out.mono HB1.out.size))
  refine readyC (rs := [6]) (by kernel_rfl) (by simp) ?_
  refine ReadyC.cons rfl (fun K hK => ?_) ReadyC.nil
  refine pstepV_call rfl 25 #[.slice x.a m x.c] (by kernel_rfl) HC0.out (fun e' w' h => ?_) ?_
  · obtain ⟨a', c', rfl, _⟩ := h
    exact ⟨_, rfl⟩
  intro v1 W2 hq
  obtain ⟨a', c', hv1, hown, hb⟩ := hq
  have hv1' := Ending.returned.inj hv1
  subst hv1'
  have hC2 : Below w1.heap.size w1 W2 := hC.out.trans (hb.mono hC.out.size)
  have HF : Hid (OwnB W2 w.heap.size (.slice a' m c') x.d ∧ Below w.heap.size w W2) := ⟨ownB_low hown (Nat.le_trans HB1.out.size hC.out.size), HB1.out.trans (hC2.mono HB1.out.size)⟩
  refine hK _ _ (fun _ => hC2) ?_
  replace hC : Hid (Below w1.heap.size w1 W2) := hC2
  clear hK K hv1 hown hb hC2 HC0 HCl
  (try simp only [Act.put])
  (try simp only [List.setIfInBounds_toArray])
  (try simp only [List.set_cons_succ])
  (try simp only [List.set_cons_zero])
  refine readyC (rs := [7]) (by kernel_rfl) (by simp) ?_
  refine ReadyC.cons rfl (fun K hK => ?_) ReadyC.nil
  go_simp
  refine hK _ _ (fun _ => hC.out) ?_
  clear hK K
  (try simp only [Act.put])
  (try simp only [List.setIfInBounds_toArray])
  (try simp only [List.set_cons_succ])
  (try simp only [List.set_cons_zero])
  refine readyC (rs := [8]) (by kernel_rfl) (by simp) ?_
  refine ReadyC.cons rfl (fun K hK => ?_) ReadyC.nil
  go_simp
  refine hK _ _ (fun _ => hC.out) ?_
  clear hK K
  (try simp only [Act.put])
  (try simp only [List.setIfInBounds_toArray])
  (try simp only [List.set_cons_succ])
  (try simp only [List.set_cons_zero])
  refine readyC (rs := [9]) (by kernel_rfl) (by simp) ?_
  refine ReadyC.cons rfl (fun K hK => ?_) ReadyC.nil
  go_simp
  refine hK _ _ (fun _ => hC.out) ?_
  clear hK K
  (try simp only [Act.put])
  (try simp only [List.setIfInBounds_toArray])
  (try simp only [List.set_cons_succ])
  (try simp only [List.set_cons_zero])
  refine readyC (rs := [10]) (by kernel_rfl) (by simp) ?_
  refine ReadyC.cons rfl (fun K hK => ?_) ReadyC.nil
  go_simp
  refine hK _ _ (fun _ => hC.out) ?_
  clear hK K
  (try simp only [Act.put])
  (try simp only [List.setIfInBounds_toArray])
  (try simp only [List.set_cons_succ])
  (try simp only [List.set_cons_zero])
  refine doneC (by kernel_rfl) ?_ _
  go_wp2
  (try simp only [Exit.inBlock, Exit.then])
  refine bodyPost_ret (results_tmp4 rfl _ _ _) rfl ?_
  exact ⟨a', c', rfl, HF.out⟩
end Go.Proofs.Ytblohegdlcpipaa
