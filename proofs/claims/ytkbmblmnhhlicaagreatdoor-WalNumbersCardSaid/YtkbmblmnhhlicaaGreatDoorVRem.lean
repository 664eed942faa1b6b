/- The last segment is removed: removeLast, walked. -/
import Derived.Test.YtkbmblmnhhlicaaGreatDoorVDrop
set_option linter.unusedVariables false
namespace Go.Proofs.YtkbmblmnhhlicaaGreatDoor
open Go.RowKit

/-- What removeLast answers, the disk and the segments behind it. -/
def remP (d : Dk) (L : List Sg) : Nat × Dk × List Sg :=
  if (removeP d (nameL (lastS L).num)).1 ≠ 0 then ((removeP d (nameL (lastS L).num)).1, (removeP d (nameL (lastS L).num)).2, L) else (0, (removeP d (nameL (lastS L).num)).2, L.dropLast)

theorem ownQ_front {w : World} {B g n c : Nat} {q : Sgs} {x : Sg × Value} (h : OwnQ w B (.slice (some ⟨g, 0, none⟩) n c) (q ++ [x])) : OwnQ w B (.slice (some ⟨g, 0, none⟩) q.length c) q := by
  have hl : (sgCells q).length = q.length * 2 := by
    have := h.1
    have h2 : sgCells (q ++ [x]) = sgCells q ++ sgCells [x] := by simp [sgCells]
    rw [h2] at this
    simp [sgCells] at this ⊢
    omega
  rcases h.2 with ⟨h1, _⟩ | ⟨g', cap, cur, hv, hB, hg, h1, h2, h3, h4⟩
  · cases h1
  · have ea : g = g' := congrArg (fun v => match v with | Value.slice (some a) _ _ => a.block | _ => g) hv
    have ec : c = cap := congrArg (fun v => match v with | Value.slice _ _ c => c | _ => c) hv
    subst ea ec
    rw [List.length_append] at h1 h4
    refine ⟨hl, .inr ⟨g, c, cur, rfl, hB, hg, by simp at h1; omega, h2, h3, ?_⟩⟩
    have e1 : sgCells q = (sgCells (q ++ [x])).take (q.length * 2) := by
      have h5 : sgCells (q ++ [x]) = sgCells q ++ sgCells [x] := by simp [sgCells]
      rw [h5, ← hl, List.take_left' rfl]
    rw [e1, ← h4, List.take_take, Nat.min_eq_left (by simp; omega)]
/-- The last segment is taken out of a log's row. -/
theorem Wl.rem {w0 w w2 : World} {b m : Nat} {S T : Nat → Prop} {d : Dk} {p g n c : Nat} {x : Sg × Value} {q : Sgs} (h : Wl w0 w b m S d p T (.slice (some ⟨g, 0, none⟩) n c) (q ++ [x])) (hw : w2 = w.setCell ⟨p, 1, none⟩ (.slice (some ⟨g, 0, none⟩) q.length c)) :
    Wl w0 w2 b m S d p T (.slice (some ⟨g, 0, none⟩) q.length c) q ∧ StW w S T w2 S T := by
  obtain ⟨cu, hcu⟩ := ownQ_type h.lg.row (g := g) rfl
  have hgp : p ≠ g := fun e => ne_types hcu h.lg.blk (by decide) e.symm
  have hFr : Fr T w w2 := by
    rw [hw]
    exact Fr.set (p := ⟨p, 1, none⟩) (Fr.refl _ w) h.lg.tp _
  have hpl : ∀ y ∈ q, OwnI w2 0 y.2 y.1.pl := fun y hy => ownI_keep (h.lg.pls y (by simp [hy])) (fun k hk => by
    obtain ⟨cu2, hc2⟩ := ownI_type (h.lg.pls y (by simp [hy])) hk
    rw [hw, set_other _ (ne_types hc2 h.lg.blk (by decide))])
  obtain ⟨sl, hd⟩ := h.lv.dk
  refine ⟨⟨⟨⟨sl, hd.keep hFr.size (fun k hk => hFr.block k (hd.lt k hk) (fun e => h.ap k e hk))⟩, h.lv.ge, h.lv.below.trans (hFr.below h.ge h.lv.below.size)⟩, ?_, h.ge, h.ap, h.tb⟩, ⟨hFr.os, hFr.tape, hFr.output, hFr.size, fun k hk hn => hFr.block k hk (fun e => hn (.inr e))⟩, fun k hk => .inl hk⟩
  exact { blk := by rw [hw]; exact set_blk h.lg.blk 1 _
          row := ownQ_keep (ownQ_front h.lg.row) (fun k hk => by
            obtain rfl : g = k := Option.some.inj hk
            rw [hw, set_other _ (Ne.symm hgp)])
          pls := hpl
          apart := (List.pairwise_append.1 h.lg.apart).1
          tp := h.lg.tp
          tr := fun k hk => h.lg.tr k (ob_same hk)
          ts := fun y hy => h.lg.ts y (by simp [hy])
          lt := fun k hk => Nat.lt_of_lt_of_le (h.lg.lt k hk) hFr.size
          ne := fun y hy => h.lg.ne y (by simp [hy])
          num := fun y hy => h.lg.num y (by simp [hy])
          len := fun y hy => h.lg.len y (by simp [hy])
          few := by have := h.lg.few; rw [List.length_append] at this; omega }

set_option maxHeartbeats 8000000 in
set_option maxRecDepth 40000 in
theorem rem_ex {w0 w : World} {b m : Nat} {S : Nat → Prop} {d : Dk} {p g n c : Nat} {T : Nat → Prop} {q : Sgs} {x : Sg × Value} (h : Wl w0 w b m S d p T (.slice (some ⟨g, 0, none⟩) n c) (q ++ [x])) :
    Calls Tryz.prog 71 #[dptr p] w fun e w' => e = .returned (.int .i64 ((removeP d (nameL x.1.num)).1 : Int)) ∧ StW w S T w' S T ∧
      (((removeP d (nameL x.1.num)).1 = 0 ∧ Wl w0 w' b m S (removeP d (nameL x.1.num)).2 p T (.slice (some ⟨g, 0, none⟩) q.length c) q) ∨ ((removeP d (nameL x.1.num)).1 ≠ 0 ∧ Wl w0 w' b m S (removeP d (nameL x.1.num)).2 p T (.slice (some ⟨g, 0, none⟩) n c) (q ++ [x]))) := by
  have hn : (q ++ [x]).length = n := by
    rcases h.lg.row.2 with ⟨h1, _⟩ | ⟨g', cap, cur, hv, _⟩
    · cases h1
    · exact (congrArg (fun v => match v with | Value.slice _ n _ => n | _ => 0) hv).symm
  obtain ⟨g', c', hvs, hc, hT, hcm⟩ := h.lg.form (by simp)
  have ec : c = c' := congrArg (fun v => match v with | Value.slice _ _ c => c | _ => c) hvs
  rw [hn, ← ec] at hc
  have bn : (n : Int) ≤ 1048576 := by have := h.lg.few; omega
  obtain ⟨⟨N, pl⟩, xv⟩ := x
  obtain ⟨pg, pc, hxv, _⟩ := ownI_form (h.lg.pls (⟨N, pl⟩, xv) (by simp)) (h.lg.ne (⟨N, pl⟩, xv) (by simp))
  have hnum : N ≤ 999999 := h.lg.num (⟨N, pl⟩, xv) (by simp)
  simp only at hxv
  subst hxv
  obtain ⟨D, hD⟩ : ∃ D, removeP d (nameL N) = D := ⟨_, rfl⟩
  simp only at hD ⊢
  rw [hD]
  have HD : Hid (removeP d (nameL N) = D) := hD
  have HW : Hid (Wl w0 w b m S d p T (.slice (some ⟨g, 0, none⟩) n c) (q ++ [(⟨N, pl⟩, .slice (some ⟨pg, 0, none⟩) pl.length pc)])) := h
  have HN : Hid (q.length + 1 = n ∧ n ≤ c) := ⟨by simpa using hn, hc⟩
  have HPS : Hid (w.heap[p]? = some (.cells #[dptr b, .slice (some ⟨g, 0, none⟩) n c] 99 (0, 0))) := h.lg.blk
  have n0 : ∀ w' : World, w'.heap[p]? = some (.cells #[dptr b, .slice (some ⟨g, 0, none⟩) n c] 99 (0, 0)) → w'.cell? ⟨p, 0, none⟩ = some (dptr b) := fun w' hw => cell_blk hw rfl
  have FN : Hid (∀ u, Below w.heap.size w u → Calls Tryz.prog 69 #[sgV N (.slice (some ⟨pg, 0, none⟩) pl.length pc)] u fun e w' => e = .returned (strN (nameL N)) ∧ Below u.heap.size u w') := fun u hu => name_any (HW.out.same hu).tabs _ (by omega) _
  have FL : Hid (∀ u, Below w.heap.size w u → Calls Tryz.prog 64 #[dptr p] u fun e w' => e = .returned (sgV N (.slice (some ⟨pg, 0, none⟩) pl.length pc)) ∧ Below u.heap.size u w') := fun u hu => last_any (HW.out.same hu).lg
  clear h hc hn hnum hD hT hvs ec hcm
  go_enter Tryz.func71, Tryz.ntmps71
  go_wp2_with (fail)
  refine regionC (fun (w' : World) => w'.heap[p]? = some (.cells #[dptr b, .slice (some ⟨g, 0, none⟩) n c] 99 (0, 0))) 8 (by kernel_rfl) ?_
  (try (change wpAnyC _ _ _ _ _ _ _ _ _ (World.drew _)))
  refine nameW (fun W0 hW0 => ?_)
  have hC : Hid (W0.heap[p]? = some (.cells #[dptr b, .slice (some ⟨g, 0, none⟩) n c] 99 (0, 0))) := by show _ = _; rw [hW0]; exact HPS.out
  have hB : Hid (Below w.heap.size w W0) := by show Below _ _ _; rw [hW0]; exact ⟨rfl, rfl, rfl, Nat.le_refl _, fun _ _ => rfl⟩
  clear hW0
  refine takeC (i := 0) (v := ?_) rfl (by kernel_rfl) (by kernel_rfl) (by kernel_rfl) (by kernel_rfl) (by kernel_rfl) (fun _ _ _ h => h) hC.out (Or.inl ⟨by rfl, ?_⟩) ?_
  rotate_left 1
  · intro w' hw'
    skip
    go_simp
    first | done | with_reducible rfl
  (try simp only [Act.put])
  (try simp only [List.setIfInBounds_toArray])
  (try simp only [List.set_cons_succ])
  (try simp only [List.set_cons_zero])
  refine takeC (i := 1) (v := ?_) rfl (by kernel_rfl) (by kernel_rfl) (by kernel_rfl) (by kernel_rfl) (by kernel_rfl) (fun _ _ _ h => h) hC.out (Or.inl ⟨by rfl, ?_⟩) ?_
  rotate_left 1
  · intro w' hw'
    skip
    go_simp
    first | done | with_reducible rfl
  (try simp only [Act.put])
  (try simp only [List.setIfInBounds_toArray])
  (try simp only [List.set_cons_succ])
  (try simp only [List.set_cons_zero])
  refine takeC (i := 2) (v := ?_) rfl (by kernel_rfl) (by kernel_rfl) (by kernel_rfl) (by kernel_rfl) (by kernel_rfl) (fun _ _ _ h => h) hC.out (Or.inl ⟨by rfl, ?_⟩) ?_
  rotate_left 1
  · intro w' hw'
    skip
    go_simp
    first | done | with_reducible rfl
  (try simp only [Act.put])
  (try simp only [List.setIfInBounds_toArray])
  (try simp only [List.set_cons_succ])
  (try simp only [List.set_cons_zero])
  refine takeC (i := 3) (v := ?_) rfl (by kernel_rfl) (by kernel_rfl) (by kernel_rfl) (by kernel_rfl) (by kernel_rfl) (fun _ _ _ h => h) hC.out (Or.inl ⟨by rfl, ?_⟩) ?_
  rotate_left 1
  · intro w' hw'
    have z0 := n0 w' hw'
    go_simp
    first | done | with_reducible rfl
  (try simp only [Act.put])
  (try simp only [List.setIfInBounds_toArray])
  (try simp only [List.set_cons_succ])
  (try simp only [List.set_cons_zero])
  refine takeC (i := 4) (v := ?_) rfl (by kernel_rfl) (by kernel_rfl) (by kernel_rfl) (by kernel_rfl) (by kernel_rfl) (fun _ _ _ h => h) hC.out (Or.inl ⟨by rfl, ?_⟩) ?_
  rotate_left 1
  · intro w' hw'
    skip
    go_simp
    first | done | with_reducible rfl
  (try simp only [Act.put])
  (try simp only [List.setIfInBounds_toArray])
  (try simp only [List.set_cons_succ])
  (try simp only [List.set_cons_zero])
  refine readyC (rs := [5]) (by kernel_rfl) (by simp) ?_
  refine ReadyC.cons rfl (fun K hK => ?_) ReadyC.nil
  refine stepV_call rfl 64 #[dptr p] (by kernel_rfl) (FL.out W0 hB.out) (fun e w' h => ⟨_, h.1⟩) ?_
  intro v1 W1 hq
  obtain ⟨hv1, hq⟩ := hq
  have hv1' := Ending.returned.inj hv1
  subst hv1'
  have hq2 : Below w.heap.size w W1 := hB.out.trans (hq.mono hB.out.size)
  have hq3 : W1.heap[p]? = some (.cells #[dptr b, .slice (some ⟨g, 0, none⟩) n c] 99 (0, 0)) := (hq2.block _ (lt_blk HPS.out)).trans HPS.out
  refine hK _ _ (fun _ => hq3) ?_
  clear hK K
  (try simp only [Act.put])
  (try simp only [List.setIfInBounds_toArray])
  (try simp only [List.set_cons_succ])
  (try simp only [List.set_cons_zero])
  replace hC : Hid (W1.heap[p]? = some (.cells #[dptr b, .slice (some ⟨g, 0, none⟩) n c] 99 (0, 0))) := hq3
  replace hB : Hid (Below w.heap.size w W1) := hq2
  clear hv1 hq hq2 hq3
  refine readyC (rs := [6]) (by kernel_rfl) (by simp) ?_
  refine ReadyC.cons rfl (fun K hK => ?_) ReadyC.nil
  refine stepV_call rfl 69 #[sgV N (.slice (some ⟨pg, 0, none⟩) pl.length pc)] (by kernel_rfl) (FN.out W1 hB.out) (fun e w' h => ⟨_, h.1⟩) ?_
  intro v1 W2 hq
  obtain ⟨hv1, hq⟩ := hq
  have hv1' := Ending.returned.inj hv1
  subst hv1'
  have hq2 : Below w.heap.size w W2 := hB.out.trans (hq.mono hB.out.size)
  have hq3 : W2.heap[p]? = some (.cells #[dptr b, .slice (some ⟨g, 0, none⟩) n c] 99 (0, 0)) := (hq2.block _ (lt_blk HPS.out)).trans HPS.out
  refine hK _ _ (fun _ => hq3) ?_
  clear hK K
  (try simp only [Act.put])
  (try simp only [List.setIfInBounds_toArray])
  (try simp only [List.set_cons_succ])
  (try simp only [List.set_cons_zero])
  replace hC : Hid (W2.heap[p]? = some (.cells #[dptr b, .slice (some ⟨g, 0, none⟩) n c] 99 (0, 0))) := hq3
  replace hB : Hid (Below w.heap.size w W2) := hq2
  clear hv1 hq hq2 hq3
  refine readyC (rs := [7]) (by kernel_rfl) (by simp) ?_
  refine ReadyC.cons rfl (fun K hK => ?_) ReadyC.nil
  refine stepV_call rfl 73 #[dptr b, strN (nameL N)] (by kernel_rfl) (removeL (HW.out.same hB.out).lv (nameL N) (by rw [nameL_length]; omega)) (fun e w' h => ⟨_, h.1⟩) ?_
  intro v9 W3 hq
  obtain ⟨hv9, hlv, hst⟩ := hq
  have hv9' := Ending.returned.inj hv9
  subst hv9'
  rw [HD.out] at hlv ⊢
  obtain ⟨hwl, hstw⟩ := (HW.out.same hB.out).disk hlv hst
  have hkk : W3.heap[p]? = some (.cells #[dptr b, .slice (some ⟨g, 0, none⟩) n c] 99 (0, 0)) := hwl.lg.blk
  refine hK _ _ (fun _ => hkk) ?_
  clear hK K
  (try simp only [Act.put])
  (try simp only [List.setIfInBounds_toArray])
  (try simp only [List.set_cons_succ])
  (try simp only [List.set_cons_zero])
  replace hC : Hid (W3.heap[p]? = some (.cells #[dptr b, .slice (some ⟨g, 0, none⟩) n c] 99 (0, 0))) := hkk
  have HW9 : Hid (Wl w0 W3 b m S D.2 p T (.slice (some ⟨g, 0, none⟩) n c) (q ++ [(⟨N, pl⟩, .slice (some ⟨pg, 0, none⟩) pl.length pc)])) := hwl
  have HS9 : Hid (StW w S T W3 S T) := (StW.same S T hB.out).trans hstw
  clear hkk hv9 hlv hst hwl hstw hB
  refine readyC (rs := [8]) (by kernel_rfl) (by simp) ?_
  refine ReadyC.cons rfl (fun K hK => ?_) ReadyC.nil
  go_simp
  refine hK _ _ (fun _ => hC.out) ?_
  clear hK K
  (try simp only [Act.put])
  (try simp only [List.setIfInBounds_toArray])
  (try simp only [List.set_cons_succ])
  (try simp only [List.set_cons_zero])
  refine doneC (by kernel_rfl) ?_ _
  clear n0 FN FL
  obtain ⟨w9, hw9⟩ : ∃ w9, w9 = W3 := ⟨_, rfl⟩
  subst hw9
  obtain ⟨e9, he9⟩ : ∃ e9, D.1 = e9 := ⟨_, rfl⟩
  rw [he9]
  have HE : Hid (D.1 = e9) := he9
  by_cases hz : e9 = 0
  · subst hz
    have HPS : Hid (w9.heap[p]? = some (.cells #[dptr b, .slice (some ⟨g, 0, none⟩) n c] 99 (0, 0))) := HW9.out.lg.blk
    have n1 : ∀ w' : World, w'.heap[p]? = some (.cells #[dptr b, .slice (some ⟨g, 0, none⟩) n c] 99 (0, 0)) → w'.cell? ⟨p, 1, none⟩ = some (.slice (some ⟨g, 0, none⟩) n c) := fun w' hw => cell_blk hw rfl
    obtain ⟨nq, hnq⟩ : ∃ nq, q.length = nq := ⟨_, rfl⟩
    have HQl : Hid (q.length = nq) := hnq
    have enq : (n : Int) - 1 = (nq : Int) := by have := HN.out; omega
    have ewr : IntKind.i64.wrap (nq : Int) = (nq : Int) := by rw [IntKind.wrap_i64]; have := HN.out; omega
    have bnc : (nq : Int) ≤ (c : Int) := by have := HN.out; omega
    have z16 := seg_cut (some ⟨g, 0, none⟩) n c nq (by have := HN.out; omega)
    clear hC hnq he9
    go_wp2_with (fail)
    refine regionC (fun (w' : World) => w'.heap[p]? = some (.cells #[dptr b, .slice (some ⟨g, 0, none⟩) n c] 99 (0, 0))) 14 (by kernel_rfl) ?_
    (try (change wpAnyC _ _ _ _ _ _ _ _ _ (World.drew _)))
    refine nameW (fun W0 hW0 => ?_)
    have hC : Hid (W0.heap[p]? = some (.cells #[dptr b, .slice (some ⟨g, 0, none⟩) n c] 99 (0, 0))) := by show _ = _; rw [hW0]; exact HPS.out
    have hB : Hid (Below w9.heap.size w9 W0) := by show Below _ _ _; rw [hW0]; exact ⟨rfl, rfl, rfl, Nat.le_refl _, fun _ _ => rfl⟩
    clear hW0
    refine takeC (i := 0) (v := ?_) rfl (by kernel_rfl) (by kernel_rfl) (by kernel_rfl) (by kernel_rfl) (by kernel_rfl) (fun _ _ _ h => h) hC.out (Or.inl ⟨by rfl, ?_⟩) ?_
    rotate_left 1
    · intro w' hw'
      skip
      go_simp
      first | done | with_reducible rfl
    (try simp only [Act.put])
    (try simp only [List.setIfInBounds_toArray])
    (try simp only [List.set_cons_succ])
    (try simp only [List.set_cons_zero])
    refine takeC (i := 1) (v := ?_) rfl (by kernel_rfl) (by kernel_rfl) (by kernel_rfl) (by kernel_rfl) (by kernel_rfl) (fun _ _ _ h => h) hC.out (Or.inl ⟨by rfl, ?_⟩) ?_
    rotate_left 1
    · intro w' hw'
      skip
      go_simp
      first | done | with_reducible rfl
    (try simp only [Act.put])
    (try simp only [List.setIfInBounds_toArray])
    (try simp only [List.set_cons_succ])
    (try simp only [List.set_cons_zero])
    refine takeC (i := 2) (v := ?_) rfl (by kernel_rfl) (by kernel_rfl) (by kernel_rfl) (by kernel_rfl) (by kernel_rfl) (fun _ _ _ h => h) hC.out (Or.inl ⟨by rfl, ?_⟩) ?_
    rotate_left 1
    · intro w' hw'
      skip
      go_simp
      first | done | with_reducible rfl
    (try simp only [Act.put])
    (try simp only [List.setIfInBounds_toArray])
    (try simp only [List.set_cons_succ])
    (try simp only [List.set_cons_zero])
    refine takeC (i := 3) (v := ?_) rfl (by kernel_rfl) (by kernel_rfl) (by kernel_rfl) (by kernel_rfl) (by kernel_rfl) (fun _ _ _ h => h) hC.out (Or.inl ⟨by rfl, ?_⟩) ?_
    rotate_left 1
    · intro w' hw'
      skip
      go_simp
      first | done | with_reducible rfl
    (try simp only [Act.put])
    (try simp only [List.setIfInBounds_toArray])
    (try simp only [List.set_cons_succ])
    (try simp only [List.set_cons_zero])
    refine takeC (i := 4) (v := ?_) rfl (by kernel_rfl) (by kernel_rfl) (by kernel_rfl) (by kernel_rfl) (by kernel_rfl) (fun _ _ _ h => h) hC.out (Or.inl ⟨by rfl, ?_⟩) ?_
    rotate_left 1
    · intro w' hw'
      have z0 := n1 w' hw'
      go_simp
      first | done | with_reducible rfl
    (try simp only [Act.put])
    (try simp only [List.setIfInBounds_toArray])
    (try simp only [List.set_cons_succ])
    (try simp only [List.set_cons_zero])
    refine takeC (i := 5) (v := ?_) rfl (by kernel_rfl) (by kernel_rfl) (by kernel_rfl) (by kernel_rfl) (by kernel_rfl) (fun _ _ _ h => h) hC.out (Or.inl ⟨by rfl, ?_⟩) ?_
    rotate_left 1
    · intro w' hw'
      skip
      go_simp
      first | done | with_reducible rfl
    (try simp only [Act.put])
    (try simp only [List.setIfInBounds_toArray])
    (try simp only [List.set_cons_succ])
    (try simp only [List.set_cons_zero])
    refine takeC (i := 6) (v := ?_) rfl (by kernel_rfl) (by kernel_rfl) (by kernel_rfl) (by kernel_rfl) (by kernel_rfl) (fun _ _ _ h => h) hC.out (Or.inl ⟨by rfl, ?_⟩) ?_
    rotate_left 1
    · intro w' hw'
      skip
      go_simp
      first | done | with_reducible rfl
    (try simp only [Act.put])
    (try simp only [List.setIfInBounds_toArray])
    (try simp only [List.set_cons_succ])
    (try simp only [List.set_cons_zero])
    refine takeC (i := 7) (v := ?_) rfl (by kernel_rfl) (by kernel_rfl) (by kernel_rfl) (by kernel_rfl) (by kernel_rfl) (fun _ _ _ h => h) hC.out (Or.inl ⟨by rfl, ?_⟩) ?_
    rotate_left 1
    · intro w' hw'
      skip
      go_simp
      first | done | with_reducible rfl
    (try simp only [Act.put])
    (try simp only [List.setIfInBounds_toArray])
    (try simp only [List.set_cons_succ])
    (try simp only [List.set_cons_zero])
    refine takeC (i := 8) (v := ?_) rfl (by kernel_rfl) (by kernel_rfl) (by kernel_rfl) (by kernel_rfl) (by kernel_rfl) (fun _ _ _ h => h) hC.out (Or.inl ⟨by rfl, ?_⟩) ?_
    rotate_left 1
    · intro w' hw'
      have z0 := n1 w' hw'
      go_simp
      first | done | with_reducible rfl
    (try simp only [Act.put])
    (try simp only [List.setIfInBounds_toArray])
    (try simp only [List.set_cons_succ])
    (try simp only [List.set_cons_zero])
    refine takeC (i := 9) (v := ?_) rfl (by kernel_rfl) (by kernel_rfl) (by kernel_rfl) (by kernel_rfl) (by kernel_rfl) (fun _ _ _ h => h) hC.out (Or.inl ⟨by rfl, ?_⟩) ?_
    rotate_left 1
    · intro w' hw'
      skip
      go_simp
      first | done | with_reducible rfl
    (try simp only [Act.put])
    (try simp only [List.setIfInBounds_toArray])
    (try simp only [List.set_cons_succ])
    (try simp only [List.set_cons_zero])
    refine takeC (i := 10) (v := ?_) rfl (by kernel_rfl) (by kernel_rfl) (by kernel_rfl) (by kernel_rfl) (by kernel_rfl) (fun _ _ _ h => h) hC.out (Or.inl ⟨by rfl, ?_⟩) ?_
    rotate_left 1
    · intro w' hw'
      skip
      go_simp
      first | done | with_reducible rfl
    (try simp only [Act.put])
    (try simp only [List.setIfInBounds_toArray])
    (try simp only [List.set_cons_succ])
    (try simp only [List.set_cons_zero])
    refine takeC (i := 11) (v := ?_) rfl (by kernel_rfl) (by kernel_rfl) (by kernel_rfl) (by kernel_rfl) (by kernel_rfl) (fun _ _ _ h => h) hC.out (Or.inl ⟨by rfl, ?_⟩) ?_
    rotate_left 1
    · intro w' hw'
      skip
      go_simp
      first | done | with_reducible rfl
    (try simp only [Act.put])
    (try simp only [List.setIfInBounds_toArray])
    (try simp only [List.set_cons_succ])
    (try simp only [List.set_cons_zero])
    refine takeC (i := 12) (v := ?_) rfl (by kernel_rfl) (by kernel_rfl) (by kernel_rfl) (by kernel_rfl) (by kernel_rfl) (fun _ _ _ h => h) hC.out (Or.inl ⟨by rfl, ?_⟩) ?_
    rotate_left 1
    · intro w' hw'
      skip
      go_simp
      first | done | with_reducible rfl
    (try simp only [Act.put])
    (try simp only [List.setIfInBounds_toArray])
    (try simp only [List.set_cons_succ])
    (try simp only [List.set_cons_zero])
    refine takeC (i := 13) (v := ?_) rfl (by kernel_rfl) (by kernel_rfl) (by kernel_rfl) (by kernel_rfl) (by kernel_rfl) (fun _ _ _ h => h) hC.out (Or.inl ⟨by rfl, ?_⟩) ?_
    rotate_left 1
    · intro w' hw'
      skip
      go_simp
      first | done | with_reducible rfl
    (try simp only [Act.put])
    (try simp only [List.setIfInBounds_toArray])
    (try simp only [List.set_cons_succ])
    (try simp only [List.set_cons_zero])
    refine readyC (rs := [14]) (by kernel_rfl) (by simp) ?_
    refine ReadyC.cons rfl (fun K hK => ?_) ReadyC.nil
    have y1 := n1 W0 hC.out
    have y2 := free_blk hC.out 1
    go_simp
    refine hK _ _ (fun h => absurd rfl h) ?_
    clear hK K
    (try simp only [Act.put])
    (try simp only [List.setIfInBounds_toArray])
    (try simp only [List.set_cons_succ])
    (try simp only [List.set_cons_zero])
    refine nameW (fun W1 hW => ?_)
    have HX : Hid (Wl w0 W1 b m S D.2 p T (.slice (some ⟨g, 0, none⟩) q.length c) q ∧ StW w S T W1 S T) := by
      obtain ⟨x1, x2⟩ := Wl.rem (HW9.out.same hB.out) (w2 := W1) (by rw [HQl.out]; exact hW)
      exact ⟨x1, HS9.out.trans ((StW.same S T hB.out).trans x2)⟩
    clear hW y1 y2
    refine doneC (by kernel_rfl) ?_ _
    go_wp2_with (fail)
    go_ret
    exact ⟨by rw [HE.out]; rfl, HX.out.2, .inl ⟨HE.out, HX.out.1⟩⟩
  · have q9 : ((e9 : Int) != 0) = true := by simp; omega
    have q8 : ((e9 : Int) == 0) = false := by simp; omega
    have HZ : Hid (e9 ≠ 0) := hz
    clear hz hC he9
    go_wp2_with (fail)
    go_ret
    exact ⟨by rw [HE.out]; rfl, HS9.out, .inr ⟨by rw [HE.out]; exact HZ.out, HW9.out⟩⟩
end Go.Proofs.YtkbmblmnhhlicaaGreatDoor
