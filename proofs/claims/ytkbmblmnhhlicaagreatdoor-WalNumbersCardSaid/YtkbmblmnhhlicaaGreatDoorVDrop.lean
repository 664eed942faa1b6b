/- Drop, walked. -/
import Derived.Test.YtkbmblmnhhlicaaGreatDoorVDel
import Derived.Test.YtkbmblmnhhlicaaGreatDoorVLgs
set_option linter.unusedVariables false
namespace Go.Proofs.YtkbmblmnhhlicaaGreatDoor
open Go.RowKit

/-- What Drop answers, the disk and the segments behind it. -/
def dropP : Dk → List Sg → Int → Nat × Dk × List Sg
  | d, s :: t :: r, i => if (t.num : Int) ≤ i then (if (removeP d (nameL s.num)).1 ≠ 0 then ((removeP d (nameL s.num)).1, (removeP d (nameL s.num)).2, s :: t :: r) else dropP (removeP d (nameL s.num)).2 (t :: r) i) else (0, d, s :: t :: r)
  | d, [], _ => (0, d, [])
  | d, [s], _ => (0, d, [s])

/-- The first segment is taken out of a log's row. -/
theorem Wl.drop {w0 w w1 w2 : World} {b m : Nat} {S T : Nat → Prop} {d : Dk} {p g n c : Nat} {x : Sg × Value} {q : Sgs} (h : Wl w0 w b m S d p T (.slice (some ⟨g, 0, none⟩) n c) (x :: q)) (ho : OwnQ w1 0 (.slice (some ⟨g, 0, none⟩) q.length c) q) (hf : Fr (fun k => k = g) w w1) (hw : w2 = w1.setCell ⟨p, 1, none⟩ (.slice (some ⟨g, 0, none⟩) q.length c)) :
    Wl w0 w2 b m S d p T (.slice (some ⟨g, 0, none⟩) q.length c) q ∧ StW w S T w2 S T := by
  have hTg : T g := h.lg.tr g rfl
  obtain ⟨cu, hcu⟩ := ownQ_type h.lg.row (g := g) rfl
  have hgp : p ≠ g := fun e => ne_types hcu h.lg.blk (by decide) e.symm
  have hp1 : w1.heap[p]? = some (.cells #[dptr b, .slice (some ⟨g, 0, none⟩) n c] 99 (0, 0)) := (hf.block p (lt_blk h.lg.blk) hgp).trans h.lg.blk
  have hFr : Fr T w w2 := by
    rw [hw]
    exact Fr.set (p := ⟨p, 1, none⟩) ⟨hf.os, hf.tape, hf.output, hf.size, fun k hk hn => hf.block k hk (fun e => hn (e ▸ hTg))⟩ h.lg.tp _
  have hpl : ∀ y ∈ q, OwnI w2 0 y.2 y.1.pl := fun y hy => ownI_keep (h.lg.pls y (List.mem_cons_of_mem _ hy)) (fun k hk => by
    obtain ⟨cu2, hc2⟩ := ownI_type (h.lg.pls y (List.mem_cons_of_mem _ hy)) hk
    rw [hw, set_other _ (ne_types hc2 h.lg.blk (by decide))]
    exact hf.block k (lt_blk hc2) (ne_types hc2 hcu (by decide)))
  obtain ⟨sl, hd⟩ := h.lv.dk
  refine ⟨⟨⟨⟨sl, hd.keep hFr.size (fun k hk => hFr.block k (hd.lt k hk) (fun e => h.ap k e hk))⟩, h.lv.ge, h.lv.below.trans (hFr.below h.ge h.lv.below.size)⟩, ?_, h.ge, h.ap, h.tb⟩, ⟨hFr.os, hFr.tape, hFr.output, hFr.size, fun k hk hn => hFr.block k hk (fun e => hn (.inr e))⟩, fun k hk => .inl hk⟩
  exact { blk := by rw [hw]; exact set_blk hp1 1 _
          row := ownQ_keep ho (fun k hk => by
            obtain rfl : g = k := Option.some.inj hk
            rw [hw, set_other _ (Ne.symm hgp)])
          pls := hpl
          apart := (List.pairwise_cons.1 h.lg.apart).2
          tp := h.lg.tp
          tr := fun k hk => h.lg.tr k (ob_same hk)
          ts := fun y hy => h.lg.ts y (List.mem_cons_of_mem _ hy)
          lt := fun k hk => Nat.lt_of_lt_of_le (h.lg.lt k hk) hFr.size
          ne := fun y hy => h.lg.ne y (List.mem_cons_of_mem _ hy)
          num := fun y hy => h.lg.num y (List.mem_cons_of_mem _ hy)
          len := fun y hy => h.lg.len y (List.mem_cons_of_mem _ hy)
          few := by have := h.lg.few; rw [List.length_cons] at this; omega }

def logM (w : World) (p : Nat) : Nat := match w.cell? ⟨p, 1, none⟩ with
  | some (.slice _ n _) => n
  | _ => 0
theorem logM_eq {w : World} {p b g n c : Nat} (h : w.heap[p]? = some (.cells #[dptr b, .slice (some ⟨g, 0, none⟩) n c] 99 (0, 0))) : logM w p = n := by
  unfold logM
  rw [cell_blk h (i := 1) (v := .slice (some ⟨g, 0, none⟩) n c) rfl]

set_option maxHeartbeats 8000000 in
set_option maxRecDepth 40000 in
theorem wdrop_any {w0 w : World} {b m : Nat} {S : Nat → Prop} {d : Dk} {p : Nat} {T : Nat → Prop} {vs : Value} {q : Sgs} (h : Wl w0 w b m S d p T vs q) (hq : q ≠ []) (i : Int) :
    Calls Tryz.prog 20 #[dptr p, .int .i64 i] w fun e w' => e = .returned (.int .i64 ((dropP d (q.map (·.1)) i).1 : Int)) ∧ DidW w0 w b m S p T (dropP d (q.map (·.1)) i).2.1 (dropP d (q.map (·.1)) i).2.2 w' := by
  obtain ⟨R, hR⟩ : ∃ R, dropP d (q.map (·.1)) i = R := ⟨_, rfl⟩
  rw [hR]
  have H0 : Hid (∃ dd S1 T1 vs1 q1, Wl w0 w b m S1 dd p T1 vs1 q1 ∧ q1 ≠ [] ∧ StW w S T w S1 T1 ∧ dropP dd (q1.map (·.1)) i = R) := ⟨d, S, T, vs, q, h, hq, StW.same S T (Below.refl _ _), hR⟩
  clear h hq hR
  go_enter Tryz.func20, Tryz.ntmps20
  go_wp2_with (fail)
  go_loopw [5] (fun x wr => (∃ v : Value, v = x) ∧ Hid (∃ dd S1 T1 vs1 q1, Wl w0 wr b m S1 dd p T1 vs1 q1 ∧ q1 ≠ [] ∧ StW w S T wr S1 T1 ∧ dropP dd (q1.map (·.1)) i = R)) (fun _ wr => logM wr p)
  case atStart => exact ⟨⟨_, rfl⟩, H0⟩
  case round =>
    obtain ⟨⟨xv5, rfl⟩, HH⟩ := hrel
    clear H0
    obtain ⟨dd, S1, T1, vs1, q1, h1, h2, h3, h4⟩ := HH.out
    clear HH
    obtain ⟨g, c, hvs, hc, hT, hcm⟩ := h1.lg.form h2
    obtain ⟨n, hn⟩ : ∃ n, q1.length = n := ⟨_, rfl⟩
    rw [hn] at hvs hc
    subst hvs
    have bn : (n : Int) ≤ 1048576 := by have := h1.lg.few; omega
    have c1 : wr.cell? ⟨p, 1, none⟩ = some (.slice (some ⟨g, 0, none⟩) n c) := cell_blk h1.lg.blk rfl
    have HS1 : Hid (StW w S T wr S1 T1) := h3
    rcases q1 with _ | ⟨x, q2⟩
    · exact absurd rfl h2
    rcases q2 with _ | ⟨y, q3⟩
    · have hn1 : n = 1 := by rw [← hn]; rfl
      subst hn1
      have HR : Hid ((0, dd, [x.1]) = R) := h4
      have HW1 : Hid (Wl w0 wr b m S1 dd p T1 (.slice (some ⟨g, 0, none⟩) 1 c) [x]) := h1
      clear h1 h2 h3 h4 hc hn
      go_wp2_with (fail)
      go_ret
      exact ⟨by rw [← HR.out]; rfl, by rw [← HR.out]; exact ⟨S1, T1, _, _, HW1.out, rfl, HS1.out⟩⟩
    · have b1 : (1 : Int) < (n : Int) := by rw [← hn]; simp; omega
      have b1n : 1 < n := by omega
      obtain ⟨a2, a3⟩ := h1.lg.at (i := 1) (x := y) rfl
      rw [Nat.one_mul] at a2
      obtain ⟨k0, k1⟩ := h1.lg.at (i := 0) (x := x) rfl
      rw [Nat.zero_mul] at k0 k1
      obtain ⟨Y, hY⟩ : ∃ Y, y.1.num = Y := ⟨_, rfl⟩
      rw [hY] at a2
      have HW1 : Hid (Wl w0 wr b m S1 dd p T1 (.slice (some ⟨g, 0, none⟩) n c) (x :: y :: q3)) := h1
      have HN : Hid ((x :: y :: q3).length = n) := hn
      have hR : dropP dd (x.1 :: y.1 :: q3.map (·.1)) i = R := h4
      rw [dropP, hY] at hR
      by_cases hle : (Y : Int) ≤ i
      · rw [if_pos hle] at hR
        obtain ⟨D, hD⟩ : ∃ D, removeP dd (nameL x.1.num) = D := ⟨_, rfl⟩
        rw [hD] at hR
        have HR : Hid ((if D.1 ≠ 0 then (D.1, D.2, x.1 :: y.1 :: q3.map (·.1)) else dropP D.2 (y.1 :: q3.map (·.1)) i) = R) := hR
        obtain ⟨⟨N, pl⟩, xv⟩ := x
        obtain ⟨pg, pc, hxv, _⟩ := ownI_form (h1.lg.pls (⟨N, pl⟩, xv) (by simp)) (h1.lg.ne (⟨N, pl⟩, xv) (by simp))
        have hnum : N ≤ 999999 := h1.lg.num (⟨N, pl⟩, xv) (by simp)
        simp only at hxv hD k0 k1
        subst hxv
        have HD : Hid (removeP dd (nameL N) = D) := hD
        have HNm : Hid (N ≤ 999999) := hnum
        obtain ⟨cur, hcur⟩ := ownQ_type h1.lg.row (g := g) rfl
        have HPS : Hid (wr.heap[p]? = some (.cells #[dptr b, .slice (some ⟨g, 0, none⟩) n c] 99 (0, 0)) ∧ wr.heap[g]? = some (.cells cur 101 (0, 0))) := ⟨h1.lg.blk, hcur⟩
        have HTg : Hid (T1 g ∧ ¬ S1 g) := ⟨hT, h1.ap g hT⟩
        have hkc : ∀ w' : World, w'.heap[p]? = some (.cells #[dptr b, .slice (some ⟨g, 0, none⟩) n c] 99 (0, 0)) ∧ w'.heap[g]? = some (.cells cur 101 (0, 0)) → w'.cell? ⟨g, 0, none⟩ = some (.int .i64 (N : Int)) ∧ w'.cell? ⟨g, 1, none⟩ = some (.slice (some ⟨pg, 0, none⟩) pl.length pc) := fun w' hw => by
          have e : ∀ j, w'.cell? ⟨g, j, none⟩ = wr.cell? ⟨g, j, none⟩ := fun j => by simp [World.cell?, hw.2, hcur]
          rw [e, e]
          exact ⟨k0, k1⟩
        have n0 : ∀ w' : World, w'.heap[p]? = some (.cells #[dptr b, .slice (some ⟨g, 0, none⟩) n c] 99 (0, 0)) ∧ w'.heap[g]? = some (.cells cur 101 (0, 0)) → w'.cell? ⟨p, 0, none⟩ = some (dptr b) := fun w' hw => cell_blk hw.1 rfl
        have n1 : ∀ w' : World, w'.heap[p]? = some (.cells #[dptr b, .slice (some ⟨g, 0, none⟩) n c] 99 (0, 0)) ∧ w'.heap[g]? = some (.cells cur 101 (0, 0)) → w'.cell? ⟨p, 1, none⟩ = some (.slice (some ⟨g, 0, none⟩) n c) := fun w' hw => cell_blk hw.1 rfl
        have k2 : ∀ w' : World, w'.heap[p]? = some (.cells #[dptr b, .slice (some ⟨g, 0, none⟩) n c] 99 (0, 0)) ∧ w'.heap[g]? = some (.cells cur 101 (0, 0)) → w'.cell? ⟨g, 0, none⟩ = some (.int .i64 (N : Int)) := fun w' hw => (hkc w' hw).1
        have k3 : ∀ w' : World, w'.heap[p]? = some (.cells #[dptr b, .slice (some ⟨g, 0, none⟩) n c] 99 (0, 0)) ∧ w'.heap[g]? = some (.cells cur 101 (0, 0)) → w'.cell? ⟨g, 1, none⟩ = some (.slice (some ⟨pg, 0, none⟩) pl.length pc) := fun w' hw => (hkc w' hw).2
        have FN : Hid (∀ u, Below wr.heap.size wr u → Calls Tryz.prog 69 #[sgV N (.slice (some ⟨pg, 0, none⟩) pl.length pc)] u fun e w' => e = .returned (strN (nameL N)) ∧ Below u.heap.size u w') := fun u hu => name_any (HW1.out.same hu).tabs _ (by have := HNm.out; omega) _
        have b0n : 0 < n := by omega
        clear h1 h2 h3 h4 hc hn hR hD hnum hcur hkc k0 k1 a3 hT hcm hY
        go_wp2_with (fail)
        refine regionC (fun (w' : World) => w'.heap[p]? = some (.cells #[dptr b, .slice (some ⟨g, 0, none⟩) n c] 99 (0, 0)) ∧ w'.heap[g]? = some (.cells cur 101 (0, 0))) 12 (by kernel_rfl) ?_
        (try (change wpAnyC _ _ _ _ _ _ _ _ _ (World.drew _)))
        refine nameW (fun W0 hW0 => ?_)
        have hC : Hid (W0.heap[p]? = some (.cells #[dptr b, .slice (some ⟨g, 0, none⟩) n c] 99 (0, 0)) ∧ W0.heap[g]? = some (.cells cur 101 (0, 0))) := by show _ ∧ _; rw [hW0]; exact HPS.out
        have hB : Hid (Below wr.heap.size wr W0) := by show Below _ _ _; rw [hW0]; exact ⟨rfl, rfl, rfl, Nat.le_refl _, fun _ _ => rfl⟩
        clear hW0
        refine takeC (i := 0) (v := ?_) rfl (by kernel_rfl) (by kernel_rfl) (by kernel_rfl) (by kernel_rfl) (by kernel_rfl) (fun _ _ _ h => h) hC.out (Or.inl ⟨by rfl, ?_⟩) ?_
        rotate_left 1
        · intro w' hw'
          skip
          go_simp
          first | done | with_reducible rfl
        (try simp only [Act.put])
        (try simp only [List.setIfInBounds_toArray])
        (try simp only [List.set_cons_succ])
        (try simp only [List.set_cons_zero])
        refine takeC (i := 1) (v := ?_) rfl (by kernel_rfl) (by kernel_rfl) (by kernel_rfl) (by kernel_rfl) (by kernel_rfl) (fun _ _ _ h => h) hC.out (Or.inl ⟨by rfl, ?_⟩) ?_
        rotate_left 1
        · intro w' hw'
          skip
          go_simp
          first | done | with_reducible rfl
        (try simp only [Act.put])
        (try simp only [List.setIfInBounds_toArray])
        (try simp only [List.set_cons_succ])
        (try simp only [List.set_cons_zero])
        refine takeC (i := 2) (v := ?_) rfl (by kernel_rfl) (by kernel_rfl) (by kernel_rfl) (by kernel_rfl) (by kernel_rfl) (fun _ _ _ h => h) hC.out (Or.inl ⟨by rfl, ?_⟩) ?_
        rotate_left 1
        · intro w' hw'
          skip
          go_simp
          first | done | with_reducible rfl
        (try simp only [Act.put])
        (try simp only [List.setIfInBounds_toArray])
        (try simp only [List.set_cons_succ])
        (try simp only [List.set_cons_zero])
        refine takeC (i := 3) (v := ?_) rfl (by kernel_rfl) (by kernel_rfl) (by kernel_rfl) (by kernel_rfl) (by kernel_rfl) (fun _ _ _ h => h) hC.out (Or.inl ⟨by rfl, ?_⟩) ?_
        rotate_left 1
        · intro w' hw'
          have z0 := n0 w' hw'; have z1 := n1 w' hw'; have z2 := k2 w' hw'; have z3 := k3 w' hw'
          go_simp
          first | done | with_reducible rfl
        (try simp only [Act.put])
        (try simp only [List.setIfInBounds_toArray])
        (try simp only [List.set_cons_succ])
        (try simp only [List.set_cons_zero])
        refine takeC (i := 4) (v := ?_) rfl (by kernel_rfl) (by kernel_rfl) (by kernel_rfl) (by kernel_rfl) (by kernel_rfl) (fun _ _ _ h => h) hC.out (Or.inl ⟨by rfl, ?_⟩) ?_
        rotate_left 1
        · intro w' hw'
          skip
          go_simp
          first | done | with_reducible rfl
        (try simp only [Act.put])
        (try simp only [List.setIfInBounds_toArray])
        (try simp only [List.set_cons_succ])
        (try simp only [List.set_cons_zero])
        refine takeC (i := 5) (v := ?_) rfl (by kernel_rfl) (by kernel_rfl) (by kernel_rfl) (by kernel_rfl) (by kernel_rfl) (fun _ _ _ h => h) hC.out (Or.inl ⟨by rfl, ?_⟩) ?_
        rotate_left 1
        · intro w' hw'
          skip
          go_simp
          first | done | with_reducible rfl
        (try simp only [Act.put])
        (try simp only [List.setIfInBounds_toArray])
        (try simp only [List.set_cons_succ])
        (try simp only [List.set_cons_zero])
        refine takeC (i := 6) (v := ?_) rfl (by kernel_rfl) (by kernel_rfl) (by kernel_rfl) (by kernel_rfl) (by kernel_rfl) (fun _ _ _ h => h) hC.out (Or.inl ⟨by rfl, ?_⟩) ?_
        rotate_left 1
        · intro w' hw'
          skip
          go_simp
          first | done | with_reducible rfl
        (try simp only [Act.put])
        (try simp only [List.setIfInBounds_toArray])
        (try simp only [List.set_cons_succ])
        (try simp only [List.set_cons_zero])
        refine takeC (i := 7) (v := ?_) rfl (by kernel_rfl) (by kernel_rfl) (by kernel_rfl) (by kernel_rfl) (by kernel_rfl) (fun _ _ _ h => h) hC.out (Or.inl ⟨by rfl, ?_⟩) ?_
        rotate_left 1
        · intro w' hw'
          have z0 := n0 w' hw'; have z1 := n1 w' hw'; have z2 := k2 w' hw'; have z3 := k3 w' hw'
          go_simp
          first | done | with_reducible rfl
        (try simp only [Act.put])
        (try simp only [List.setIfInBounds_toArray])
        (try simp only [List.set_cons_succ])
        (try simp only [List.set_cons_zero])
        refine takeC (i := 8) (v := ?_) rfl (by kernel_rfl) (by kernel_rfl) (by kernel_rfl) (by kernel_rfl) (by kernel_rfl) (fun _ _ _ h => h) hC.out (Or.inl ⟨by rfl, ?_⟩) ?_
        rotate_left 1
        · intro w' hw'
          skip
          go_simp
          first | done | with_reducible rfl
        (try simp only [Act.put])
        (try simp only [List.setIfInBounds_toArray])
        (try simp only [List.set_cons_succ])
        (try simp only [List.set_cons_zero])
        refine takeC (i := 9) (v := ?_) rfl (by kernel_rfl) (by kernel_rfl) (by kernel_rfl) (by kernel_rfl) (by kernel_rfl) (fun _ _ _ h => h) hC.out (Or.inl ⟨by rfl, ?_⟩) ?_
        rotate_left 1
        · intro w' hw'
          have z0 := n0 w' hw'; have z1 := n1 w' hw'; have z2 := k2 w' hw'; have z3 := k3 w' hw'
          go_simp
          first | done | with_reducible rfl
        (try simp only [Act.put])
        (try simp only [List.setIfInBounds_toArray])
        (try simp only [List.set_cons_succ])
        (try simp only [List.set_cons_zero])
        refine readyC (rs := [10]) (by kernel_rfl) (by simp) ?_
        refine ReadyC.cons rfl (fun K hK => ?_) ReadyC.nil
        refine stepV_call rfl 69 #[sgV N (.slice (some ⟨pg, 0, none⟩) pl.length pc)] (by kernel_rfl) (FN.out W0 hB.out) (fun e w' h => ⟨_, h.1⟩) ?_
        intro v1 W1 hq
        obtain ⟨hv1, hq⟩ := hq
        have hv1' := Ending.returned.inj hv1
        subst hv1'
        have hq2 : Below wr.heap.size wr W1 := hB.out.trans (hq.mono hB.out.size)
        have hq3 : W1.heap[p]? = some (.cells #[dptr b, .slice (some ⟨g, 0, none⟩) n c] 99 (0, 0)) ∧ W1.heap[g]? = some (.cells cur 101 (0, 0)) := ⟨(hq2.block _ (lt_blk HPS.out.1)).trans HPS.out.1, (hq2.block _ (lt_blk HPS.out.2)).trans HPS.out.2⟩
        refine hK _ _ (fun _ => hq3) ?_
        clear hK K
        (try simp only [Act.put])
        (try simp only [List.setIfInBounds_toArray])
        (try simp only [List.set_cons_succ])
        (try simp only [List.set_cons_zero])
        replace hC : Hid (W1.heap[p]? = some (.cells #[dptr b, .slice (some ⟨g, 0, none⟩) n c] 99 (0, 0)) ∧ W1.heap[g]? = some (.cells cur 101 (0, 0))) := hq3
        replace hB : Hid (Below wr.heap.size wr W1) := hq2
        clear hv1 hq hq2 hq3
        refine readyC (rs := [11]) (by kernel_rfl) (by simp) ?_
        refine ReadyC.cons rfl (fun K hK => ?_) ReadyC.nil
        refine stepV_call rfl 73 #[dptr b, strN (nameL N)] (by kernel_rfl) (removeL (HW1.out.same hB.out).lv (nameL N) (by rw [nameL_length]; omega)) (fun e w' h => ⟨_, h.1⟩) ?_
        intro v9 W2 hq
        obtain ⟨hv9, hlv, hst⟩ := hq
        have hv9' := Ending.returned.inj hv9
        subst hv9'
        rw [HD.out] at hlv ⊢
        obtain ⟨hwl, hstw⟩ := (HW1.out.same hB.out).disk hlv hst
        have hkk : W2.heap[p]? = some (.cells #[dptr b, .slice (some ⟨g, 0, none⟩) n c] 99 (0, 0)) ∧ W2.heap[g]? = some (.cells cur 101 (0, 0)) := ⟨hwl.lg.blk, (hst.1.block g (lt_blk hC.out.2) HTg.out.2).trans hC.out.2⟩
        refine hK _ _ (fun _ => hkk) ?_
        clear hK K
        (try simp only [Act.put])
        (try simp only [List.setIfInBounds_toArray])
        (try simp only [List.set_cons_succ])
        (try simp only [List.set_cons_zero])
        replace hC : Hid (W2.heap[p]? = some (.cells #[dptr b, .slice (some ⟨g, 0, none⟩) n c] 99 (0, 0)) ∧ W2.heap[g]? = some (.cells cur 101 (0, 0))) := hkk
        have HW9 : Hid (Wl w0 W2 b m S1 D.2 p T1 (.slice (some ⟨g, 0, none⟩) n c) ((⟨N, pl⟩, .slice (some ⟨pg, 0, none⟩) pl.length pc) :: y :: q3)) := hwl
        have HS9 : Hid (StW w S T W2 S1 T1) := HS1.out.trans ((StW.same S1 T1 hB.out).trans hstw)
        clear hkk hv9 hlv hst hwl hstw hB
        refine readyC (rs := [12]) (by kernel_rfl) (by simp) ?_
        refine ReadyC.cons rfl (fun K hK => ?_) ReadyC.nil
        go_simp
        refine hK _ _ (fun _ => hC.out) ?_
        clear hK K
        (try simp only [Act.put])
        (try simp only [List.setIfInBounds_toArray])
        (try simp only [List.set_cons_succ])
        (try simp only [List.set_cons_zero])
        refine doneC (by kernel_rfl) ?_ _
        clear n0 n1 k2 k3 FN
        obtain ⟨w9, hw9⟩ : ∃ w9, w9 = W2 := ⟨_, rfl⟩
        subst hw9
        clear hC
        obtain ⟨e9, he9⟩ : ∃ e9, D.1 = e9 := ⟨_, rfl⟩
        rw [he9]
        rw [he9] at HR
        clear he9
        by_cases hz : e9 = 0
        · subst hz
          have hR := HR.out
          rw [if_neg (by simp)] at hR
          have HR2 : Hid (dropP D.2 ((y :: q3).map (·.1)) i = R) := hR
          have hone : ∀ u ∈ y :: q3, u.2.oneCell' = true := fun u hu => by
            obtain ⟨ug, uc, hu2, _⟩ := ownI_form (HW9.out.lg.pls u (List.mem_cons_of_mem _ hu)) (HW9.out.lg.ne u (List.mem_cons_of_mem _ hu))
            rw [hu2]; rfl
          have hDel := delete_any HW9.out.lg.row HN.out hone (by simp) (by have := HW9.out.lg.few; have := HN.out; omega)
          have d1 : w9.cell? ⟨p, 1, none⟩ = some (.slice (some ⟨g, 0, none⟩) n c) := cell_blk HW9.out.lg.blk rfl
          obtain ⟨k9, hk9⟩ : ∃ k9, (y :: q3).length = k9 := ⟨_, rfl⟩
          rw [hk9] at hDel
          have HK9 : Hid ((y :: q3).length = k9) := hk9
          clear hR HR hone hk9
          go_wp2_with (fail)
          refine hDel.mono ?_
          rintro e w10 ⟨rfl, ho10, hf10⟩
          have hpg : p ≠ g := fun e => by
            obtain ⟨cu, hcu⟩ := ownQ_type HW9.out.lg.row (g := g) rfl
            exact ne_types hcu HW9.out.lg.blk (by decide) e.symm
          have hblk : w10.heap[p]? = some (.cells #[dptr b, .slice (some ⟨g, 0, none⟩) n c] 99 (0, 0)) := (hf10.block p (lt_blk HW9.out.lg.blk) hpg).trans HW9.out.lg.blk
          have HO10 : Hid (OwnQ w10 0 (.slice (some ⟨g, 0, none⟩) k9 c) (y :: q3) ∧ Fr (fun k => k = g) w9 w10) := ⟨ho10, hf10⟩
          have t1 : w10.cell? ⟨p, 1, none⟩ = some (.slice (some ⟨g, 0, none⟩) n c) := cell_blk hblk rfl
          have t2 := free_blk hblk
          clear hDel d1 ho10 hf10 hpg hblk
          go_wp2_with (fail)
          obtain ⟨w11, hw11⟩ : ∃ w11, w11 = w10.setCell ⟨p, 1, none⟩ (.slice (some ⟨g, 0, none⟩) k9 c) := ⟨_, rfl⟩
          (try rw [← hw11])
          have HX : Hid (Wl w0 w11 b m S1 D.2 p T1 (.slice (some ⟨g, 0, none⟩) k9 c) (y :: q3) ∧ StW w S T w11 S1 T1) := by
            have h1 := HO10.out.1
            rw [← HK9.out] at h1 hw11
            obtain ⟨x1, x2⟩ := HW9.out.drop h1 HO10.out.2 hw11
            rw [HK9.out] at x1
            exact ⟨x1, HS9.out.trans x2⟩
          have HM : Hid (logM w11 p < logM wr p) := by
            show _ < _
            rw [logM_eq HX.out.1.lg.blk, logM_eq HPS.out.1, ← HK9.out, ← HN.out]
            simp
          clear hw11 t1 t2
          go_roundw
          case rel => exact ⟨⟨_, rfl⟩, D.2, S1, T1, _, y :: q3, HX.out.1, by simp, HX.out.2, HR2.out⟩
          case measure => exact HM.out
        · have q9 : ((e9 : Int) != 0) = true := by simp; omega
          have q8 : ((e9 : Int) == 0) = false := by simp; omega
          have hR := HR.out
          rw [if_pos hz] at hR
          have HR2 : Hid ((e9, D.2, (⟨N, pl⟩ : Sg) :: y.1 :: q3.map (·.1)) = R) := hR
          clear hz hR HR
          go_wp2_with (fail)
          go_ret
          exact ⟨by rw [← HR2.out]; rfl, by rw [← HR2.out]; exact ⟨S1, T1, _, _, HW9.out, rfl, HS9.out⟩⟩
      · rw [if_neg hle] at hR
        have HR : Hid ((0, dd, x.1 :: y.1 :: q3.map (·.1)) = R) := hR
        have q2 : ¬ (Y : Int) ≤ i := hle
        clear h1 h2 h3 h4 hc hn hR hle a3 k0 k1 hY
        go_wp2_with (fail)
        go_ret
        exact ⟨by rw [← HR.out]; rfl, by rw [← HR.out]; exact ⟨S1, T1, _, _, HW1.out, rfl, HS1.out⟩⟩
/-- Drop beside others' blocks. -/
theorem dropG {w0 : World} {b m p : Nat} {d : Dk} {L : List Sg} {G : Nat → Prop} {w : World} (h : LgS w0 b m p d L G w) (hL : L ≠ []) (i : Int) : Calls Tryz.prog 20 #[dptr p, .int .i64 i] w fun e w' => e = .returned (.int .i64 ((dropP d L i).1 : Int)) ∧ LgS w0 b m p (dropP d L i).2.1 (dropP d L i).2.2 G w' ∧ Kps G w w' := by
  obtain ⟨S, T, vs, q, h1, h2, h3⟩ := h
  subst h2
  exact (wdrop_any h1 (by intro e; rw [e] at hL; exact hL rfl) i).mono fun e w' r => ⟨r.1, LgS.did h3 r.2⟩
end Go.Proofs.YtkbmblmnhhlicaaGreatDoor
