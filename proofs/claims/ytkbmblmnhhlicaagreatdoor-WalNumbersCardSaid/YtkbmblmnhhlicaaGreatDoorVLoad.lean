/- load, walked. -/
import Derived.Test.YtkbmblmnhhlicaaGreatDoorV03
import Derived.Test.YtkbmblmnhhlicaaGreatDoorV18
import Derived.Deep.CutRange
set_option linter.unusedVariables false
namespace Go.Proofs.YtkbmblmnhhlicaaGreatDoor
open Go.RowKit

theorem own_cap {w : World} {B : Nat} {a : Option Addr} {n c : Nat} {l : List UInt8} (h : OwnB w B (.slice a n c) l) : n ≤ c := by
  rcases h.2 with ⟨h1, h0⟩ | ⟨g, cap, cur, h1, _, _, h2, _⟩
  · have : n = 0 := congrArg (fun v => match v with | Value.slice _ n _ => n | _ => 0) h1
    omega
  · have e1 : n = l.length := congrArg (fun v => match v with | Value.slice _ n _ => n | _ => 0) h1
    have e2 : c = cap := congrArg (fun v => match v with | Value.slice _ _ c => c | _ => 0) h1
    omega
/-- What is read lies in memory of its own. -/
theorem readB {w0 w : World} {b m : Nat} {S : Nat → Prop} {d : Dk} (h : Lv w0 w b m S d) (n : Nm) (hn : n.length ≤ 140737488355328) :
    Calls Tryz.prog 41 #[dptr b, strN n] w fun e w' => ∃ a c, e = .returned (.tuple #[.slice a (theF d n).bs.length c, .int .i64 (findV d n : Int)]) ∧ OwnB w' w.heap.size (.slice a (theF d n).bs.length c) (theF d n).bs ∧ Below w.heap.size w w' := by
  obtain ⟨sl, hd⟩ := h.dk
  refine (read_any hd n hn).mono ?_
  rintro e w' ⟨v, rfl, h1, h2⟩
  obtain ⟨a, c, rfl⟩ := own_slice h1
  exact ⟨a, c, rfl, h1, h2⟩
theorem theF_len {d : Dk} (h : DkOk d) (n : Nm) : (theF d n).bs.length ≤ usedL d.files := by
  by_cases hf : findV d n = 0
  · exact usedL_get h.rises (findV_get hf)
  · unfold theF
    rw [if_neg hf]
    exact Nat.zero_le _
theorem readP_len : ∀ (f i a : Nat) (s : List UInt8), (readP f i a s).length ≤ s.length
  | 0, _, _, _ => Nat.zero_le _
  | f + 1, i, a, s => by
    rw [readP]
    split
    · exact Nat.zero_le _
    · rename_i h
      have h1 := readP_len f (i + 1) (a + standL i s) (s.drop (standL i s))
      have h2 := standL_le i s
      rw [List.length_drop] at h1
      rw [List.length_cons]
      omega

/-- A segment is put behind a log's. -/
theorem Wl.push {w0 w w1 w2 : World} {b m : Nat} {S T : Nat → Prop} {d : Dk} {p : Nat} {vs vo : Value} {q : Sgs} {x : Sg × Value} (h : Wl w0 w b m S d p T vs q) (hx : OwnI w 0 x.2 x.1.pl) (hne : x.1.pl ≠ []) (hnum : x.1.num ≤ 999999) (hlen : x.1.pl.length ≤ 1099511627777)
    (hxb : ∀ g, x.2.ownBlock = some g → w0.heap.size ≤ g ∧ ¬ S g ∧ ¬ T g) (hfew : q.length + 1 ≤ 1048576) (hp : PushedQ w vs q x vo w1) (hw : w2 = w1.setCell ⟨p, 1, none⟩ vo) :
    ∃ T', Wl w0 w2 b m S d p T' vo (q ++ [x]) ∧ Fr T w w2 ∧ ∀ k, T' k → T k ∨ x.2.ownBlock = some k ∨ w.heap.size ≤ k := by
  obtain ⟨hlg, hfr, hb⟩ := h.lg.x.put hx hne hnum hlen (fun y hy e => by
    obtain ⟨gy, cy, hy2, _⟩ := ownI_form (h.lg.pls y hy) (h.lg.ne y hy)
    have hky : y.2.ownBlock = some gy := by rw [hy2]; rfl
    exact (hxb gy (by rw [← e]; exact hky)).2.2 (h.lg.ts y hy gy hky)) hfew hp hw
  obtain ⟨sl, hd⟩ := h.lv.dk
  have hrow : ∀ k, (k = p ∨ vs.ownBlock = some k) → T k := fun k hk => hk.elim (fun e => e ▸ h.lg.tp) (fun e => h.lg.tr k e)
  have hFr : Fr T w w2 := ⟨hfr.os, hfr.tape, hfr.output, hfr.size, fun k hk hn => hfr.block k hk (fun e => hn (hrow k e))⟩
  have hT3 : ∀ k, (T k ∨ x.2.ownBlock = some k ∨ vo.ownBlock = some k) → T k ∨ x.2.ownBlock = some k ∨ w.heap.size ≤ k := fun k hk => by
    rcases hb k hk with (e | e) | e
    · exact .inl e
    · exact .inr (.inl e)
    · exact .inr (.inr e)
  refine ⟨_, ⟨⟨⟨sl, hd.keep hFr.size (fun k hk => hFr.block k (hd.lt k hk) (fun e => h.ap k e hk))⟩, h.lv.ge, h.lv.below.trans (hFr.below h.ge h.lv.below.size)⟩, hlg, ?_, ?_, h.tb⟩, hFr, hT3⟩
  · intro k hk
    rcases hT3 k hk with e | e | e
    · exact h.ge k e
    · exact (hxb k e).1
    · exact Nat.le_trans h.lv.below.size e
  · intro k hk hS
    rcases hT3 k hk with e | e | e
    · exact h.ap k e hS
    · exact (hxb k e).2.1 hS
    · have := hd.lt k hS; omega

/-- What load answers, and the segments behind it. -/
def load1 (d : Dk) (L : List Sg) (N : Nat) : Nat × Nat × List Sg :=
  if findV d (nameL N) ≠ 0 then (0, findV d (nameL N), L)
  else if 1000000 < (readSg N (theF d (nameL N)).bs).next then (0, 16, L)
  else ((theF d (nameL N)).bs.length, 0, L ++ [readSg N (theF d (nameL N)).bs])

set_option maxHeartbeats 8000000 in
set_option maxRecDepth 40000 in
theorem load_any {w0 w : World} {b m : Nat} {S : Nat → Prop} {d : Dk} {p : Nat} {T : Nat → Prop} {vs : Value} {q : Sgs} (h : Wl w0 w b m S d p T vs q) (N : Nat) (hN : N ≤ 999999) (hu : usedL d.files ≤ 1099511627776) (hfw : q.length + 1 ≤ 1048576) :
    Calls Tryz.prog 129 #[dptr p, .int .i64 (N : Int)] w fun e w' => e = .returned (.tuple #[.int .i64 ((load1 d (q.map (·.1)) N).1 : Int), .int .i64 ((load1 d (q.map (·.1)) N).2.1 : Int)]) ∧ DidW w0 w b m S p T d (load1 d (q.map (·.1)) N).2.2 w' := by
  have HW : Hid (Wl w0 w b m S d p T vs q) := h
  have HFw : Hid (q.length + 1 ≤ 1048576) := hfw
  have HN : Hid (N ≤ 999999) := hN
  have hbl : (theF d (nameL N)).bs.length ≤ 1099511627776 := by
    obtain ⟨sl, hd⟩ := h.lv.dk
    exact Nat.le_trans (theF_len hd.ok _) hu
  have FR0 : Hid (∀ u, Below w.heap.size w u → Calls Tryz.prog 41 #[dptr b, strN (nameL N)] u fun e w' => ∃ a c, e = .returned (.tuple #[.slice a (theF d (nameL N)).bs.length c, .int .i64 (findV d (nameL N) : Int)]) ∧ OwnB w' u.heap.size (.slice a (theF d (nameL N)).bs.length c) (theF d (nameL N)).bs ∧ Below u.heap.size u w') := fun u hu => readB (HW.out.same hu).lv (nameL N) (by rw [nameL_length]; omega)
  obtain ⟨R, hR⟩ : ∃ R, load1 d (q.map (·.1)) N = R := ⟨_, rfl⟩
  have HR : Hid (load1 d (q.map (·.1)) N = R) := hR
  rw [hR]
  unfold load1 at hR
  have HU : Hid ((if findV d (nameL N) ≠ 0 then (0, findV d (nameL N), q.map (·.1)) else if 1000000 < (readSg N (theF d (nameL N)).bs).next then (0, 16, q.map (·.1)) else ((theF d (nameL N)).bs.length, 0, q.map (·.1) ++ [readSg N (theF d (nameL N)).bs])) = R) := hR
  clear hR HR
  obtain ⟨fv, hfv⟩ : ∃ fv, findV d (nameL N) = fv := ⟨_, rfl⟩
  obtain ⟨bs, hbs⟩ : ∃ bs, (theF d (nameL N)).bs = bs := ⟨_, rfl⟩
  rw [hbs] at hbl
  rw [hfv, hbs] at FR0 HU
  obtain ⟨len, hlen⟩ : ∃ len, bs.length = len := ⟨_, rfl⟩
  rw [hlen] at FR0 HU hbl
  have HLn : Hid (bs.length = len ∧ len ≤ 1099511627776) := ⟨hlen, hbl⟩
  have bl : (len : Int) ≤ 1099511627776 := by omega
  have HPS : Hid (w.heap[p]? = some (.cells #[dptr b, vs] 99 (0, 0))) := h.lg.blk
  have n0 : ∀ w' : World, w'.heap[p]? = some (.cells #[dptr b, vs] 99 (0, 0)) → w'.cell? ⟨p, 0, none⟩ = some (dptr b) := fun w' hw => cell_blk hw rfl
  have FE : Hid (∀ u, Below w.heap.size w u → Calls Tryz.prog 66 #[.int .i64 (N : Int)] u fun e w' => ∃ g, e = .returned (sgV N (.slice (some ⟨g, 0, none⟩) 1 1)) ∧ OwnI w' u.heap.size (.slice (some ⟨g, 0, none⟩) 1 1) [0] ∧ Below u.heap.size u w') := fun u hu => empty_any u N
  have FN : Hid (∀ u, Below w.heap.size w u → ∀ {v : Value}, Calls Tryz.prog 69 #[sgV N v] u fun e w' => e = .returned (strN (nameL N)) ∧ Below u.heap.size u w') := fun u hu => fun {v} => name_any (HW.out.same hu).tabs _ (by have := HN.out; omega) _
  clear h hN hu hfw hfv hbs hlen hbl
  go_enter Tryz.func129, Tryz.ntmps129
  go_wp2_with (fail)
  refine regionC (fun (w' : World) => w'.heap[p]? = some (.cells #[dptr b, vs] 99 (0, 0))) 12 (by kernel_rfl) ?_
  (try (change wpAnyC _ _ _ _ _ _ _ _ _ (World.drew _)))
  refine nameW (fun W0 hW0 => ?_)
  have hC : Hid (W0.heap[p]? = some (.cells #[dptr b, vs] 99 (0, 0))) := by show _ = _; rw [hW0]; exact HPS.out
  have hB : Hid (Below w.heap.size w W0) := by show Below _ _ _; rw [hW0]; exact ⟨rfl, rfl, rfl, Nat.le_refl _, fun _ _ => rfl⟩
  clear hW0
  refine takeC (i := 0) (v := ?_) rfl (by kernel_rfl) (by kernel_rfl) (by kernel_rfl) (by kernel_rfl) (by kernel_rfl) (fun _ _ _ h => h) hC.out (Or.inl ⟨by rfl, ?_⟩) ?_
  rotate_left 1
  · intro w' hw'
    skip
    go_simp
    first | done | with_reducible rfl
  (try simp only [Act.put])
  (try simp only [List.setIfInBounds_toArray])
  (try simp only [List.set_cons_succ])
  (try simp only [List.set_cons_zero])
  refine takeC (i := 1) (v := ?_) rfl (by kernel_rfl) (by kernel_rfl) (by kernel_rfl) (by kernel_rfl) (by kernel_rfl) (fun _ _ _ h => h) hC.out (Or.inl ⟨by rfl, ?_⟩) ?_
  rotate_left 1
  · intro w' hw'
    skip
    go_simp
    first | done | with_reducible rfl
  (try simp only [Act.put])
  (try simp only [List.setIfInBounds_toArray])
  (try simp only [List.set_cons_succ])
  (try simp only [List.set_cons_zero])
  refine takeC (i := 2) (v := ?_) rfl (by kernel_rfl) (by kernel_rfl) (by kernel_rfl) (by kernel_rfl) (by kernel_rfl) (fun _ _ _ h => h) hC.out (Or.inl ⟨by rfl, ?_⟩) ?_
  rotate_left 1
  · intro w' hw'
    skip
    go_simp
    first | done | with_reducible rfl
  (try simp only [Act.put])
  (try simp only [List.setIfInBounds_toArray])
  (try simp only [List.set_cons_succ])
  (try simp only [List.set_cons_zero])
  refine takeC (i := 3) (v := ?_) rfl (by kernel_rfl) (by kernel_rfl) (by kernel_rfl) (by kernel_rfl) (by kernel_rfl) (fun _ _ _ h => h) hC.out (Or.inl ⟨by rfl, ?_⟩) ?_
  rotate_left 1
  · intro w' hw'
    have z0 := n0 w' hw'
    go_simp
    first | done | with_reducible rfl
  (try simp only [Act.put])
  (try simp only [List.setIfInBounds_toArray])
  (try simp only [List.set_cons_succ])
  (try simp only [List.set_cons_zero])
  refine takeC (i := 4) (v := ?_) rfl (by kernel_rfl) (by kernel_rfl) (by kernel_rfl) (by kernel_rfl) (by kernel_rfl) (fun _ _ _ h => h) hC.out (Or.inl ⟨by rfl, ?_⟩) ?_
  rotate_left 1
  · intro w' hw'
    skip
    go_simp
    first | done | with_reducible rfl
  (try simp only [Act.put])
  (try simp only [List.setIfInBounds_toArray])
  (try simp only [List.set_cons_succ])
  (try simp only [List.set_cons_zero])
  refine readyC (rs := [5]) (by kernel_rfl) (by simp) ?_
  refine ReadyC.cons rfl (fun K hK => ?_) ReadyC.nil
  refine stepV_call rfl 66 #[.int .i64 (N : Int)] (by kernel_rfl) (FE.out W0 hB.out) (fun e w' h => by obtain ⟨_, h, _⟩ := h; exact ⟨_, h⟩) ?_
  intro v1 W1 hq
  obtain ⟨ge, hv1, hoe, hq⟩ := hq
  have hv1' := Ending.returned.inj hv1
  subst hv1'
  have hq2 : Below w.heap.size w W1 := hB.out.trans (hq.mono hB.out.size)
  have hq3 : W1.heap[p]? = some (.cells #[dptr b, vs] 99 (0, 0)) := (hq2.block _ (lt_blk HPS.out)).trans HPS.out
  refine hK _ _ (fun _ => hq3) ?_
  clear hK K
  (try simp only [Act.put])
  (try simp only [List.setIfInBounds_toArray])
  (try simp only [List.set_cons_succ])
  (try simp only [List.set_cons_zero])
  clear hoe
  replace hC : Hid (W1.heap[p]? = some (.cells #[dptr b, vs] 99 (0, 0))) := hq3
  replace hB : Hid (Below w.heap.size w W1) := hq2
  clear hv1 hq hq2 hq3
  refine readyC (rs := [6]) (by kernel_rfl) (by simp) ?_
  refine ReadyC.cons rfl (fun K hK => ?_) ReadyC.nil
  refine stepV_call rfl 69 #[sgV N (.slice (some ⟨ge, 0, none⟩) 1 1)] (by kernel_rfl) (FN.out W1 hB.out) (fun e w' h => ⟨_, h.1⟩) ?_
  intro v1 W2 hq
  obtain ⟨hv1, hq⟩ := hq
  have hv1' := Ending.returned.inj hv1
  subst hv1'
  have hq2 : Below w.heap.size w W2 := hB.out.trans (hq.mono hB.out.size)
  have hq3 : W2.heap[p]? = some (.cells #[dptr b, vs] 99 (0, 0)) := (hq2.block _ (lt_blk HPS.out)).trans HPS.out
  refine hK _ _ (fun _ => hq3) ?_
  clear hK K
  (try simp only [Act.put])
  (try simp only [List.setIfInBounds_toArray])
  (try simp only [List.set_cons_succ])
  (try simp only [List.set_cons_zero])
  replace hC : Hid (W2.heap[p]? = some (.cells #[dptr b, vs] 99 (0, 0))) := hq3
  replace hB : Hid (Below w.heap.size w W2) := hq2
  clear hv1 hq hq2 hq3
  refine readyC (rs := [7]) (by kernel_rfl) (by simp) ?_
  refine ReadyC.cons rfl (fun K hK => ?_) ReadyC.nil
  refine stepV_call rfl 41 #[dptr b, strN (nameL N)] (by kernel_rfl) (FR0.out W2 hB.out) (fun e w' h => by obtain ⟨_, _, h, _⟩ := h; exact ⟨_, h⟩) ?_
  intro v1 W3 hq
  obtain ⟨ra, rc, hv1, hoe, hq⟩ := hq
  have hv1' := Ending.returned.inj hv1
  subst hv1'
  have hq2 : Below w.heap.size w W3 := hB.out.trans (hq.mono hB.out.size)
  have hq3 : W3.heap[p]? = some (.cells #[dptr b, vs] 99 (0, 0)) := (hq2.block _ (lt_blk HPS.out)).trans HPS.out
  refine hK _ _ (fun _ => hq3) ?_
  clear hK K
  (try simp only [Act.put])
  (try simp only [List.setIfInBounds_toArray])
  (try simp only [List.set_cons_succ])
  (try simp only [List.set_cons_zero])
  have HOR : Hid (OwnB W3 w.heap.size (.slice ra len rc) bs) := ⟨hoe.1, hoe.2.imp id (fun ⟨g, cap, cur, h1, h2, h3⟩ => ⟨g, cap, cur, h1, Nat.le_trans hB.out.size h2, h3⟩)⟩
  clear hoe
  replace hC : Hid (W3.heap[p]? = some (.cells #[dptr b, vs] 99 (0, 0))) := hq3
  replace hB : Hid (Below w.heap.size w W3) := hq2
  clear hv1 hq hq2 hq3
  refine takeC (i := 8) (v := ?_) rfl (by kernel_rfl) (by kernel_rfl) (by kernel_rfl) (by kernel_rfl) (by kernel_rfl) (fun _ _ _ h => h) hC.out (Or.inl ⟨by rfl, ?_⟩) ?_
  rotate_left 1
  · intro w' hw'
    skip
    go_simp
    first | done | with_reducible rfl
  (try simp only [Act.put])
  (try simp only [List.setIfInBounds_toArray])
  (try simp only [List.set_cons_succ])
  (try simp only [List.set_cons_zero])
  refine takeC (i := 9) (v := ?_) rfl (by kernel_rfl) (by kernel_rfl) (by kernel_rfl) (by kernel_rfl) (by kernel_rfl) (fun _ _ _ h => h) hC.out (Or.inl ⟨by rfl, ?_⟩) ?_
  rotate_left 1
  · intro w' hw'
    skip
    go_simp
    first | done | with_reducible rfl
  (try simp only [Act.put])
  (try simp only [List.setIfInBounds_toArray])
  (try simp only [List.set_cons_succ])
  (try simp only [List.set_cons_zero])
  refine takeC (i := 10) (v := ?_) rfl (by kernel_rfl) (by kernel_rfl) (by kernel_rfl) (by kernel_rfl) (by kernel_rfl) (fun _ _ _ h => h) hC.out (Or.inl ⟨by rfl, ?_⟩) ?_
  rotate_left 1
  · intro w' hw'
    skip
    go_simp
    first | done | with_reducible rfl
  (try simp only [Act.put])
  (try simp only [List.setIfInBounds_toArray])
  (try simp only [List.set_cons_succ])
  (try simp only [List.set_cons_zero])
  refine readyC (rs := [11]) (by kernel_rfl) (by simp) ?_
  refine ReadyC.cons rfl (fun K hK => ?_) ReadyC.nil
  go_simp
  refine hK _ _ (fun _ => hC.out) ?_
  clear hK K
  (try simp only [Act.put])
  (try simp only [List.setIfInBounds_toArray])
  (try simp only [List.set_cons_succ])
  (try simp only [List.set_cons_zero])
  refine readyC (rs := [12]) (by kernel_rfl) (by simp) ?_
  refine ReadyC.cons rfl (fun K hK => ?_) ReadyC.nil
  go_simp
  refine hK _ _ (fun _ => hC.out) ?_
  clear hK K
  (try simp only [Act.put])
  (try simp only [List.setIfInBounds_toArray])
  (try simp only [List.set_cons_succ])
  (try simp only [List.set_cons_zero])
  refine doneC (by kernel_rfl) ?_ _
  clear n0 FE FN FR0
  obtain ⟨w1, hw1⟩ : ∃ w1, w1 = W3 := ⟨_, rfl⟩
  subst hw1
  have HB1 : Hid (Below w.heap.size w w1) := hB.out
  clear hB hC
  by_cases hz : fv = 0
  · subst hz
    have HU2 := HU.out
    rw [if_neg (by simp)] at HU2
    have hcap := own_cap HOR.out
    have hob := HOR.out
    rw [← HLn.out.1] at hob
    have hbr := own_brow hob
    rw [HLn.out.1] at hbr
    have hRs := readseg_any (w := w1) (HW.out.same HB1.out).tabs N (by have := HN.out; omega) hbr hcap HLn.out.2
    have hpl : (readSg N bs).pl.length ≤ 1099511627777 ∧ 1 ≤ (readSg N bs).pl.length := by
      have := readP_len (bs.length + 1) N 0 bs
      have h2 := HLn.out
      unfold readSg
      simp only [List.length_cons]
      omega
    obtain ⟨pl, hple⟩ : ∃ pl, (readSg N bs).pl = pl := ⟨_, rfl⟩
    have hsg : readSg N bs = ⟨N, pl⟩ := by rw [← hple]; rfl
    rw [hple] at hRs hpl
    rw [hsg] at HU2
    have HU3 : Hid ((if 1000000 < (⟨N, pl⟩ : Sg).next then (0, 16, q.map (·.1)) else (len, 0, q.map (·.1) ++ [⟨N, pl⟩])) = R) := HU2
    have HPl : Hid (pl.length ≤ 1099511627777 ∧ 1 ≤ pl.length) := hpl
    clear HU2 HU hcap hob hbr hple hsg hpl HOR
    go_wp2_with (fail)
    refine hRs.mono ?_
    rintro e w2 ⟨v, rfl, ho2, hb2⟩
    obtain ⟨g, c, hv, hc, hgl, hgw, _⟩ := ownI_form ho2 (List.length_pos_iff.1 HPl.out.2)
    subst hv
    have HO2 : Hid (OwnI w2 0 (.slice (some ⟨g, 0, none⟩) pl.length c) pl ∧ w1.heap.size ≤ g) := ⟨ownI_mono ho2 (Nat.zero_le _), hgw⟩
    have HB2 : Hid (Below w.heap.size w w2) := HB1.out.trans (hb2.mono HB1.out.size)
    have HG2 : Hid (w.heap.size ≤ g) := Nat.le_trans HB1.out.size hgw
    clear hRs ho2 hb2 hc hgl hgw
    obtain ⟨sb, hsb⟩ : ∃ sb, sb = w2.heap.size := ⟨_, rfl⟩
    obtain ⟨w3, hw3⟩ : ∃ w3, w3 = w2.alloc (.cells #[.int .i64 (N : Int), .slice (some ⟨g, 0, none⟩) pl.length c] 101) := ⟨_, rfl⟩
    have hb3 : Below w2.heap.size w2 w3 := by rw [hw3]; exact (Below.refl _ _).alloc (Nat.le_refl _) _
    have HB3 : Hid (Below w.heap.size w w3) := HB2.out.trans (hb3.mono HB2.out.size)
    have HSb : Hid (w3.heap[sb]? = some (.cells #[.int .i64 (N : Int), .slice (some ⟨g, 0, none⟩) pl.length c] 101 (0, 0))) := by show _ = _; rw [hw3, hsb]; exact heap_alloc_new _ _
    have HO3 : Hid (OwnI w3 0 (.slice (some ⟨g, 0, none⟩) pl.length c) pl) := ownI_below HO2.out.1 hb3
    have Hsb : Hid (w.heap.size ≤ sb) := by show _ ≤ _; rw [hsb]; exact HB2.out.size
    have s0 : w3.cell? ⟨sb, 0, none⟩ = some (.int .i64 (N : Int)) := cell_blk HSb.out rfl
    have s1 : w3.cell? ⟨sb, 1, none⟩ = some (.slice (some ⟨g, 0, none⟩) pl.length c) := cell_blk HSb.out rfl
    obtain ⟨X, hX⟩ : ∃ X, N + pl.length - 1 = X := ⟨_, rfl⟩
    have hNx : Calls Tryz.prog 67 #[sgV N (.slice (some ⟨g, 0, none⟩) pl.length c)] w3 fun e w' => e = .returned (.int .i64 (X : Int)) ∧ Below w3.heap.size w3 w' :=
      (next_any w3 N _ _ _ (by have := HPl.out; omega) (by have := HN.out; omega) (by have := HPl.out; omega)).mono fun e w' q => ⟨by rw [q.1, hX], q.2⟩
    have HXe : Hid ((⟨N, pl⟩ : Sg).next = X) := hX
    have bX : (X : Int) ≤ 1099512627776 := by have := HPl.out; have := HN.out; omega
    clear hb3 hX
    go_wp2_with (fail)
    (try rw [← hsb])
    (try rw [← hw3])
    clear hw3 hsb
    go_wp2_with (fail)
    refine hNx.mono ?_
    rintro e w4 ⟨rfl, hb4⟩
    have HB4 : Hid (Below w.heap.size w w4) := HB3.out.trans (hb4.mono HB3.out.size)
    have HS4 : Hid (w4.heap[sb]? = some (.cells #[.int .i64 (N : Int), .slice (some ⟨g, 0, none⟩) pl.length c] 101 (0, 0))) := (hb4.block _ (lt_blk HSb.out)).trans HSb.out
    have HO4 : Hid (OwnI w4 0 (.slice (some ⟨g, 0, none⟩) pl.length c) pl) := ownI_below HO3.out hb4
    clear hNx hb4 s0 s1
    have HU4 := HU3.out
    rw [HXe.out] at HU4
    by_cases hbig : 1000000 < X
    · have b1 : (1000000 : Int) < (X : Int) := by omega
      rw [if_pos hbig] at HU4
      have HU5 : Hid ((0, 16, q.map (·.1)) = R) := HU4
      clear HU4 hbig
      go_wp2_with (fail)
      go_ret2
      exact ⟨by rw [← HU5.out]; rfl, by rw [← HU5.out]; exact ⟨S, T, vs, q, HW.out.same HB4.out, rfl, StW.same S T HB4.out⟩⟩
    · have b1 : ¬ (1000000 : Int) < (X : Int) := by omega
      rw [if_neg hbig] at HU4
      have HU5 : Hid ((len, 0, q.map (·.1) ++ [⟨N, pl⟩]) = R) := HU4
      clear HU4 hbig HPS
      have HW4 : Hid (Wl w0 w4 b m S d p T vs q) := HW.out.same HB4.out
      have HPS : Hid (w4.heap[p]? = some (.cells #[dptr b, vs] 99 (0, 0)) ∧ w4.heap[sb]? = some (.cells #[.int .i64 (N : Int), .slice (some ⟨g, 0, none⟩) pl.length c] 101 (0, 0))) := ⟨HW4.out.lg.blk, HS4.out⟩
      have n1 : ∀ w' : World, w'.heap[p]? = some (.cells #[dptr b, vs] 99 (0, 0)) ∧ w'.heap[sb]? = some (.cells #[.int .i64 (N : Int), .slice (some ⟨g, 0, none⟩) pl.length c] 101 (0, 0)) → w'.cell? ⟨p, 1, none⟩ = some vs := fun w' hw => cell_blk hw.1 rfl
      have k0 : ∀ w' : World, w'.heap[p]? = some (.cells #[dptr b, vs] 99 (0, 0)) ∧ w'.heap[sb]? = some (.cells #[.int .i64 (N : Int), .slice (some ⟨g, 0, none⟩) pl.length c] 101 (0, 0)) → w'.cell? ⟨sb, 0, none⟩ = some (.int .i64 (N : Int)) := fun w' hw => cell_blk hw.2 rfl
      have k1 : ∀ w' : World, w'.heap[p]? = some (.cells #[dptr b, vs] 99 (0, 0)) ∧ w'.heap[sb]? = some (.cells #[.int .i64 (N : Int), .slice (some ⟨g, 0, none⟩) pl.length c] 101 (0, 0)) → w'.cell? ⟨sb, 1, none⟩ = some (.slice (some ⟨g, 0, none⟩) pl.length c) := fun w' hw => cell_blk hw.2 rfl
      have HsT : Hid (¬ T sb) := fun e => by have := HW.out.lg.lt _ e; have := Hsb.out; omega
      go_wp2_with (fail)
      refine regionC (fun (w' : World) => w'.heap[p]? = some (.cells #[dptr b, vs] 99 (0, 0)) ∧ w'.heap[sb]? = some (.cells #[.int .i64 (N : Int), .slice (some ⟨g, 0, none⟩) pl.length c] 101 (0, 0))) 10 (by kernel_rfl) ?_
      (try (change wpAnyC _ _ _ _ _ _ _ _ _ (World.drew _)))
      refine nameW (fun W0 hW0 => ?_)
      have hC : Hid (W0.heap[p]? = some (.cells #[dptr b, vs] 99 (0, 0)) ∧ W0.heap[sb]? = some (.cells #[.int .i64 (N : Int), .slice (some ⟨g, 0, none⟩) pl.length c] 101 (0, 0))) := by show _ ∧ _; rw [hW0]; exact HPS.out
      have hB : Hid (Below w4.heap.size w4 W0) := by show Below _ _ _; rw [hW0]; exact ⟨rfl, rfl, rfl, Nat.le_refl _, fun _ _ => rfl⟩
      clear hW0
      refine takeC (i := 0) (v := ?_) rfl (by kernel_rfl) (by kernel_rfl) (by kernel_rfl) (by kernel_rfl) (by kernel_rfl) (fun _ _ _ h => h) hC.out (Or.inl ⟨by rfl, ?_⟩) ?_
      rotate_left 1
      · intro w' hw'
        skip
        go_simp
        first | done | with_reducible rfl
      (try simp only [Act.put])
      (try simp only [List.setIfInBounds_toArray])
      (try simp only [List.set_cons_succ])
      (try simp only [List.set_cons_zero])
      refine takeC (i := 1) (v := ?_) rfl (by kernel_rfl) (by kernel_rfl) (by kernel_rfl) (by kernel_rfl) (by kernel_rfl) (fun _ _ _ h => h) hC.out (Or.inl ⟨by rfl, ?_⟩) ?_
      rotate_left 1
      · intro w' hw'
        skip
        go_simp
        first | done | with_reducible rfl
      (try simp only [Act.put])
      (try simp only [List.setIfInBounds_toArray])
      (try simp only [List.set_cons_succ])
      (try simp only [List.set_cons_zero])
      refine takeC (i := 2) (v := ?_) rfl (by kernel_rfl) (by kernel_rfl) (by kernel_rfl) (by kernel_rfl) (by kernel_rfl) (fun _ _ _ h => h) hC.out (Or.inl ⟨by rfl, ?_⟩) ?_
      rotate_left 1
      · intro w' hw'
        skip
        go_simp
        first | done | with_reducible rfl
      (try simp only [Act.put])
      (try simp only [List.setIfInBounds_toArray])
      (try simp only [List.set_cons_succ])
      (try simp only [List.set_cons_zero])
      refine takeC (i := 3) (v := ?_) rfl (by kernel_rfl) (by kernel_rfl) (by kernel_rfl) (by kernel_rfl) (by kernel_rfl) (fun _ _ _ h => h) hC.out (Or.inl ⟨by rfl, ?_⟩) ?_
      rotate_left 1
      · intro w' hw'
        skip
        go_simp
        first | done | with_reducible rfl
      (try simp only [Act.put])
      (try simp only [List.setIfInBounds_toArray])
      (try simp only [List.set_cons_succ])
      (try simp only [List.set_cons_zero])
      refine takeC (i := 4) (v := ?_) rfl (by kernel_rfl) (by kernel_rfl) (by kernel_rfl) (by kernel_rfl) (by kernel_rfl) (fun _ _ _ h => h) hC.out (Or.inl ⟨by rfl, ?_⟩) ?_
      rotate_left 1
      · intro w' hw'
        have z0 := n1 w' hw'; have z1 := k0 w' hw'; have z2 := k1 w' hw'
        go_simp
        first | done | with_reducible rfl
      (try simp only [Act.put])
      (try simp only [List.setIfInBounds_toArray])
      (try simp only [List.set_cons_succ])
      (try simp only [List.set_cons_zero])
      refine takeC (i := 5) (v := ?_) rfl (by kernel_rfl) (by kernel_rfl) (by kernel_rfl) (by kernel_rfl) (by kernel_rfl) (fun _ _ _ h => h) hC.out (Or.inl ⟨by rfl, ?_⟩) ?_
      rotate_left 1
      · intro w' hw'
        have z0 := n1 w' hw'; have z1 := k0 w' hw'; have z2 := k1 w' hw'
        go_simp
        first | done | with_reducible rfl
      (try simp only [Act.put])
      (try simp only [List.setIfInBounds_toArray])
      (try simp only [List.set_cons_succ])
      (try simp only [List.set_cons_zero])
      refine readyC (rs := [6]) (by kernel_rfl) (by simp) ?_
      refine ReadyC.cons rfl (fun K hK => ?_) ReadyC.nil
      go_simp
      refine hK _ _ (fun _ => ⟨(heap_alloc_old W0 _ (lt_blk hC.out.1)).trans hC.out.1, (heap_alloc_old W0 _ (lt_blk hC.out.2)).trans hC.out.2⟩) ?_
      clear hK K
      (try simp only [Act.put])
      (try simp only [List.setIfInBounds_toArray])
      (try simp only [List.set_cons_succ])
      (try simp only [List.set_cons_zero])
      refine nameW (fun W1 hW => ?_)
      have hx : Below W0.heap.size W0 W1 := by rw [hW]; exact (Below.refl _ _).alloc (Nat.le_refl _) _
      have hc0 : Hid (W1.cell? ⟨W0.heap.size, 0, none⟩ = some (.int .i64 (N : Int))) := by show _ = _; rw [hW]; exact lit_cells W0 [.int .i64 (N : Int), .slice (some ⟨g, 0, none⟩) pl.length c] 101 0 _ rfl
      have hc1 : Hid (W1.cell? ((⟨W0.heap.size, 0, none⟩ : Addr).add 1) = some (.slice (some ⟨g, 0, none⟩) pl.length c)) := by show _ = _; rw [hW]; exact lit_cells W0 [.int .i64 (N : Int), .slice (some ⟨g, 0, none⟩) pl.length c] 101 1 _ rfl
      replace hB : Hid (Below w4.heap.size w4 W1) := hB.out.trans (hx.mono hB.out.size)
      replace hC : Hid (W1.heap[p]? = some (.cells #[dptr b, vs] 99 (0, 0)) ∧ W1.heap[sb]? = some (.cells #[.int .i64 (N : Int), .slice (some ⟨g, 0, none⟩) pl.length c] 101 (0, 0))) := ⟨(hB.out.block _ (lt_blk HPS.out.1)).trans HPS.out.1, (hB.out.block _ (lt_blk HPS.out.2)).trans HPS.out.2⟩
      clear hx hW
      refine readyC (rs := [7]) (by kernel_rfl) (by simp) ?_
      refine ReadyC.cons rfl (fun K hK => ?_) ReadyC.nil
      refine stepC_runs rfl (.tmp 33) (.tmp 35) rfl _ _ rfl rfl _ (append_seg (x := (⟨N, pl⟩, .slice (some ⟨g, 0, none⟩) pl.length c)) ((HW4.out.same hB.out).lg.row) _ _ hc0.out hc1.out rfl (by have := HFw.out; omega) _) ?_
      intro vo W2 hA
      obtain ⟨go, co, Ko, ho⟩ : ∃ g c K, vo = .slice (some ⟨g, 0, none⟩) K c := by
        rcases hA.1.2 with ⟨_, h0⟩ | ⟨go, co, cur, ho, _⟩
        · simp at h0
        · exact ⟨go, co, _, ho⟩
      subst ho
      have hrp : ∀ r, vs.ownBlock = some r → r ≠ p ∧ r ≠ sb := fun r hr => by
        obtain ⟨cur, hcu⟩ := ownQ_type HW4.out.lg.row hr
        exact ⟨ne_types hcu HPS.out.1 (by decide), fun e => HsT.out (e ▸ HW4.out.lg.tr r hr)⟩
      have hkk : W2.heap[p]? = some (.cells #[dptr b, vs] 99 (0, 0)) ∧ W2.heap[sb]? = some (.cells #[.int .i64 (N : Int), .slice (some ⟨g, 0, none⟩) pl.length c] 101 (0, 0)) := ⟨(hA.2.1.block p (lt_blk hC.out.1) (by intro e; exact (hrp p e.symm).1 rfl)).trans hC.out.1, (hA.2.1.block sb (lt_blk hC.out.2) (by intro e; exact (hrp sb e.symm).2 rfl)).trans hC.out.2⟩
      refine hK _ _ (fun _ => hkk) ?_
      clear hK K
      (try simp only [Act.put])
      (try simp only [List.setIfInBounds_toArray])
      (try simp only [List.set_cons_succ])
      (try simp only [List.set_cons_zero])
      have HPu : Hid (PushedQ W1 vs q (⟨N, pl⟩, .slice (some ⟨g, 0, none⟩) pl.length c) (.slice (some ⟨go, 0, none⟩) Ko co) W2) := hA
      have HB16 : Hid (Below w4.heap.size w4 W1) := hB.out
      replace hC : Hid (W2.heap[p]? = some (.cells #[dptr b, vs] 99 (0, 0)) ∧ W2.heap[sb]? = some (.cells #[.int .i64 (N : Int), .slice (some ⟨g, 0, none⟩) pl.length c] 101 (0, 0))) := hkk
      clear hA hkk hrp hc0 hc1 hB
      refine takeC (i := 8) (v := ?_) rfl (by kernel_rfl) (by kernel_rfl) (by kernel_rfl) (by kernel_rfl) (by kernel_rfl) (fun _ _ _ h => h) hC.out (Or.inl ⟨by rfl, ?_⟩) ?_
      rotate_left 1
      · intro w' hw'
        skip
        go_simp
        first | done | with_reducible rfl
      (try simp only [Act.put])
      (try simp only [List.setIfInBounds_toArray])
      (try simp only [List.set_cons_succ])
      (try simp only [List.set_cons_zero])
      refine takeC (i := 9) (v := ?_) rfl (by kernel_rfl) (by kernel_rfl) (by kernel_rfl) (by kernel_rfl) (by kernel_rfl) (fun _ _ _ h => h) hC.out (Or.inl ⟨by rfl, ?_⟩) ?_
      rotate_left 1
      · intro w' hw'
        skip
        go_simp
        first | done | with_reducible rfl
      (try simp only [Act.put])
      (try simp only [List.setIfInBounds_toArray])
      (try simp only [List.set_cons_succ])
      (try simp only [List.set_cons_zero])
      refine readyC (rs := [10]) (by kernel_rfl) (by simp) ?_
      refine ReadyC.cons rfl (fun K hK => ?_) ReadyC.nil
      have y1 := n1 W2 hC.out
      have y2 := free_blk hC.out.1
      go_simp
      refine hK _ _ (fun h => absurd rfl h) ?_
      clear hK K
      (try simp only [Act.put])
      (try simp only [List.setIfInBounds_toArray])
      (try simp only [List.set_cons_succ])
      (try simp only [List.set_cons_zero])
      refine nameW (fun W3 hW => ?_)
      have HD16 : Hid (DidW w0 w b m S p T d (q.map (·.1) ++ [⟨N, pl⟩]) W3) := by
        obtain ⟨T', hwl, hfr, hT'⟩ := (HW4.out.same HB16.out).push (x := (⟨N, pl⟩, .slice (some ⟨g, 0, none⟩) pl.length c)) (ownI_below HO4.out HB16.out) (List.length_pos_iff.1 HPl.out.2) HN.out HPl.out.1 (fun k hk => by
          obtain rfl : g = k := Option.some.inj hk
          have h1 := HG2.out
          have h2 := HW.out.lv.below.size
          refine ⟨by omega, fun e => ?_, fun e => ?_⟩
          · obtain ⟨sl, hd⟩ := HW.out.lv.dk
            have := hd.lt _ e; omega
          · have := HW.out.lg.lt _ e; omega) HFw.out HPu.out hW
        have hbb : Below w.heap.size w W1 := HB4.out.trans (HB16.out.mono HB4.out.size)
        refine ⟨S, T', _, _, hwl, by simp, (StW.same S T hbb).more ⟨hfr.os, hfr.tape, hfr.output, hfr.size, fun k hk hn => hfr.block k hk (fun e => hn (.inl e))⟩ (fun k hk => ?_)⟩
        rcases hT' k hk with e | e | e
        · exact .inl e
        · obtain rfl : g = k := Option.some.inj e
          exact .inr HG2.out
        · exact .inr (Nat.le_trans hbb.size e)
      clear hW y1 y2 hC
      refine doneC (by kernel_rfl) ?_ _
      clear n1 k0 k1
      go_wp2_with (fail)
      go_ret2
      exact ⟨by rw [← HU5.out]; rfl, by rw [← HU5.out]; exact HD16.out⟩
  · have q9 : ((fv : Int) != 0) = true := by simp; omega
    have q8 : ((fv : Int) == 0) = false := by simp; omega
    have HU2 := HU.out
    rw [if_pos hz] at HU2
    have HU3 : Hid ((0, fv, q.map (·.1)) = R) := HU2
    clear HU2 HU hz HOR
    go_wp2_with (fail)
    go_ret2
    exact ⟨by rw [← HU3.out]; rfl, by rw [← HU3.out]; exact ⟨S, T, vs, q, HW.out.same HB1.out, rfl, StW.same S T HB1.out⟩⟩
end Go.Proofs.YtkbmblmnhhlicaaGreatDoor
