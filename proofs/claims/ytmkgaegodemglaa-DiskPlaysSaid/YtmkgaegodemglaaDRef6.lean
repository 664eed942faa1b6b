/- The document's disk: Crash, deed; walked. -/
import Derived.Test.YtmkgaegodemglaaDRef5
set_option linter.unusedVariables false
namespace Go.Proofs.Ytmkgaegodemglaa
open Go.RowKit

theorem set_putA {α : Type} {n : Nm} {u v : α} {l : List (Nm × α)} {k : Nat} (h : Rises l) (hk : l[k]? = some (n, u)) : l.set k (n, v) = putA n v l := by
  obtain ⟨hl, he⟩ := List.getElem?_eq_some_iff.1 hk
  have e : l = l.take k ++ (n, u) :: l.drop (k + 1) := by
    rw [← he, ← List.drop_eq_getElem_cons hl, List.take_append_drop]
  have e2 : putA n v l = l.take k ++ (n, v) :: l.drop (k + 1) := by
    rw [e] at h
    have := putA_at (v := v) _ _ h
    rw [← e] at this
    exact this
  rw [e2, List.set_eq_take_append_cons_drop, if_pos hl]
theorem okSet {d : Dk} (h : DkOk d) {k : Nat} {n : Nm} {f : Fl} (hk : d.files[k]? = some (n, f)) {bs' : List UInt8} {la' : Nat} (hb : bs'.length ≤ f.bs.length) (hla : la' ≤ bs'.length) : DkOk { d with files := d.files.set k (n, ⟨bs', la'⟩) } := by
  have hg : getA n d.files = some f := getA_of_mem h.rises (List.mem_of_getElem? hk)
  rw [set_putA h.rises hk]
  have hu := putA_used h.rises hg bs' la' hb
  refine { rises := rises_putA h.rises, lasts := ?_, fits := by have := h.fits; show usedL (putA n ⟨bs', la'⟩ d.files) ≤ d.room; omega, room := h.room, ahead := h.ahead, keep := h.keep, few := ?_, small := by have := h.small; show usedL (putA n ⟨bs', la'⟩ d.files) ≤ _; omega }
  · intro p hp
    rcases mem_putA.1 hp with rfl | ⟨hp, _⟩
    · exact hla
    · exact h.lasts p hp
  · show (putA n (⟨bs', la'⟩ : Fl) d.files).length ≤ _
    rw [putA_len h.rises hg]; exact h.few

def AppB (w : World) (B : Nat) (l : List UInt8) (vo : Value) (w2 : World) : Prop := OwnB w2 B vo l ∧ Below B w w2 ∧ ∃ a m c, vo = .slice a m c ∧ m = l.length
theorem app_bytes {w : World} {B : Nat} {v : Value} {acc l : List UInt8} {a : Option Addr} {len cap : Nat} (hown : OwnB w B v acc) (h : BRow w a len cap l) (hlen : acc.length + len ≤ 140737488355328) (hB : B ≤ w.heap.size) (ty : TypeId) :
    ∃ vo w2, (Builtin.append_ #[29, 29] ty #[v, .slice a len cap]).run Try.prog w = .ok vo w2 ∧ AppB w B (acc ++ l) vo w2 := by
  obtain ⟨vo, w2, h1, h2, h3⟩ := append_brow hown h hlen hB ty
  refine ⟨vo, w2, h1, h2, h3, ?_⟩
  obtain ⟨a', c', e⟩ := own_slice h2
  exact ⟨a', _, c', e, rfl⟩

theorem nameW {P : Program} {c : Code} {Q : Exit → Act → World → Prop} {a : Act} {w : World} (h : ∀ w', w' = w → c.wp P Q a w') : c.wp P Q a w := h w rfl
theorem RkW.drewN {w : World} {b : Nat} {S : Nat → Prop} {fs : Value} {l : FV} {d : Dk} (h : RkW w b S fs l d) (j : Nat) : RkW (w.drewN j) b S fs l d := h.keep (Nat.le_refl _) (fun _ _ => rfl)
/-- How much of a file lasts is set in its place. -/
theorem setl_done {W W' : World} {b g k c : Nat} {S : Nat → Prop} {l : FV} {d : Dk} {n : Nm} {f : Fl} {v : Value} {la' : Nat} (h : RkW W b S (.slice (some ⟨g, 0, none⟩) l.length c) l d) (hl : l[k]? = some ((n, f), v)) (hn : n.length ≤ 140737488355328) (hla : la' ≤ f.bs.length)
    (hW : W' = W.setCell ⟨g, k * 3 + 2, none⟩ (.int .i64 (la' : Int))) : RkW W' b S (.slice (some ⟨g, 0, none⟩) (l.set k ((n, ⟨f.bs, la'⟩), v)).length c) (l.set k ((n, ⟨f.bs, la'⟩), v)) { d with files := d.files.set k (n, ⟨f.bs, la'⟩) } ∧ Fr S W W' := by
  subst hW
  have hm := List.mem_of_getElem? hl
  have hsg : S g := h.sf g rfl
  refine ⟨RkW.inrow h (by rw [set_size]; exact Nat.le_refl _) (fun j _ hne => set_other _ hne) ?_ rfl (okSet h.ok (h.put hl) (Nat.le_refl _) hla) hn ?_ S (fun j hj => hj) (fun j hj => by rw [set_size]; exact h.lt j hj) (fun j hj => h.sr _ hm j hj), (Fr.refl S W).set (p := ⟨g, k * 3 + 2, none⟩) hsg _⟩
  · rw [← set_lasts hl]
    exact (h.row.stored (k * 3 + 2) _).1
  · refine ownB_keep (show OwnB W 0 v f.bs from h.bytes _ hm) (fun j hj => set_other _ ?_)
    intro e
    exact (h.ne_q hm hj).2 (by rw [e]; rfl)

/-- A file's bytes are others, laid anew. -/
theorem setb_done {W w2 : World} {b g k c : Nat} {S : Nat → Prop} {l : FV} {d : Dk} {n : Nm} {f : Fl} {v v' : Value} {bs' : List UInt8} (h : RkW W b S (.slice (some ⟨g, 0, none⟩) l.length c) l d) (hb : Below W.heap.size W w2) (ho : OwnB w2 W.heap.size v' bs') (hl : l[k]? = some ((n, f), v)) (hn : n.length ≤ 140737488355328)
    {d' : Dk} (hd : d' = { d with files := d.files.set k (n, ⟨bs', f.la⟩) }) (hok : DkOk d') : RidS W b S d' (w2.setCell ⟨g, k * 3 + 1, none⟩ v') := by
  have hv : ∀ j, v'.ownBlock = some j → W.heap.size ≤ j ∧ j < w2.heap.size := fun j hj => by
    rcases ho.2 with ⟨rfl, _⟩ | ⟨g', cap, cur, rfl, hB, hgg, _⟩
    · cases hj
    · simp [Value.ownBlock] at hj
      subst hj
      exact ⟨hB, lt_blk hgg⟩
  have hsg : S g := h.sf g rfl
  have hgl := h.lt g hsg
  refine ⟨fun j => S j ∨ v'.ownBlock = some j, _, _, RkW.inrow (w := W) (q := ((n, ⟨bs', f.la⟩), v')) h (by rw [set_size]; exact hb.size) (fun j hj hne => by rw [set_other _ hne]; exact hb.block j hj) ?_ hd hok hn ?_ _ (fun j hj => .inl hj) ?_ (fun j hj => .inr hj), ?_, ?_⟩
  · have hr : w2.ownsRow 0 71 3 (.slice (some ⟨g, 0, none⟩) l.length c) l.length (rkCells l) := row_keep h.row (fun j hj => hb.block j (by simp [Value.ownBlock] at hj; subst hj; exact hgl))
    rw [← set_bytes hl]
    exact (hr.stored (k * 3 + 1) _).1
  · refine ownB_keep (ownB_lower ho) (fun j hj => set_other _ ?_)
    have := (hv j hj).1
    omega
  · intro j hj
    rw [set_size]
    rcases hj with hj | hj
    · exact Nat.lt_of_lt_of_le (h.lt j hj) hb.size
    · exact (hv j hj).2
  · exact (Fr.of_below S hb).set (p := ⟨g, k * 3 + 1, none⟩) hsg _
  · intro j hj
    rcases hj with hj | hj
    · exact .inl hj
    · exact .inr (hv j hj).1

set_option maxHeartbeats 4000000 in
set_option maxRecDepth 20000 in
theorem rcrash_any {w : World} {b : Nat} {S : Nat → Prop} {fs : Value} {l : FV} {d : Dk} (h : RkW w b S fs l d) (keep : Nat) (hkp : keep < 18446744073709551616) :
    Calls Try.prog 33 #[dptr b, .int .u64 (keep : Int)] w fun e w' => e = .returned (.tuple #[]) ∧ RidS w b S (crashD d keep) w' := by
  have c2 := h.c2
  unfold crashD
  cases hu : d.up with
  | false =>
    rw [hu] at c2
    rw [if_neg (by decide)]
    have HD : Hid (RkW w b S fs l d) := h
    clear h
    go_enter Try.func33, Try.ntmps33
    go_wp2
    (try simp only [Exit.inBlock, Exit.then])
    refine bodyPost_ret (results_none rfl _ _ _) rfl ?_
    exact ⟨rfl, RidS.mk1 HD.out (Fr.refl S w)⟩
  | true =>
  rw [hu] at c2
  rw [if_pos rfl]
  have hfew : d.files.length ≤ 1048576 := h.ok.few
  have HRs : Hid (Rises d.files) := h.ok.rises
  have HR0 : Hid (RidS w b S (fallK keep 0 d) w) := by rw [fallK_zero]; exact RidS.mk1 h (Fr.refl S w)
  have HOk : Hid (DkOk d) := h.ok
  have HU : Hid (d.up = true) := hu
  obtain ⟨N, hN⟩ : ∃ N, N = d.files.length := ⟨_, rfl⟩
  have HN : Hid (N = d.files.length) := hN
  rw [← hN] at hfew
  clear h hN
  go_enter Try.func33, Try.ntmps33
  go_wp2
  clear c2
  go_loopw [4] (fun i wr => ∃ (k : Nat), i = .int .i64 (k : Int) ∧ k ≤ N ∧ Hid (RidS w b S (fallK keep k d) wr)) (fun i _ => N - (intOf i).toNat)
  case atStart => exact ⟨0, rfl, Nat.zero_le _, HR0⟩
  case round =>
    obtain ⟨k, rfl, hk, HRk⟩ := hrel
    obtain ⟨S', fs', l', hR, hF, hS⟩ := HRk.out
    obtain ⟨fa, fc, rfl⟩ := hR.shape
    have hll : l'.length = N := by rw [hR.len, fallK_length, HN.out]
    have c1 := hR.c1
    rw [hll] at c1
    clear HRk
    by_cases hlt : k < N
    · have dlt : decide ((k : Int) < (N : Int)) = true := by simpa using hlt
      have hlt' : (k : Int) < (N : Int) := by omega
      obtain ⟨n, bs, la, hp⟩ : ∃ n bs la, d.files[k]? = some (n, ⟨bs, la⟩) := ⟨_, _, _, List.getElem?_eq_getElem (by rw [← HN.out]; exact hlt)⟩
      have hpk : (fallK keep k d).files[k]? = some (n, ⟨bs, la⟩) := by
        rw [fallK_at hp, List.getElem?_append_right (by rw [fallL_length, List.length_take]; omega), fallL_length, List.length_take]
        rw [show k - min k d.files.length = 0 by have := HN.out; omega]
        rfl
      obtain ⟨v, hlk⟩ := hR.get hpk
      obtain ⟨g, c', he, hSg, hgb, x0, x1, x2, xf⟩ := hR.at hlk
      have e1 : fa = some ⟨g, 0, none⟩ := congrArg (fun v => match v with | Value.slice a _ _ => a | _ => none) he
      subst e1
      have hown := hR.bytes _ (List.mem_of_getElem? hlk)
      simp only at hown x1 x2
      obtain ⟨va, vc, rfl⟩ := own_slice hown
      have hmem : (n, (⟨bs, la⟩ : Fl)) ∈ (fallK keep k d).files := List.mem_of_getElem? hpk
      have hget : getA n (fallK keep k d).files = some ⟨bs, la⟩ := getA_of_mem hR.ok.rises hmem
      have hpl : n.length ≤ 140737488355328 := hR.names _ hmem
      have hla : la ≤ bs.length := hR.ok.lasts _ hmem
      have hbl : bs.length ≤ 140737488355328 := by have := usedL_get hR.ok.rises hget; have := hR.ok.small; simp only at *; omega
      obtain ⟨ST, hST⟩ : ∃ ST, ST = stay keep k ⟨bs, la⟩ := ⟨_, rfl⟩
      have hst : la ≤ ST ∧ ST ≤ bs.length := by rw [hST]; exact stay_le (f := ⟨bs, la⟩) hla
      obtain ⟨Q, hQ⟩ : ∃ Q, Q = keep / (k + 1) := ⟨_, rfl⟩
      obtain ⟨R, hRr⟩ : ∃ R, R = Q % (bs.length - la + 1) := ⟨_, rfl⟩
      have hR1 : R ≤ bs.length - la := by rw [hRr]; have := Nat.mod_lt Q (show 0 < bs.length - la + 1 by omega); omega
      have hSTR : (la : Int) + (R : Int) = (ST : Int) := by rw [hST, hRr, hQ]; unfold stay; simp only; omega
      have hQ1 : Q ≤ keep := by rw [hQ]; exact Nat.div_le_self _ _
      obtain ⟨BL, hBL⟩ : ∃ BL : Nat, BL = bs.length - la := ⟨_, rfl⟩
      have hBL2 : (bs.length : Int) - (la : Int) = (BL : Int) := by omega
      have q1 : (keep : Int).tdiv ((k : Int) + 1) = (Q : Int) := by rw [hQ, Int.tdiv_eq_ediv_of_nonneg (by omega)]; norm_cast
      have q2 : (Q : Int).tmod ((BL : Int) + 1) = (R : Int) := by rw [hRr, ← hBL, Int.tmod_eq_emod_of_nonneg (by omega)]; norm_cast
      have i1 : (bs.length : Int) ≤ 140737488355328 := by omega
      have i2 : (la : Int) ≤ (bs.length : Int) := by omega
      have i3 : (Q : Int) ≤ 18446744073709551615 := by omega
      have i4 : (R : Int) ≤ 140737488355328 := by omega
      have i5 : (k : Int) ≤ 1048576 := by omega
      have i6 : (ST : Int) ≤ 140737488355328 := by omega
      have i7 : (BL : Int) ≤ 140737488355328 := by omega
      have HST : Hid (ST = stay keep k ⟨bs, la⟩) := hST
      have HP : Hid (d.files[k]? = some (n, ⟨bs, la⟩)) := hp
      have HRR : Hid (RkW wr b S' (.slice (some ⟨g, 0, none⟩) l'.length fc) l' (fallK keep k d)) := hR
      have HLk : Hid (l'[k]? = some ((n, ⟨bs, la⟩), .slice va bs.length vc)) := hlk
      have HFr : Hid (Fr S w wr) := hF
      have HSs : Hid (∀ j, S' j → S j ∨ w.heap.size ≤ j) := hS
      have HSz : Hid (la ≤ ST ∧ ST ≤ bs.length ∧ bs.length ≤ 140737488355328) := ⟨hst.1, hst.2, hbl⟩
      have HNL : Hid (n.length ≤ 140737488355328) := hpl
      have HOB : Hid (OwnB wr 0 (.slice va bs.length vc) bs) := hown
      have HLL : Hid (l'.length = N) := hll
      have c1q : ∀ j, (wr.drewN j).cell? ⟨b, 1, none⟩ = some (.slice (some ⟨g, 0, none⟩) N fc) := fun j => c1
      have x1q : ∀ j, (wr.drewN j).cell? ⟨g, k * 3 + 1, none⟩ = some (.slice va bs.length vc) := fun j => x1
      have x2q : ∀ j, (wr.drewN j).cell? ⟨g, k * 3 + 2, none⟩ = some (.int .i64 (la : Int)) := fun j => x2
      have f2 := xf (k * 3 + 2)
      clear he hSg hgb hown hmem hget hpl hla hbl hst hST hQ hRr hR1 hQ1 hBL hp hpk hlk hR hF hS hll x0 xf HRs HR0
      go_wp2
      go_quiet (fail)
      go_wp2
      go_region
      go_wp2
      clear c1 c1q x1 x1q x2 x2q f2
      refine nameW (fun W6 hW6 => ?_)
      obtain ⟨hR6, hF6⟩ := setl_done (W := wr.drewN _) (HRR.out.drewN _) HLk.out HNL.out (la' := ST) HSz.out.2.1 hW6
      have hlk6 : (l'.set k ((n, ⟨bs, ST⟩), Value.slice va bs.length vc))[k]? = some ((n, ⟨bs, ST⟩), Value.slice va bs.length vc) := List.getElem?_set_self (List.getElem?_eq_some_iff.1 HLk.out).1
      have HF6 : Hid (Fr S w W6) := HFr.out.trans (((Fr.refl S' wr).drewN _).tr hF6) HSs.out
      have HS6 := HSs
      have hlen6 : (l'.set k ((n, ⟨bs, ST⟩), Value.slice va bs.length vc)).length = N := by rw [List.length_set]; exact HLL.out
      have HR6 : Hid (RkW W6 b S' (.slice (some ⟨g, 0, none⟩) (l'.set k ((n, ⟨bs, ST⟩), Value.slice va bs.length vc)).length fc) (l'.set k ((n, ⟨bs, ST⟩), Value.slice va bs.length vc)) { fallK keep k d with files := (fallK keep k d).files.set k (n, ⟨bs, ST⟩) }) := hR6
      have HLk6 : Hid ((l'.set k ((n, ⟨bs, ST⟩), Value.slice va bs.length vc))[k]? = some ((n, ⟨bs, ST⟩), Value.slice va bs.length vc)) := hlk6
      have HC1c : ∀ w', Below W6.heap.size W6 w' → w'.cell? ⟨b, 1, none⟩ = some (.slice (some ⟨g, 0, none⟩) N fc) ∧ w'.cell? ⟨g, k * 3 + 1, none⟩ = some (.slice va bs.length vc) ∧ w'.cell? ⟨g, k * 3 + 2, none⟩ = some (.int .i64 (ST : Int)) := fun w' hw' => by
        have q := HR6.out.below hw'
        obtain ⟨g', c'', he, _, _, _, y1, y2, _⟩ := q.at HLk6.out
        have e : g = g' := by have := congrArg (fun v => match v with | Value.slice (some x) _ _ => x.block | _ => 0) he; exact this
        subst e
        have z := q.c1
        rw [hlen6] at z
        exact ⟨z, y1, y2⟩
      have HX1 : Hid (∀ w', Below W6.heap.size W6 w' → w'.cell? ⟨g, k * 3 + 1, none⟩ = some (.slice va bs.length vc) ∧ w'.frozen? ⟨g, k * 3 + 1, none⟩ = false) := fun w' hw' => by
        have q := HR6.out.below hw'
        obtain ⟨g', c'', he, _, _, _, y1, y2, y3⟩ := q.at HLk6.out
        have e : g = g' := by have := congrArg (fun v => match v with | Value.slice (some x) _ _ => x.block | _ => 0) he; exact this
        subst e
        exact ⟨y1, y3 _⟩
      have hob6 : OwnB W6 0 (.slice va bs.length vc) bs := HR6.out.bytes _ (List.mem_of_getElem? HLk6.out)
      have HBr : Hid (BRow W6 va ST vc (bs.take ST)) := (own_brow hob6).pre HSz.out.2.1
      have s1 := slice_to va bs.length vc ST HSz.out.2.1 (own_take hob6 0 (Nat.zero_le _)).2.1
      have HOk7 : Hid (DkOk { fallK keep k d with files := ((fallK keep k d).files.set k (n, ⟨bs, ST⟩)).set k (n, ⟨bs.take ST, ST⟩) }) := okSet (f := ⟨bs, ST⟩) HR6.out.ok (HR6.out.put HLk6.out) (by rw [List.length_take]; exact Nat.min_le_right _ _) (by rw [List.length_take]; have := HSz.out; omega)
      have HEq : Hid ({ fallK keep k d with files := ((fallK keep k d).files.set k (n, ⟨bs, ST⟩)).set k (n, ⟨bs.take ST, ST⟩) } = fallK keep (k + 1) d) := by
        show _ = _
        have h1 : (fallK keep k d).files[k]? = some (n, ⟨bs, la⟩) := HRR.out.put HLk.out
        rw [List.set_set, set_putA HRR.out.ok.rises h1]
        have ef : fallF keep k ⟨bs, la⟩ = ⟨bs.take ST, ST⟩ := by unfold fallF; rw [HST.out]
        have := fallK_next (keep := keep) (p := (n, ⟨bs, la⟩)) HOk.out.rises HP.out
        rw [ef] at this
        simp only at this
        rw [this]
        rfl
      clear hR6 hF6 hlk6 hlen6 hob6 hW6 HRR HLk HOB HFr
      refine regionC (fun w' => Below W6.heap.size W6 w') 26 (by kernel_rfl) ?_
      (try (change wpAnyC _ _ _ _ _ _ _ _ _ (World.drew _)))
      refine nameC (fun W0 hW0 => ?_)
      have hC : Hid (Below W6.heap.size W6 W0) := by show Below _ _ _; rw [hW0]; exact ⟨rfl, rfl, rfl, Nat.le_refl _, fun _ _ => rfl⟩
      clear hW0
      refine takeC (i := 0) (v := ?_) rfl (by kernel_rfl) (by kernel_rfl) (by kernel_rfl) (by kernel_rfl) (by kernel_rfl) (fun _ _ _ h => h) hC.out (Or.inl ⟨by rfl, ?_⟩) ?_
      rotate_left 1
      · intro w' hw'
        skip
        go_simp
        first | done | with_reducible rfl
      (try simp only [Act.put])
      (try simp only [List.setIfInBounds_toArray])
      (try simp only [List.set_cons_succ])
      (try simp only [List.set_cons_zero])
      refine takeC (i := 1) (v := ?_) rfl (by kernel_rfl) (by kernel_rfl) (by kernel_rfl) (by kernel_rfl) (by kernel_rfl) (fun _ _ _ h => h) hC.out (Or.inl ⟨by rfl, ?_⟩) ?_
      rotate_left 1
      · intro w' hw'
        skip
        go_simp
        first | done | with_reducible rfl
      (try simp only [Act.put])
      (try simp only [List.setIfInBounds_toArray])
      (try simp only [List.set_cons_succ])
      (try simp only [List.set_cons_zero])
      refine takeC (i := 2) (v := ?_) rfl (by kernel_rfl) (by kernel_rfl) (by kernel_rfl) (by kernel_rfl) (by kernel_rfl) (fun _ _ _ h => h) hC.out (Or.inl ⟨by rfl, ?_⟩) ?_
      rotate_left 1
      · intro w' hw'
        skip
        go_simp
        first | done | with_reducible rfl
      (try simp only [Act.put])
      (try simp only [List.setIfInBounds_toArray])
      (try simp only [List.set_cons_succ])
      (try simp only [List.set_cons_zero])
      refine takeC (i := 3) (v := ?_) rfl (by kernel_rfl) (by kernel_rfl) (by kernel_rfl) (by kernel_rfl) (by kernel_rfl) (fun _ _ _ h => h) hC.out (Or.inl ⟨by rfl, ?_⟩) ?_
      rotate_left 1
      · intro w' hw'
        have z0 := HC1c w' hw'
        go_simp
        first | done | with_reducible rfl
      (try simp only [Act.put])
      (try simp only [List.setIfInBounds_toArray])
      (try simp only [List.set_cons_succ])
      (try simp only [List.set_cons_zero])
      refine takeC (i := 4) (v := ?_) rfl (by kernel_rfl) (by kernel_rfl) (by kernel_rfl) (by kernel_rfl) (by kernel_rfl) (fun _ _ _ h => h) hC.out (Or.inl ⟨by rfl, ?_⟩) ?_
      rotate_left 1
      · intro w' hw'
        skip
        go_simp
        first | done | with_reducible rfl
      (try simp only [Act.put])
      (try simp only [List.setIfInBounds_toArray])
      (try simp only [List.set_cons_succ])
      (try simp only [List.set_cons_zero])
      refine takeC (i := 6) (v := ?_) rfl (by kernel_rfl) (by kernel_rfl) (by kernel_rfl) (by kernel_rfl) (by kernel_rfl) (fun _ _ _ h => h) hC.out (Or.inl ⟨by rfl, ?_⟩) ?_
      rotate_left 1
      · intro w' hw'
        skip
        go_simp
        first | done | with_reducible rfl
      (try simp only [Act.put])
      (try simp only [List.setIfInBounds_toArray])
      (try simp only [List.set_cons_succ])
      (try simp only [List.set_cons_zero])
      refine takeC (i := 7) (v := ?_) rfl (by kernel_rfl) (by kernel_rfl) (by kernel_rfl) (by kernel_rfl) (by kernel_rfl) (fun _ _ _ h => h) hC.out (Or.inl ⟨by rfl, ?_⟩) ?_
      rotate_left 1
      · intro w' hw'
        skip
        go_simp
        first | done | with_reducible rfl
      (try simp only [Act.put])
      (try simp only [List.setIfInBounds_toArray])
      (try simp only [List.set_cons_succ])
      (try simp only [List.set_cons_zero])
      refine takeC (i := 8) (v := ?_) rfl (by kernel_rfl) (by kernel_rfl) (by kernel_rfl) (by kernel_rfl) (by kernel_rfl) (fun _ _ _ h => h) hC.out (Or.inl ⟨by rfl, ?_⟩) ?_
      rotate_left 1
      · intro w' hw'
        skip
        go_simp
        first | done | with_reducible rfl
      (try simp only [Act.put])
      (try simp only [List.setIfInBounds_toArray])
      (try simp only [List.set_cons_succ])
      (try simp only [List.set_cons_zero])
      refine takeC (i := 9) (v := ?_) rfl (by kernel_rfl) (by kernel_rfl) (by kernel_rfl) (by kernel_rfl) (by kernel_rfl) (fun _ _ _ h => h) hC.out (Or.inl ⟨by rfl, ?_⟩) ?_
      rotate_left 1
      · intro w' hw'
        have z0 := HC1c w' hw'
        go_simp
        first | done | with_reducible rfl
      (try simp only [Act.put])
      (try simp only [List.setIfInBounds_toArray])
      (try simp only [List.set_cons_succ])
      (try simp only [List.set_cons_zero])
      refine takeC (i := 10) (v := ?_) rfl (by kernel_rfl) (by kernel_rfl) (by kernel_rfl) (by kernel_rfl) (by kernel_rfl) (fun _ _ _ h => h) hC.out (Or.inl ⟨by rfl, ?_⟩) ?_
      rotate_left 1
      · intro w' hw'
        skip
        go_simp
        first | done | with_reducible rfl
      (try simp only [Act.put])
      (try simp only [List.setIfInBounds_toArray])
      (try simp only [List.set_cons_succ])
      (try simp only [List.set_cons_zero])
      refine takeC (i := 11) (v := ?_) rfl (by kernel_rfl) (by kernel_rfl) (by kernel_rfl) (by kernel_rfl) (by kernel_rfl) (fun _ _ _ h => h) hC.out (Or.inl ⟨by rfl, ?_⟩) ?_
      rotate_left 1
      · intro w' hw'
        skip
        go_simp
        first | done | with_reducible rfl
      (try simp only [Act.put])
      (try simp only [List.setIfInBounds_toArray])
      (try simp only [List.set_cons_succ])
      (try simp only [List.set_cons_zero])
      refine takeC (i := 12) (v := ?_) rfl (by kernel_rfl) (by kernel_rfl) (by kernel_rfl) (by kernel_rfl) (by kernel_rfl) (fun _ _ _ h => h) hC.out (Or.inl ⟨by rfl, ?_⟩) ?_
      rotate_left 1
      · intro w' hw'
        skip
        go_simp
        first | done | with_reducible rfl
      (try simp only [Act.put])
      (try simp only [List.setIfInBounds_toArray])
      (try simp only [List.set_cons_succ])
      (try simp only [List.set_cons_zero])
      refine takeC (i := 13) (v := ?_) rfl (by kernel_rfl) (by kernel_rfl) (by kernel_rfl) (by kernel_rfl) (by kernel_rfl) (fun _ _ _ h => h) hC.out (Or.inl ⟨by rfl, ?_⟩) ?_
      rotate_left 1
      · intro w' hw'
        have z0 := HC1c w' hw'
        go_simp
        first | done | with_reducible rfl
      (try simp only [Act.put])
      (try simp only [List.setIfInBounds_toArray])
      (try simp only [List.set_cons_succ])
      (try simp only [List.set_cons_zero])
      refine takeC (i := 14) (v := ?_) rfl (by kernel_rfl) (by kernel_rfl) (by kernel_rfl) (by kernel_rfl) (by kernel_rfl) (fun _ _ _ h => h) hC.out (Or.inl ⟨by rfl, ?_⟩) ?_
      rotate_left 1
      · intro w' hw'
        skip
        go_simp
        first | done | with_reducible rfl
      (try simp only [Act.put])
      (try simp only [List.setIfInBounds_toArray])
      (try simp only [List.set_cons_succ])
      (try simp only [List.set_cons_zero])
      refine takeC (i := 15) (v := ?_) rfl (by kernel_rfl) (by kernel_rfl) (by kernel_rfl) (by kernel_rfl) (by kernel_rfl) (fun _ _ _ h => h) hC.out (Or.inl ⟨by rfl, ?_⟩) ?_
      rotate_left 1
      · intro w' hw'
        skip
        go_simp
        first | done | with_reducible rfl
      (try simp only [Act.put])
      (try simp only [List.setIfInBounds_toArray])
      (try simp only [List.set_cons_succ])
      (try simp only [List.set_cons_zero])
      refine takeC (i := 16) (v := ?_) rfl (by kernel_rfl) (by kernel_rfl) (by kernel_rfl) (by kernel_rfl) (by kernel_rfl) (fun _ _ _ h => h) hC.out (Or.inl ⟨by rfl, ?_⟩) ?_
      rotate_left 1
      · intro w' hw'
        skip
        go_simp
        first | done | with_reducible rfl
      (try simp only [Act.put])
      (try simp only [List.setIfInBounds_toArray])
      (try simp only [List.set_cons_succ])
      (try simp only [List.set_cons_zero])
      refine takeC (i := 17) (v := ?_) rfl (by kernel_rfl) (by kernel_rfl) (by kernel_rfl) (by kernel_rfl) (by kernel_rfl) (fun _ _ _ h => h) hC.out (Or.inl ⟨by rfl, ?_⟩) ?_
      rotate_left 1
      · intro w' hw'
        have z0 := HC1c w' hw'
        go_simp
        first | done | with_reducible rfl
      (try simp only [Act.put])
      (try simp only [List.setIfInBounds_toArray])
      (try simp only [List.set_cons_succ])
      (try simp only [List.set_cons_zero])
      refine takeC (i := 18) (v := ?_) rfl (by kernel_rfl) (by kernel_rfl) (by kernel_rfl) (by kernel_rfl) (by kernel_rfl) (fun _ _ _ h => h) hC.out (Or.inl ⟨by rfl, ?_⟩) ?_
      rotate_left 1
      · intro w' hw'
        skip
        go_simp
        first | done | with_reducible rfl
      (try simp only [Act.put])
      (try simp only [List.setIfInBounds_toArray])
      (try simp only [List.set_cons_succ])
      (try simp only [List.set_cons_zero])
      refine takeC (i := 19) (v := ?_) rfl (by kernel_rfl) (by kernel_rfl) (by kernel_rfl) (by kernel_rfl) (by kernel_rfl) (fun _ _ _ h => h) hC.out (Or.inl ⟨by rfl, ?_⟩) ?_
      rotate_left 1
      · intro w' hw'
        skip
        go_simp
        first | done | with_reducible rfl
      (try simp only [Act.put])
      (try simp only [List.setIfInBounds_toArray])
      (try simp only [List.set_cons_succ])
      (try simp only [List.set_cons_zero])
      refine takeC (i := 20) (v := ?_) rfl (by kernel_rfl) (by kernel_rfl) (by kernel_rfl) (by kernel_rfl) (by kernel_rfl) (fun _ _ _ h => h) hC.out (Or.inl ⟨by rfl, ?_⟩) ?_
      rotate_left 1
      · intro w' hw'
        skip
        go_simp
        first | done | with_reducible rfl
      (try simp only [Act.put])
      (try simp only [List.setIfInBounds_toArray])
      (try simp only [List.set_cons_succ])
      (try simp only [List.set_cons_zero])
      refine takeC (i := 21) (v := ?_) rfl (by kernel_rfl) (by kernel_rfl) (by kernel_rfl) (by kernel_rfl) (by kernel_rfl) (fun _ _ _ h => h) hC.out (Or.inl ⟨by rfl, ?_⟩) ?_
      rotate_left 1
      · intro w' hw'
        have z0 := HC1c w' hw'
        go_simp
        first | done | with_reducible rfl
      (try simp only [Act.put])
      (try simp only [List.setIfInBounds_toArray])
      (try simp only [List.set_cons_succ])
      (try simp only [List.set_cons_zero])
      refine takeC (i := 22) (v := ?_) rfl (by kernel_rfl) (by kernel_rfl) (by kernel_rfl) (by kernel_rfl) (by kernel_rfl) (fun _ _ _ h => h) hC.out (Or.inl ⟨by rfl, ?_⟩) ?_
      rotate_left 1
      · intro w' hw'
        skip
        go_simp
        first | done | with_reducible rfl
      (try simp only [Act.put])
      (try simp only [List.setIfInBounds_toArray])
      (try simp only [List.set_cons_succ])
      (try simp only [List.set_cons_zero])
      refine readyC (rs := [5]) (by kernel_rfl) (by simp) ?_
      refine ReadyC.cons rfl (fun K hK => ?_) ReadyC.nil
      go_simp
      refine hK _ _ (fun _ => hC.out.alloc hC.out.size _) ?_
      clear hK K
      (try simp only [Act.put])
      (try simp only [List.setIfInBounds_toArray])
      (try simp only [List.set_cons_succ])
      (try simp only [List.set_cons_zero])
      refine nameC (fun Wx1 hW => ?_)
      have hx : Below W0.heap.size W0 Wx1 := by rw [hW]; exact (Below.refl _ _).alloc (Nat.le_refl _) _
      have hO : Hid (OwnB Wx1 W6.heap.size (.slice (some ⟨W0.heap.size, 0, none⟩) 0 0) []) := by show OwnB _ _ _ _; rw [hW]; exact own_made0 _ _ hC.out.size
      replace hC : Hid (Below W6.heap.size W6 Wx1) := hC.out.trans (hx.mono hC.out.size)
      clear hx hW
      refine readyC (rs := [23]) (by kernel_rfl) (by simp) ?_
      refine ReadyC.cons rfl (fun K hK => ?_) ReadyC.nil
      refine stepC_runs rfl (.tmp 71) (.tmp 88) rfl _ _ rfl rfl _ (app_bytes hO.out (HBr.out.below hC.out) (by have := HSz.out; show 0 + ST ≤ _; omega) hC.out.size _) ?_
      intro v8 Wx2 hA
      obtain ⟨hA1, hA2, a8, m8, c8, hv, hm⟩ := hA
      subst hv
      refine hK _ _ (fun _ => hC.out.trans hA2) ?_
      clear hK K
      (try simp only [Act.put])
      (try simp only [List.setIfInBounds_toArray])
      (try simp only [List.set_cons_succ])
      (try simp only [List.set_cons_zero])
      rw [List.nil_append] at hA1 hm
      replace hO : Hid (OwnB Wx2 W6.heap.size (.slice a8 m8 c8) (bs.take ST)) := hA1
      replace hC : Hid (Below W6.heap.size W6 Wx2) := hC.out.trans hA2
      clear hA1 hA2 hm
      refine takeC (i := 24) (v := ?_) rfl (by kernel_rfl) (by kernel_rfl) (by kernel_rfl) (by kernel_rfl) (by kernel_rfl) (fun _ _ _ h => h) hC.out (Or.inl ⟨by rfl, ?_⟩) ?_
      rotate_left 1
      · intro w' hw'
        skip
        go_simp
        first | done | with_reducible rfl
      (try simp only [Act.put])
      (try simp only [List.setIfInBounds_toArray])
      (try simp only [List.set_cons_succ])
      (try simp only [List.set_cons_zero])
      refine takeC (i := 25) (v := ?_) rfl (by kernel_rfl) (by kernel_rfl) (by kernel_rfl) (by kernel_rfl) (by kernel_rfl) (fun _ _ _ h => h) hC.out (Or.inl ⟨by rfl, ?_⟩) ?_
      rotate_left 1
      · intro w' hw'
        skip
        go_simp
        first | done | with_reducible rfl
      (try simp only [Act.put])
      (try simp only [List.setIfInBounds_toArray])
      (try simp only [List.set_cons_succ])
      (try simp only [List.set_cons_zero])
      refine readyC (rs := [26]) (by kernel_rfl) (by simp) ?_
      refine ReadyC.cons rfl (fun K hK => ?_) ReadyC.nil
      obtain ⟨z1, z2⟩ := HX1.out Wx2 hC.out
      go_simp
      refine hK _ _ (fun h => absurd rfl h) ?_
      clear hK K
      (try simp only [Act.put])
      (try simp only [List.setIfInBounds_toArray])
      (try simp only [List.set_cons_succ])
      (try simp only [List.set_cons_zero])
      refine doneC (by kernel_rfl) ?_ _
      clear HC1c
      have HRN := (show Hid (RidS W6 b S' _ _) from setb_done HR6.out hC.out hO.out HLk6.out HNL.out rfl HOk7.out)
      clear HR6 hO hC HX1 HBr HLk6
      go_wp2
      go_roundw
      case rel => exact ⟨k + 1, by go_num, by omega, by have := RidS.trans HF6.out HS6.out HRN.out; rw [HEq.out] at this; exact this⟩
      case measure => simp [intOf]; omega
    · have hge : ¬ ((k : Int) < (N : Int)) := by omega
      have dlt : decide ((k : Int) < (N : Int)) = false := by simpa using hge
      have hkN : k = N := by omega
      rw [hkN, HN.out, fallK_all] at hR
      have c2 := hR.c2
      have c3 := hR.c3
      have c5 := hR.c5
      have f2 := hR.fz 2
      have f3 := hR.fz 3
      have f5 := hR.fz 5
      have HX : Hid (RkW wr b S' (.slice fa l'.length fc) l' { d with files := fallL keep 0 d.files }) := hR
      have HB : Hid ((((wr.setCell ⟨b, 2, none⟩ (.bool false)).setCell ⟨b, 3, none⟩ (.int .i64 (-1))).setCell ⟨b, 5, none⟩ (.int .i64 (IntKind.i64.wrap (d.falls + 1)))).heap[b]? = some (.cells (rsCells (fallD keep d) (.slice fa l'.length fc)) 58 (0, 0))) := set_blk (set_blk (set_blk hR.blk 2 _) 3 _) 5 _
      have HFr : Hid (Fr S w wr) := hF
      have HSs : Hid (∀ j, S' j → S j ∨ w.heap.size ≤ j) := hS
      clear hR hkN hF hS hll
      go_wp2
      go_end0
      have HBo := HB.out
      rw [IntWalk.i64_left] at HBo
      refine ⟨rfl, RidS.trans HFr.out HSs.out ⟨S', _, l', RkW.struct HX.out (by rw [set_size, set_size, set_size]) (fun j hj => by rw [set_other _ hj, set_other _ hj, set_other _ hj]) HBo rfl { HX.out.ok with ahead := by show (-1 : Int) ≤ -1 ∧ (-1 : Int) ≤ _; omega }, (((Fr.refl S' wr).set HX.out.sb _).set HX.out.sb _).set HX.out.sb _, fun j hj => .inl hj⟩⟩
end Go.Proofs.Ytmkgaegodemglaa
