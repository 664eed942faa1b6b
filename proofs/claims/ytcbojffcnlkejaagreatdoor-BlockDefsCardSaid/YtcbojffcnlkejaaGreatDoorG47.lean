/- Several texts in one. -/
import Derived.Test.YtcbojffcnlkejaaGreatDoorG45
import Derived.Test.YtcbojffcnlkejaaGreatDoorG46
import Derived.Test.YtcbojffcnlkejaaGreatDoorG41
import Derived.Test.YtcbojffcnlkejaaGreatDoorG29
import Derived.Test.YtcbojffcnlkejaaGreatDoorG31
set_option linter.unusedVariables false
/- Plain mathematics: a paragraph that is closed when definitions were taken off it already. -/
namespace Go.Proofs.YtcbojffcnlkejaaGreatDoor

theorem off_bulk (l : List Str) (d : List Df) : bulkL (offRows l d) + (off (joinL l) d).2.length ≤ bulkL l + d.length := by
  have h1 := off_defs ((joinL l).length + 1) (joinL l) d
  have h2 := join_len l
  have h3 : (off (joinL l) d) = offF ((joinL l).length + 1) (joinL l) d := rfl
  unfold offRows
  split
  · show 0 + _ ≤ _
    rw [h3]
    omega
  · rename_i h
    have h0 : 0 < (off (joinL l) d).1.length := List.length_pos_iff.2 h
    have h4 : bulkL [(off (joinL l) d).1] = (off (joinL l) d).1.length + 1 := rfl
    rw [h4]
    cases l with
    | nil => exact absurd h0 (by have : (joinL ([] : List Str)).length = 0 := rfl; rw [h3]; omega)
    | cons a r =>
      have h5 : (joinL (a :: r)).length + 1 ≤ bulkL (a :: r) := by
        clear h1 h2 h0 h3 h4 h
        induction r generalizing a with
        | nil => simp [joinL, bulkL]
        | cons b r ih =>
          have := ih b
          show (a ++ 10 :: joinL (b :: r)).length + 1 ≤ a.length + 1 + bulkL (b :: r)
          simp only [List.length_append, List.length_cons]
          omega
      rw [h3]
      omega

theorem close_wf2 {B C N : Nat} {s : St} (h : Wf C N s) (hE : ∀ (i : Nat) (p : Part), s.opens[i]? = some p → p.ext.1 ≤ B ∧ p.ext.2 ≤ B) {n : Nat} {p c : Part} (hn : s.opens.length = n + 2) (hp : s.opens[n + 1]? = some p) (hc : s.opens[n]? = some c)
    (hm : massL s.opens + 1 + (St.takeOff p s.defs).2.length + N + p.bulk ≤ B + p.mass) : Wf B (N + p.bulk) s.close := by
  have hC : c.isC = true := h.cont n c hc (by omega)
  obtain ⟨q1, q2, q3⟩ := close_wf h hn hp hc
  obtain ⟨t1, t2, t3, t4, t5⟩ := takeOff_mass p s.defs
  obtain ⟨k1, k2, k3, k4, k5⟩ := hold_kids c (St.takeOff p s.defs).1 hC
  have e := close_eq hn hp hc
  have hop : s.close.opens = ((s.opens.set (n + 1) (St.takeOff p s.defs).1).take (n + 1)).set n (c.hold (St.takeOff p s.defs).1) := by rw [e]
  have htk : (s.opens.set (n + 1) (St.takeOff p s.defs).1).take (n + 1) = s.opens.take (n + 1) := by
    rw [List.take_set_of_le (by omega)]
  rw [htk] at hop
  refine ⟨q1.doc, q1.cont, q1.list, fun i q hq => ?_, ?_, q1.on⟩
  · have hi : i < n + 1 := by have := (List.getElem?_eq_some_iff.1 hq).1; omega
    refine ⟨?_, ?_, (q1.ext i q hq).2.2⟩
    all_goals
      rw [hop] at hq
      by_cases hin : i = n
      · subst hin
        rw [List.getElem?_set_self (by rw [List.length_take, hn]; omega)] at hq
        cases hq
        have a := hE _ _ hc
        have b := hE _ _ hp
        first
          | (rw [k3]; exact a.1)
          | (rw [k4, t4]; omega)
      · rw [List.getElem?_set_ne (Ne.symm hin), List.getElem?_take_of_lt hi] at hq
        first
          | exact (hE i q hq).1
          | exact (hE i q hq).2
  · have m1 := massL_take s.opens (n + 1) p (by omega) hp
    have m2 := massL_set (s.opens.take (n + 1)) n c (c.hold (St.takeOff p s.defs).1) (by rw [List.getElem?_take_of_lt (by omega)]; exact hc)
    have hd : s.close.defs = (St.takeOff p s.defs).2 := by rw [e]
    unfold St.mass
    rw [hop, hd]
    unfold Part.mass at m1 m2 hm
    rw [k2] at m2
    omega

/-- Of a paragraph that definitions were taken off: what is left may be closed, and weighs no more. -/
theorem under_wf {B N : Nat} {s : St} (h : Wf B N s) {n : Nat} {x : Body} {l : Nat} (hn : s.opens.length = n + 2) (hp : s.opens[n + 1]? = some (.para x l)) {x' : Body} {l' : Nat} (hr : x'.rows = offRows x.rows s.defs) (hf : x'.first ≤ B ∧ x'.last ≤ B) :
    Wf (B + bulkL x.rows) (N + bulkL x.rows) { s with opens := s.opens.set (n + 1) (.para x' l'), defs := (off (joinL x.rows) s.defs).2 } ∧ Wf B (N + bulkL x.rows + bulkL x'.rows) (St.close { s with opens := s.opens.set (n + 1) (.para x' l'), defs := (off (joinL x.rows) s.defs).2 }) := by
  have hb := off_bulk x.rows s.defs
  rw [← hr] at hb
  have hbm := offRows_bulk x.rows s.defs
  rw [← hr] at hbm
  have m1 := massL_set s.opens (n + 1) (.para x l) (.para x' l') hp
  have hm := h.mass
  unfold St.mass at hm
  have e1 : (Part.para x l).mass = 3 * bulkL x.rows + 0 + 1 := rfl
  have e2 : (Part.para x' l').mass = 3 * bulkL x'.rows + 0 + 1 := rfl
  have hext : ∀ (i : Nat) (p : Part), (s.opens.set (n + 1) (.para x' l'))[i]? = some p → p.ext.1 ≤ B ∧ p.ext.2 ≤ B ∧ p.indOk := by
    intro i p hi
    by_cases hj : i = n + 1
    · subst hj
      rw [List.getElem?_set_self (by omega)] at hi
      cases hi
      exact ⟨hf.1, hf.2, trivial⟩
    · rw [List.getElem?_set_ne (Ne.symm hj)] at hi
      exact h.ext i p hi
  have w0 := wf_set (k := 0) h hp (by omega) (p' := .para x' l') rfl rfl rfl ⟨hf.1, hf.2, trivial⟩ (by rw [e1, e2]; omega)
  have w1 : Wf (B + bulkL x.rows) (N + bulkL x.rows) { s with opens := s.opens.set (n + 1) (.para x' l'), defs := (off (joinL x.rows) s.defs).2 } := by
    refine ⟨w0.doc, w0.cont, w0.list, fun i p hi => ?_, ?_, w0.on⟩
    · have := hext i p hi
      exact ⟨by omega, by omega, this.2.2⟩
    · unfold St.mass
      show massL (s.opens.set (n + 1) (.para x' l')) + (off (joinL x.rows) s.defs).2.length + (N + bulkL x.rows) ≤ B + bulkL x.rows
      omega
  refine ⟨w1, ?_⟩
  obtain ⟨c, hc⟩ : ∃ c, s.opens[n]? = some c := ⟨_, List.getElem?_eq_getElem (by omega)⟩
  have hc' : (s.opens.set (n + 1) (.para x' l'))[n]? = some c := by rw [List.getElem?_set_ne (by omega)]; exact hc
  have hp' : (s.opens.set (n + 1) (.para x' l'))[n + 1]? = some (.para x' l') := List.getElem?_set_self (by omega)
  have t2 := (takeOff_mass (.para x' l') (off (joinL x.rows) s.defs).2).2.1
  have e3 : (Part.para x' l').bulk = bulkL x'.rows := rfl
  refine close_wf2 (p := .para x' l') (c := c) w1 (fun i p hi => ⟨(hext i p hi).1, (hext i p hi).2.1⟩) (n := n) (by show (s.opens.set _ _).length = _; rw [List.length_set]; exact hn) hp' hc' ?_
  show massL (s.opens.set (n + 1) (.para x' l')) + 1 + (St.takeOff (.para x' l') (off (joinL x.rows) s.defs).2).2.length + (N + bulkL x.rows) + (Part.para x' l').bulk ≤ B + (Part.para x' l').mass
  rw [e3] at t2 ⊢
  omega

end Go.Proofs.YtcbojffcnlkejaaGreatDoor

/- The open paragraph is underlined. -/
namespace Go.Proofs.YtcbojffcnlkejaaGreatDoor
open Go.RowKit
open cur (cell_blk free_blk set_blk blk_below Cur cptr Oth)

/-- close, where what is open weighs more than it may for long. -/
theorem bclose_rep {w : World} {r : Nat} {own : Nat → Nat} {C N : Nat} {s : St} (h1 : Rep w r own N s) (h2 : Wf C N s) (hB : C ≤ 1099511627776) {n : Nat} {p : Part} (hn : s.opens.length = n + 2) (hp : s.opens[n + 1]? = some p) :
    Calls Tryz.prog 30 #[ptrV r] w fun e w' => e = .returned (.tuple #[]) ∧ ∃ own', Rep w' r own' (N + p.bulk) s.close ∧ Step w own w' own' := by
  obtain ⟨c, hc⟩ : ∃ c, s.opens[n]? = some c := ⟨_, List.getElem?_eq_getElem (by omega)⟩
  have hl := h2.len
  have hpk := ok_le hB (h2.okp hp)
  obtain ⟨t1, t2, t3, t4, t5⟩ := takeOff_mass p s.defs
  have hpk' : (St.takeOff p s.defs).1.ok 1099511627776 := by
    refine ⟨by rw [t4]; exact hpk.1, by rw [t4]; exact hpk.2.1, by have := hpk.2.2.1; omega, by rw [t3]; exact hpk.2.2.2.1, ?_⟩
    cases p <;> first | trivial | exact hpk.2.2.2.2
  have hm := h2.mass
  have hmp := massL_at _ _ _ hp
  unfold St.mass at hm
  unfold Part.mass at hmp
  have hon := h2.on
  exact bclose_any h1 hn hp hc (h2.cont n c hc (by omega)) (fun q => h2.list n c p hc hp q) hpk hpk' (ok_le hB (h2.okp hc)) (by omega) (by omega) (by omega) (by omega)

theorem StepC.unclip {w w' : World} {own own' : Nat → Nat} {c : Nat} (h : StepC w (clip own w) c w' own') : StepC w own c w' own' :=
  ⟨(Fr.refl (fun g => own g ≠ 0 ∨ g = c) w).trans' h.1 (fun i hi q => q.imp (fun q => by rw [clip_old hi] at q; exact q) id), fun g hg h0 => h.2 g hg (by rw [clip_old hg]; exact h0)⟩

set_option maxHeartbeats 8000000 in
theorem bunder_any {w : World} {r c n lv : Nat} {own : Nat → Nat} {B : Nat} {s : St} {σ : Pl} (h : Good w r own B s) (hB : B ≤ 549755813888) (hC : Cur w c σ) (hc : own c = 0) (hn : n ≤ B) {x : Body} {l : Nat} (hlast : s.opens.getLast? = some (.para x l)) :
    Calls Tryz.prog 50 #[ptrV r, lnV c n, .int .i64 (lv : Int)] w fun e w' => e = .returned (.int .i64 ((s.underline n lv).1 : Int)) ∧ LeftC w r own c B (s.underline n lv).2 σ w' := by
  have hli := line_blk c n w
  have HB1 : Hid (Below w.heap.size w (w.alloc (.cells #[cptr c, .int .i64 (n : Int)] 63))) := (Below.refl _ _).alloc (Nat.le_refl _) _
  generalize hW : w.alloc (.cells #[cptr c, .int .i64 (n : Int)] 63) = W1 at hli HB1
  have hclt := hC.lt
  have hcc : clip own w c = 0 := by rw [clip_old hclt]; exact hc
  have hlc : clip own w w.heap.size = 0 := clip_new (Nat.le_refl _)
  obtain ⟨N, ⟨bs, vo, vd, vm, hR⟩, hWf⟩ := h.clip
  have h2 := hWf.two hlast rfl
  obtain ⟨k, hk⟩ : ∃ k, s.opens.length = k + 2 := ⟨s.opens.length - 2, by omega⟩
  have hp : s.opens[k + 1]? = some (.para x l) := by rw [List.getLast?_eq_getElem?, hk] at hlast; exact hlast
  obtain ⟨b, hb, hPo, v, hPb, hPv⟩ := hR.at hp
  have hlen := hWf.len
  have hbk : 3 * bulkL x.rows + N + s.defs.length ≤ B := by
    have q1 := massL_at _ _ _ hp
    have q2 := hWf.mass
    have e1 : (Part.para x l).mass = 3 * bulkL x.rows + 0 + 1 := rfl
    unfold St.mass at q2
    omega
  have hxe := hWf.ext _ _ hp
  have HI : Hid (∀ m, Calls Tryz.prog 23 #[ptrV r] (W1.drewN m) fun e w' => e = .returned (.iface 111 (ptrV b)) ∧ ∃ k, w' = W1.drewN k) := fun m => (binner_any (p := .para x l) (n := k + 1) (hR.keeps (fun g hg _ => (cur.below_drewN HB1.out m).block g hg)) hk hp hb (by omega)).mono fun _ w' ⟨q, k, e⟩ => ⟨q, m + k, by rw [e, drew_add]⟩
  have ta : ∀ w, (Instr.typeAssert (.iface 111 (ptrV b)) 66 111 false).run Tryz.prog w = .ok (ptrV b) w := fun w => as_para1 x l b w
  have HT : Hid (∀ m, Calls Tryz.prog 57 #[dptr r, ptrV b] (W1.drewN m) fun e w' => e = .returned (.tuple #[]) ∧ ∃ own1 vd1 vm1, RepR w' r own1 (N + bulkL x.rows) bs vo vd1 vm1 { s with opens := s.opens.set (k + 1) (.para { x with rows := offRows x.rows s.defs } l), defs := (off (joinL x.rows) s.defs).2 } ∧ Step w (clip own w) w' own1 ∧ own1 w.heap.size = 0 ∧ w'.heap[w.heap.size]? = some (.cells #[cptr c, .int .i64 (n : Int)] 63 (0, 0))) := by
    intro m
    have hbm := cur.below_drewN HB1.out m
    have hm := hR.keeps (w' := W1.drewN m) (fun g hg _ => hbm.block g hg)
    have hrf : (fun g => clip own w g = 1 ∧ vo.ownBlock ≠ some g) r := ⟨hR.rown, fun e => by
      obtain ⟨cu, q⟩ := row_block hR.opens e
      rw [hR.rd] at q
      cases q⟩
    refine (btakeOff_any (w := W1.drewN m) (O := fun g => clip own w g = 1 ∧ vo.ownBlock ≠ some g) ⟨vd, vm, hm.rd, hm.defs.fine hm.opens (by decide)⟩ hrf (A := fun g => clip own w g = 2 * (k + 1) + 2) (v := v) (blk_below hPb hbm) (RowsV.keeps (show RowsV w (fun g => clip own w g = 2 * (k + 1) + 2) v x.rows from hPv) (fun _ q => q) (fun g hg _ => hbm.block g hg)) (fun q => by have := q.1; have e : clip own w b = 2 * (k + 1) + 2 := hPo; omega) (by omega) (by omega)).mono ?_
    rintro e w' ⟨rfl, q1, ⟨v', q2, q3, q4⟩, q5⟩
    obtain ⟨own1, vd1, vm1, y1, y2⟩ := off_rep hm hp hb q1 q2 q3 q4 q5
    have hlW : (W1.drewN m).heap[w.heap.size]? = some (.cells #[cptr c, .int .i64 (n : Int)] 63 (0, 0)) := hli
    exact ⟨rfl, own1, vd1, vm1, y1, Step.trans (b := W1.drewN m) (p := clip own w) ⟨Fr.of_below hbm, fun _ _ q => q⟩ y2, y2.2 _ (lt_of_block hlW) hlc, y2.1.keeps hlW (fun q => q hlc)⟩
  have HC : Hid (Cur w c σ) := hC
  have HWf : Hid (Wf B N s) := hWf
  have HCl : Hid (∀ (u : World) (own1 : Nat → Nat) (x' : Body) (l' : Nat), x'.rows = offRows x.rows s.defs → x'.first ≤ B ∧ x'.last ≤ B → Rep u r own1 (N + bulkL x.rows) { s with opens := s.opens.set (k + 1) (.para x' l'), defs := (off (joinL x.rows) s.defs).2 } → StepC w (clip own w) c u own1 → Cur u c σ → own1 c = 0 → Calls Tryz.prog 30 #[ptrV r] u fun e w' => e = .returned (.tuple #[]) ∧ LeftC w r own c B (St.close { s with opens := s.opens.set (k + 1) (.para x' l'), defs := (off (joinL x.rows) s.defs).2 }) σ w') := by
    intro u own1 x' l' hr hf hrep hst hcu h0
    obtain ⟨w1, w2⟩ := under_wf (x' := x') (l' := l') hWf hk hp hr hf
    refine (bclose_rep hrep w1 (by omega) (n := k) (p := .para x' l') (by show (s.opens.set _ _).length = _; rw [List.length_set]; exact hk) (List.getElem?_set_self (by omega))).mono ?_
    rintro e w' ⟨rfl, own', q1, q2⟩
    exact ⟨rfl, own', ⟨_, q1, w2⟩, cur_fr hcu q2.1 (by rw [h0]; decide), (hst.trans (q2.toC c)).unclip⟩
  have HPt : Hid (∀ (u : World) (own1 : Nat → Nat) (vd1 vm1 : Value), RepR u r own1 (N + bulkL x.rows) bs vo vd1 vm1 { s with opens := s.opens.set (k + 1) (.para { x with rows := offRows x.rows s.defs } l), defs := (off (joinL x.rows) s.defs).2 } → own1 c = 0 → ∃ a cc, u.heap[b]? = some (.cells #[.int .i64 (x.first : Int), .int .i64 (x.last : Int), .slice a (offRows x.rows s.defs).length cc, .int .i64 (l : Int)] 115 (0, 0)) ∧ own1 b ≠ 0 ∧
      ∃ own2, Rep ((u.setCell ⟨b, 3, none⟩ (.int .i64 (lv : Int))).setCell ⟨b, 1, none⟩ (.int .i64 (n : Int))) r own2 (N + bulkL x.rows) { s with opens := s.opens.set (k + 1) (.para { x with rows := offRows x.rows s.defs, last := n } lv), defs := (off (joinL x.rows) s.defs).2 } ∧ StepC u own1 c ((u.setCell ⟨b, 3, none⟩ (.int .i64 (lv : Int))).setCell ⟨b, 1, none⟩ (.int .i64 (n : Int))) own2) := by
    intro u own1 vd1 vm1 y1 h0
    have hp1 : (s.opens.set (k + 1) (.para { x with rows := offRows x.rows s.defs } l))[k + 1]? = some (.para { x with rows := offRows x.rows s.defs } l) := List.getElem?_set_self (by omega)
    obtain ⟨hbo, v', hv1, hv2, hv3⟩ := y1.part (k + 1) b _ hb hp1
    obtain ⟨a, cc, rfl, _⟩ := row_slice hv2
    have hbo' : own1 b = 2 * (k + 1) + 2 := hbo
    refine ⟨a, cc, hv1, by rw [hbo']; omega, ?_⟩
    have hgb : ∀ g, (Value.slice a (offRows x.rows s.defs).length cc).ownBlock = some g → g ≠ b := by
      intro g hg e
      obtain ⟨cu, q⟩ := row_block hv2 hg
      rw [e, hv1] at q
      cases q
    obtain ⟨own2, q1, q2⟩ := rows_rep (w' := (u.setCell ⟨b, 3, none⟩ (.int .i64 (lv : Int))).setCell ⟨b, 1, none⟩ (.int .i64 (n : Int))) (c := c) (p' := .para { x with rows := offRows x.rows s.defs, last := n } lv) y1 hp1 hb rfl (v := .slice a (offRows x.rows s.defs).length cc) (v' := .slice a (offRows x.rows s.defs).length cc) hbo (lt_of_block hv1) hv3 h0 (set_blk (set_blk hv1 3 _) 1 _) (fun A S q => ⟨row_keeps hv2 (fun g hg => (Below.heap_setCell _ _ _ _ (by simpa using hgb g hg)).trans (Below.heap_setCell _ _ _ _ (by simpa using hgb g hg))), q⟩) (fun g hg => .inl hg) (((Fr.refl _ u).set (.inl rfl) 3 _).set (.inl rfl) 1 _)
    refine ⟨own2, ⟨bs, vo, vd1, vm1, ?_⟩, q2⟩
    have e : ((s.opens.set (k + 1) (.para { x with rows := offRows x.rows s.defs } l)).set (k + 1) (.para { x with rows := offRows x.rows s.defs, last := n } lv)) = s.opens.set (k + 1) (.para { x with rows := offRows x.rows s.defs, last := n } lv) := List.set_set ..
    rw [← e]
    exact q1
  have HR : Hid (s.underline n lv = if offRows x.rows s.defs = [] then (0, St.close { s with opens := s.opens.set (k + 1) (.para { x with rows := offRows x.rows s.defs } l), defs := (off (joinL x.rows) s.defs).2 }) else (2, St.close { s with opens := s.opens.set (k + 1) (.para { x with rows := offRows x.rows s.defs, last := n } lv), defs := (off (joinL x.rows) s.defs).2 })) := by
    show _ = _
    unfold St.underline
    rw [hlast]
    simp only [set_last hk]
  have HXe : Hid (x.first ≤ B ∧ x.last ≤ B) := ⟨hxe.1, hxe.2.1⟩
  clear hWf hR hPb hPv hPo hp hb hbk hxe hlen h hC hli hlast h2
  generalize (off (joinL x.rows) s.defs).2 = D at *
  generalize hRR : offRows x.rows s.defs = R at *
  generalize N + bulkL x.rows = N2 at *
  generalize s.underline n lv = U at *
  generalize hlbe : w.heap.size = lb at *
  cases R with
  | nil =>
    rw [if_pos rfl] at HR
    go_enter Tryz.func50, Tryz.ntmps50
    go_wp2_with (first
      | (go_at_call 23; refine (HI.out 0).mono ?_; rintro e u ⟨rfl, m, rfl⟩)
      | (go_at_call 57; refine (HT.out m).mono ?_; rintro e u ⟨rfl, own1, vd1, vm1, y1, y2, y3, y4⟩; have h0 : own1 c = 0 := y2.2 c (by omega) hcc; obtain ⟨a, cc, z1, z2, _⟩ := HPt.out u own1 vd1 vm1 y1 h0; have c2 := cell_blk z1 (i := 2) rfl; simp only [List.getElem_toArray, List.getElem_cons_zero, List.getElem_cons_succ, List.length_nil] at c2; have HCl2 := (show Hid _ from HCl.out u own1 { x with rows := [] } l rfl HXe.out ⟨bs, vo, vd1, vm1, y1⟩ (y2.toC c) (cur_fr HC.out y2.1 (by rw [hcc]; decide)) h0); clear y1 y2 y3 y4 z1 z2 h0)
      | (go_at_call 30; refine Calls.mono HCl2.out ?_; rintro e u2 ⟨rfl, hL⟩))
    go_ret
    rw [HR.out]
    exact ⟨rfl, hL⟩
  | cons t ts =>
    rw [if_neg (by simp)] at HR
    have hl0 : (((t :: ts).length : Int) == 0) = false := by simp; omega
    have hl1 : ¬ (((t :: ts).length : Int) = 0) := by simp; omega
    generalize (t :: ts) = R at *
    generalize hln : R.length = ln at *
    go_enter Tryz.func50, Tryz.ntmps50
    go_wp2_with (first
      | (go_at_call 23; refine (HI.out 0).mono ?_; rintro e u ⟨rfl, m, rfl⟩)
      | (go_at_call 57; (refine (HT.out m).mono ?_; rintro e u ⟨rfl, own1, vd1, vm1, y1, y2, y3, y4⟩; have h0 : own1 c = 0 := y2.2 c (by omega) hcc; obtain ⟨a, cc, z1, z2, own2, q1, q2⟩ := HPt.out u own1 vd1 vm1 y1 h0; have hbl : b ≠ lb := (fun e => z2 (by rw [e]; exact y3)); have hlb := Ne.symm hbl; have c1 := cell_blk z1 (i := 1) rfl; have c2 := cell_blk z1 (i := 2) rfl; have c3 := cell_blk z1 (i := 3) rfl; have g1 := free_blk z1 1; have g3 := free_blk z1 3; have n1 := cell_blk y4 (i := 1) rfl; simp only [List.getElem_toArray, List.getElem_cons_zero, List.getElem_cons_succ] at c1 c2 c3 n1; have HCl2 := (show Hid _ from HCl.out _ own2 { x with rows := R, last := n } lv rfl ⟨HXe.out.1, hn⟩ q1 ((y2.toC c).trans q2) (cur_fr (cur_fr HC.out y2.1 (by rw [hcc]; decide)) ((((Fr.refl (fun g => g = b) u).set rfl 3 _).set rfl 1 _)) (fun e => z2 (by rw [← show c = b from e]; exact h0))) (q2.2 c (by have := y2.1.size; omega) h0)); clear y1 y2 y3 y4 z1 z2 h0 q1 q2))
      | (go_at_call 30; refine Calls.mono HCl2.out ?_; rintro e u2 ⟨rfl, hL⟩))
    go_ret
    rw [HR.out]
    exact ⟨rfl, hL⟩

end Go.Proofs.YtcbojffcnlkejaaGreatDoor

/- What the reader is asked, and what a call leaves of a world that has grown. -/
namespace Go.Proofs.YtcbojffcnlkejaaGreatDoor
open Go.RowKit
open cur (cell_blk free_blk set_blk blk_below Cur cptr Oth)

theorem broom_good {w : World} {r : Nat} {own : Nat → Nat} {B : Nat} {s : St} (h : Good w r own B s) (hB : B ≤ 549755813888) :
    Calls Tryz.prog 37 #[ptrV r] w fun e w' => e = .returned (.bool s.room) ∧ Below w.heap.size w w' := by
  obtain ⟨N, ⟨bs, vo, vd, vm, hR⟩, hW⟩ := h
  obtain ⟨n, p, hn, hp, hl⟩ := hW.last
  have := hW.len
  refine (broom_any hR hW.on (fun e => by rw [e] at hn; simp at hn) (by omega)).mono ?_
  rintro e w' ⟨rfl, m, rfl⟩
  exact ⟨rfl, cur.below_drewN (Below.refl _ _) m⟩

theorem bisClose_good {w : World} {r : Nat} {own : Nat → Nat} {B : Nat} {s : St} (h : Good w r own B s) (hB : B ≤ 549755813888) :
    Calls Tryz.prog 49 #[ptrV r] w fun e w' => e = .returned (.bool s.isClose) ∧ Below w.heap.size w w' := by
  obtain ⟨N, ⟨bs, vo, vd, vm, hR⟩, hW⟩ := h
  obtain ⟨n, p, hn, hp, hl⟩ := hW.last
  obtain ⟨b, hb, _⟩ := hR.at hp
  have := hW.len
  refine (bisClose_any hR hn hp hb (by omega)).mono ?_
  rintro e w' ⟨rfl, m, rfl⟩
  refine ⟨?_, cur.below_drewN (Below.refl _ _) m⟩
  unfold St.isClose St.hasPara
  rw [hl]

/-- What a call leaves of a world that has grown since. -/
theorem LeftC.back {w u w' : World} {r c : Nat} {own : Nat → Nat} {B : Nat} {s : St} {σ : Pl} (hb : Below w.heap.size w u) (h : LeftC u r (clip own w) c B s σ w') : LeftC w r own c B s σ w' := by
  obtain ⟨own', q1, q2, q3⟩ := h
  refine ⟨own', q1, q2, ?_, ?_⟩
  · exact (Fr.of_below hb).trans' q3.1 (fun i hi q => by
      rcases q with q | q
      · rw [clip_old hi] at q; exact .inl q
      · exact .inr q)
  · intro g hg h0
    exact q3.2 g (Nat.lt_of_lt_of_le hg hb.size) (by rw [clip_old hg]; exact h0)

/-- A world that has grown: what the callees of begin want. -/
theorem good_grown {w u : World} {r c : Nat} {own : Nat → Nat} {B : Nat} {s : St} {σ : Pl} (h : Good w r own B s) (hC : Cur w c σ) (hc : own c = 0) (hb : Below w.heap.size w u) : Good u r (clip own w) B s ∧ Cur u c σ ∧ clip own w c = 0 := ⟨(h.clip).below hb, hC.below hb, by rw [clip_old hC.lt]; exact hc⟩

end Go.Proofs.YtcbojffcnlkejaaGreatDoor

/- What begins at a place: Code without fences, a Quote. -/
namespace Go.Proofs.YtcbojffcnlkejaaGreatDoor
open Go.RowKit
open cur (cell_blk free_blk set_blk blk_below Cur cptr Oth)

set_option maxHeartbeats 8000000 in
theorem bbeg_indented {w : World} {r c n K : Nat} {own : Nat → Nat} {B : Nat} {s : St} {σ : Pl} (h : Good w r own B s) (hB : B + K ≤ 549755813888) (hon : 1 ≤ s.on) (hl : LeafLeft s) (hC : Cur w c σ) (hc : own c = 0) (hn : n ≤ B) (hK : (Part.indented (takeI { first := n, last := n } n σ)).mass ≤ K) (hi : 3 < indR σ) :
    Calls Tryz.prog 28 #[ptrV r, lnV c n] w fun e w' => e = .returned (.int .i64 ((s.beginIndented n σ).1 : Int)) ∧ LeftC w r own c (B + K) (s.beginIndented n σ).2.1 (s.beginIndented n σ).2.2 w' := by
  have hli := line_blk c n w
  have HB1 : Hid (Below w.heap.size w (w.alloc (.cells #[cptr c, .int .i64 (n : Int)] 63))) := (Below.refl _ _).alloc (Nat.le_refl _) _
  generalize hW : w.alloc (.cells #[cptr c, .int .i64 (n : Int)] 63) = W1 at hli HB1
  have hBU : ∀ u : BwW W1, Below w.heap.size w u.wo := fun u => HB1.out.trans (u.is.mono HB1.out.size)
  have a0 := cell_blk hli (i := 0) rfl
  have l0 := fun u : BwW W1 => cell_blk (u.blk hli) (i := 0) rfl
  have l1 := fun u : BwW W1 => cell_blk (u.blk hli) (i := 1) rfl
  simp only [List.getElem_toArray, List.getElem_cons_zero, List.getElem_cons_succ] at a0 l0 l1
  have HI0 : Hid (Calls Tryz.prog 34 #[cptr c] W1 fun e w' => e = .returned (.int .i64 (indR σ : Int)) ∧ ∃ u : BwW W1, w' = u.wo) := (cur.indent_any (hC.below HB1.out)).mono fun _ w' q => ⟨q.1, BwW.of (Below.refl _ _), q.2⟩
  have HNx : Hid (∀ u : BwW W1, Calls Tryz.prog 36 #[cptr c] u.wo fun e w' => e = .returned (.int .u8 (((beh σ.1).headD 0).toNat : Int)) ∧ ∃ u : BwW W1, w' = u.wo) := fun u => (cur.next_any (hC.below (hBU u))).mono fun _ w' q => ⟨q.1, u, q.2⟩
  have HRm : Hid (∀ u : BwW W1, Calls Tryz.prog 37 #[ptrV r] u.wo fun e w' => e = .returned (.bool s.room) ∧ ∃ u : BwW W1, w' = u.wo) := fun u => (broom_good ((h.clip).below (hBU u)) (by omega)).mono fun _ w' q => ⟨q.1, BwW.of (u.is.trans (q.2.mono u.is.size)), rfl⟩
  have HX : Hid (∀ u : BwW W1, Calls Tryz.prog 35 #[ptrV r, lnV c n] u.wo fun e w' => e = .returned (.int .i64 ((s.beginIndented n σ).1 : Int)) ∧ LeftC w r own c (B + K) (s.beginIndented n σ).2.1 (s.beginIndented n σ).2.2 w') := fun u => by
    obtain ⟨g, cu, hcc⟩ := good_grown h hC hc (hBU u)
    refine (bbeginIndented_any g (by omega) hon hl cu hcc hn).mono ?_
    rintro e w' ⟨rfl, q⟩
    obtain ⟨own', q1, q2, q3⟩ := q.back (hBU u)
    exact ⟨rfl, own', q1.more (by omega), q2, q3⟩
  have hi' : 3 < (indR σ : Int) := by omega
  clear hli h hl hC hBU HNx HRm
  generalize indR σ = ind at *
  generalize s.beginIndented n σ = R at *
  generalize hlbe : w.heap.size = lb at *
  go_enter Tryz.func28, Tryz.ntmps28
  go_wp2_with (first
    | (go_at_call 34; refine HI0.out.mono ?_; rintro e w' ⟨rfl, u, rfl⟩)
    | (go_at_call 35; refine (HX.out _).mono ?_; rintro e w' ⟨rfl, hL⟩))
  go_ret
  exact ⟨rfl, hL⟩

set_option maxHeartbeats 8000000 in
theorem bbeg_quote {w : World} {r c n K : Nat} {own : Nat → Nat} {B : Nat} {s : St} {σ : Pl} (h : Good w r own B s) (hB : B + K ≤ 549755813888) (hon : 1 ≤ s.on) (hl : LeafLeft s) (hC : Cur w c σ) (hc : own c = 0) (hn : n ≤ B) (hK : 1 ≤ K) (hi : ¬ 3 < indR σ) (hx : (beh σ.1).headD 0 = 62) (hrm : s.room = true) :
    Calls Tryz.prog 28 #[ptrV r, lnV c n] w fun e w' => e = .returned (.int .i64 0) ∧ LeftC w r own c (B + K) (s.stand (.quote { first := n, last := n })) (skipR 1 (moveR 1 σ)) w' := by
  have hli := line_blk c n w
  have HB1 : Hid (Below w.heap.size w (w.alloc (.cells #[cptr c, .int .i64 (n : Int)] 63))) := (Below.refl _ _).alloc (Nat.le_refl _) _
  generalize hW : w.alloc (.cells #[cptr c, .int .i64 (n : Int)] 63) = W1 at hli HB1
  have hBU : ∀ u : BwW W1, Below w.heap.size w u.wo := fun u => HB1.out.trans (u.is.mono HB1.out.size)
  have a0 := cell_blk hli (i := 0) rfl
  have l0 := fun u : BwW W1 => cell_blk (u.blk hli) (i := 0) rfl
  have l1 := fun u : BwW W1 => cell_blk (u.blk hli) (i := 1) rfl
  simp only [List.getElem_toArray, List.getElem_cons_zero, List.getElem_cons_succ] at a0 l0 l1
  have HI0 : Hid (Calls Tryz.prog 34 #[cptr c] W1 fun e w' => e = .returned (.int .i64 (indR σ : Int)) ∧ ∃ u : BwW W1, w' = u.wo) := (cur.indent_any (hC.below HB1.out)).mono fun _ w' q => ⟨q.1, BwW.of (Below.refl _ _), q.2⟩
  have HNx : Hid (∀ u : BwW W1, Calls Tryz.prog 36 #[cptr c] u.wo fun e w' => e = .returned (.int .u8 (((beh σ.1).headD 0).toNat : Int)) ∧ ∃ u : BwW W1, w' = u.wo) := fun u => (cur.next_any (hC.below (hBU u))).mono fun _ w' q => ⟨q.1, u, q.2⟩
  have HRm : Hid (∀ u : BwW W1, Calls Tryz.prog 37 #[ptrV r] u.wo fun e w' => e = .returned (.bool s.room) ∧ ∃ u : BwW W1, w' = u.wo) := fun u => (broom_good ((h.clip).below (hBU u)) (by omega)).mono fun _ w' q => ⟨q.1, BwW.of (u.is.trans (q.2.mono u.is.size)), rfl⟩
  have HX : Hid (∀ u : BwW W1, Calls Tryz.prog 38 #[ptrV r, lnV c n] u.wo fun e w' => e = .returned (.int .i64 0) ∧ LeftC w r own c (B + K) (s.stand (.quote { first := n, last := n })) (skipR 1 (moveR 1 σ)) w') := fun u => by
    obtain ⟨g, cu, hcc⟩ := good_grown h hC hc (hBU u)
    refine (bbeginQuote_any g (by omega) hon hl cu hcc hn).mono ?_
    rintro e w' ⟨rfl, q⟩
    obtain ⟨own', q1, q2, q3⟩ := q.back (hBU u)
    exact ⟨rfl, own', q1.more (by omega), q2, q3⟩
  have hi' : ¬ 3 < (indR σ : Int) := by omega
  rw [hx] at HNx
  rw [hrm] at HRm
  clear hli h hl hC hBU
  generalize indR σ = ind at *
  generalize hlbe : w.heap.size = lb at *
  go_enter Tryz.func28, Tryz.ntmps28
  go_wp2_with (first
    | (go_at_call 34; refine HI0.out.mono ?_; rintro e w' ⟨rfl, u, rfl⟩)
    | (go_at_call 36; refine (HNx.out _).mono ?_; rintro e w' ⟨rfl, u, rfl⟩)
    | (go_at_call 37; refine (HRm.out _).mono ?_; rintro e w' ⟨rfl, u, rfl⟩)
    | (go_at_call 38; refine (HX.out _).mono ?_; rintro e w' ⟨rfl, hL⟩))
  go_ret
  exact ⟨rfl, hL⟩

end Go.Proofs.YtcbojffcnlkejaaGreatDoor

/- What begins at a place: a Heading. -/
namespace Go.Proofs.YtcbojffcnlkejaaGreatDoor
open Go.RowKit
open cur (cell_blk free_blk set_blk blk_below Cur cptr Oth)

set_option maxHeartbeats 16000000 in
theorem bbeg_heading {w : World} {r c n K ht : Nat} {own : Nat → Nat} {B : Nat} {s : St} {σ : Pl} (h : Good w r own B s) (hB : B + K ≤ 549755813888) (hon : 1 ≤ s.on) (hl : LeafLeft s) (hC : Cur w c σ) (hc : own c = 0) (hn : n ≤ B) (hK : 2 ≤ K) (hi : ¬ 3 < indR σ) (hq : (beh σ.1).headD 0 ≠ 62 ∨ s.room = false)
    (hH : ∀ u, Below w.heap.size w u → Calls Tryz.prog 45 #[.string ⟨(beh σ.1).toArray⟩] u fun e w' => e = .returned (.int .i64 (ht : Int)) ∧ Below u.heap.size u w') (hhd : 0 < (headL (beh σ.1)).1) :
    Calls Tryz.prog 28 #[ptrV r, lnV c n] w fun e w' => e = .returned (.int .i64 2) ∧ LeftC w r own c (B + K) (s.beginWhole n { kind := 4, level := (headL (beh σ.1)).1, text := (headL (beh σ.1)).2 }) σ w' := by
  have hli := line_blk c n w
  have HB1 : Hid (Below w.heap.size w (w.alloc (.cells #[cptr c, .int .i64 (n : Int)] 63))) := (Below.refl _ _).alloc (Nat.le_refl _) _
  generalize hW : w.alloc (.cells #[cptr c, .int .i64 (n : Int)] 63) = W1 at hli HB1
  have hBU : ∀ u : BwW W1, Below w.heap.size w u.wo := fun u => HB1.out.trans (u.is.mono HB1.out.size)
  have a0 := cell_blk hli (i := 0) rfl
  have l0 := fun u : BwW W1 => cell_blk (u.blk hli) (i := 0) rfl
  have l1 := fun u : BwW W1 => cell_blk (u.blk hli) (i := 1) rfl
  simp only [List.getElem_toArray, List.getElem_cons_zero, List.getElem_cons_succ] at a0 l0 l1
  have HI0 : Hid (Calls Tryz.prog 34 #[cptr c] W1 fun e w' => e = .returned (.int .i64 (indR σ : Int)) ∧ ∃ u : BwW W1, w' = u.wo) := (cur.indent_any (hC.below HB1.out)).mono fun _ w' q => ⟨q.1, BwW.of (Below.refl _ _), q.2⟩
  have HNx : Hid (∀ u : BwW W1, Calls Tryz.prog 36 #[cptr c] u.wo fun e w' => e = .returned (.int .u8 (((beh σ.1).headD 0).toNat : Int)) ∧ ∃ u : BwW W1, w' = u.wo) := fun u => (cur.next_any (hC.below (hBU u))).mono fun _ w' q => ⟨q.1, u, q.2⟩
  have HRm : Hid (∀ u : BwW W1, Calls Tryz.prog 37 #[ptrV r] u.wo fun e w' => e = .returned (.bool s.room) ∧ ∃ u : BwW W1, w' = u.wo) := fun u => (broom_good ((h.clip).below (hBU u)) (by omega)).mono fun _ w' q => ⟨q.1, BwW.of (u.is.trans (q.2.mono u.is.size)), rfl⟩
  have hbz : (beh σ.1).length ≤ 35184372088832 := by have q := hC.wt; unfold wt at q; have q2 := (endC_le σ.1 0).2; omega
  have low : ∀ {f : FuncId} {args : Array Value} {v : Value}, (∀ u, Calls Tryz.prog f args u fun e w' => e = .returned v ∧ Below u.heap.size u w') → ∀ u : BwW W1, Calls Tryz.prog f args u.wo fun e w' => e = .returned v ∧ ∃ u : BwW W1, w' = u.wo := fun q u => (q u.wo).mono fun _ w' q => ⟨q.1, BwW.of (u.is.trans (q.2.mono u.is.size)), rfl⟩
  have HBe : Hid (∀ u : BwW W1, Calls Tryz.prog 39 #[cptr c] u.wo fun e w' => e = .returned (.string ⟨(beh σ.1).toArray⟩) ∧ ∃ u : BwW W1, w' = u.wo) := fun u => (cur.behind_any (hC.below (hBU u))).mono fun _ w' q => ⟨q.1, by obtain ⟨m, e⟩ := q.2; exact ⟨BwW.of (w := u.wo.drewN m) (u.is.trans ⟨rfl, rfl, rfl, Nat.le_refl _, fun _ _ => rfl⟩), e⟩⟩
  have HHd : Hid (∀ u : BwW W1, Calls Tryz.prog 40 #[.string ⟨(beh σ.1).toArray⟩] u.wo fun e w' => e = .returned (headV (headL (beh σ.1))) ∧ ∃ u : BwW W1, w' = u.wo) := fun u => low (fun u => by have q := lheading_any ⟨(beh σ.1).toArray⟩ (by rw [size_list]; omega) u; rw [list_data] at q; exact q) u
  have HFe : Hid (∀ u : BwW W1, Calls Tryz.prog 42 #[.string ⟨(beh σ.1).toArray⟩] u.wo fun e w' => e = .returned (fenceV (fenceL (beh σ.1))) ∧ ∃ u : BwW W1, w' = u.wo) := fun u => low (fun u => by have q := lfence_any ⟨(beh σ.1).toArray⟩ (by rw [size_list]; omega) u; rw [list_data] at q; exact q) u
  have HHt : Hid (∀ u : BwW W1, Calls Tryz.prog 45 #[.string ⟨(beh σ.1).toArray⟩] u.wo fun e w' => e = .returned (.int .i64 (ht : Int)) ∧ ∃ u : BwW W1, w' = u.wo) := fun u => (hH u.wo (hBU u)).mono fun _ w' q => ⟨q.1, BwW.of (u.is.trans (q.2.mono u.is.size)), rfl⟩
  have HUn : Hid (∀ u : BwW W1, Calls Tryz.prog 48 #[.string ⟨(beh σ.1).toArray⟩] u.wo fun e w' => e = .returned (.int .i64 (underL (beh σ.1) : Int)) ∧ ∃ u : BwW W1, w' = u.wo) := fun u => low (fun u => by have q := lunder_any ⟨(beh σ.1).toArray⟩ (by rw [size_list]; omega) u; rw [list_data] at q; exact q) u
  have HRu : Hid (∀ u : BwW W1, Calls Tryz.prog 51 #[.string ⟨(beh σ.1).toArray⟩] u.wo fun e w' => e = .returned (.bool (ruleL (beh σ.1))) ∧ ∃ u : BwW W1, w' = u.wo) := fun u => low (fun u => by have q := lrule_any ⟨(beh σ.1).toArray⟩ (by rw [size_list]; omega) u; rw [list_data] at q; exact q) u
  have HHp : Hid (∀ u : BwW W1, Calls Tryz.prog 46 #[ptrV r] u.wo fun e w' => e = .returned (.bool s.hasPara) ∧ ∃ u : BwW W1, w' = u.wo) := fun u => (bhasPara_good ((h.clip).below (hBU u)) (by omega)).mono fun _ w' q => ⟨q.1, by obtain ⟨m, e⟩ := q.2; exact ⟨BwW.of (w := u.wo.drewN m) (u.is.trans ⟨rfl, rfl, rfl, Nat.le_refl _, fun _ _ => rfl⟩), e⟩⟩
  have HIc : Hid (∀ u : BwW W1, Calls Tryz.prog 49 #[ptrV r] u.wo fun e w' => e = .returned (.bool s.isClose) ∧ ∃ u : BwW W1, w' = u.wo) := fun u => (bisClose_good ((h.clip).below (hBU u)) (by omega)).mono fun _ w' q => ⟨q.1, BwW.of (u.is.trans (q.2.mono u.is.size)), rfl⟩
  have HX : Hid (∀ u : BwW W1, Calls Tryz.prog 41 #[ptrV r, lnV c n, .agg (biCells { kind := 4, level := (headL (beh σ.1)).1, text := (headL (beh σ.1)).2 } (.slice none 0 0)).toArray] u.wo fun e w' => e = .returned (.int .i64 2) ∧ LeftC w r own c (B + K) (s.beginWhole n { kind := 4, level := (headL (beh σ.1)).1, text := (headL (beh σ.1)).2 }) σ w') := fun u => by
    obtain ⟨g, cu, hcc⟩ := good_grown h hC hc (hBU u)
    refine (bbeginWhole_any g (by omega) hon hl cu hcc hn).mono ?_
    rintro e w' ⟨rfl, q⟩
    obtain ⟨own', q1, q2, q3⟩ := q.back (hBU u)
    exact ⟨rfl, own', q1.more (by omega), q2, q3⟩
  have hi' : ¬ 3 < (indR σ : Int) := by omega
  clear hli h hl hC hBU low hH
  generalize indR σ = ind at *
  have hhd' : 0 < ((headL (beh σ.1)).1 : Int) := by omega
  generalize headL (beh σ.1) = hd at *
  obtain ⟨lv, tx⟩ := hd
  simp only [headV] at hhd hhd' HX HHd ⊢
  generalize hlbe : w.heap.size = lb at *
  have hnx : (beh σ.1).headD 0 = 62 ∨ ((((beh σ.1).headD 0).toNat : Int) == 62) = false := by
    rcases Decidable.em ((beh σ.1).headD 0 = 62) with q | q
    · exact .inl q
    · right
      have : ((beh σ.1).headD 0).toNat ≠ 62 := fun e => q (UInt8.toNat_inj.1 e)
      exact beq_eq_false_iff_ne.2 (by omega)
  rcases hnx with hnx | hnx
  · have hrm : s.room = false := by
      rcases hq with q | q
      · exact absurd hnx q
      · exact q
    rw [hnx] at HNx
    rw [hrm] at HRm
    go_enter Tryz.func28, Tryz.ntmps28
    go_wp2_with (first
      | (go_at_call 34; refine HI0.out.mono ?_; rintro e w' ⟨rfl, u, rfl⟩)
      | (go_at_call 36; refine (HNx.out _).mono ?_; rintro e w' ⟨rfl, u, rfl⟩)
      | (go_at_call 37; refine (HRm.out _).mono ?_; rintro e w' ⟨rfl, u, rfl⟩)
      | (go_at_call 39; refine (HBe.out _).mono ?_; rintro e w' ⟨rfl, u, rfl⟩)
      | (go_at_call 40; refine (HHd.out _).mono ?_; rintro e w' ⟨rfl, u, rfl⟩)
      | (go_at_call 42; refine (HFe.out _).mono ?_; rintro e w' ⟨rfl, u, rfl⟩)
      | (go_at_call 45; refine (HHt.out _).mono ?_; rintro e w' ⟨rfl, u, rfl⟩)
      | (go_at_call 48; refine (HUn.out _).mono ?_; rintro e w' ⟨rfl, u, rfl⟩)
      | (go_at_call 51; refine (HRu.out _).mono ?_; rintro e w' ⟨rfl, u, rfl⟩)
      | (go_at_call 46; refine (HHp.out _).mono ?_; rintro e w' ⟨rfl, u, rfl⟩)
      | (go_at_call 49; refine (HIc.out _).mono ?_; rintro e w' ⟨rfl, u, rfl⟩)
      | (go_at_call 41; refine (HX.out _).mono ?_; rintro e w' ⟨rfl, hL⟩))
    go_ret
    exact ⟨rfl, hL⟩
  · generalize ((beh σ.1).headD 0).toNat = nx at *
    go_enter Tryz.func28, Tryz.ntmps28
    go_wp2_with (first
      | (go_at_call 34; refine HI0.out.mono ?_; rintro e w' ⟨rfl, u, rfl⟩)
      | (go_at_call 36; refine (HNx.out _).mono ?_; rintro e w' ⟨rfl, u, rfl⟩)
      | (go_at_call 37; refine (HRm.out _).mono ?_; rintro e w' ⟨rfl, u, rfl⟩)
      | (go_at_call 39; refine (HBe.out _).mono ?_; rintro e w' ⟨rfl, u, rfl⟩)
      | (go_at_call 40; refine (HHd.out _).mono ?_; rintro e w' ⟨rfl, u, rfl⟩)
      | (go_at_call 42; refine (HFe.out _).mono ?_; rintro e w' ⟨rfl, u, rfl⟩)
      | (go_at_call 45; refine (HHt.out _).mono ?_; rintro e w' ⟨rfl, u, rfl⟩)
      | (go_at_call 48; refine (HUn.out _).mono ?_; rintro e w' ⟨rfl, u, rfl⟩)
      | (go_at_call 51; refine (HRu.out _).mono ?_; rintro e w' ⟨rfl, u, rfl⟩)
      | (go_at_call 46; refine (HHp.out _).mono ?_; rintro e w' ⟨rfl, u, rfl⟩)
      | (go_at_call 49; refine (HIc.out _).mono ?_; rintro e w' ⟨rfl, u, rfl⟩)
      | (go_at_call 41; refine (HX.out _).mono ?_; rintro e w' ⟨rfl, hL⟩))
    go_ret
    exact ⟨rfl, hL⟩

end Go.Proofs.YtcbojffcnlkejaaGreatDoor

/- What begins at a place: HTML. -/
namespace Go.Proofs.YtcbojffcnlkejaaGreatDoor
open Go.RowKit
open cur (cell_blk free_blk set_blk blk_below Cur cptr Oth)

set_option maxHeartbeats 16000000 in
theorem bbeg_html {w : World} {r c n K ht : Nat} {own : Nat → Nat} {B : Nat} {s : St} {σ : Pl} (h : Good w r own B s) (hB : B + K ≤ 549755813888) (hon : 1 ≤ s.on) (hl : LeafLeft s) (hC : Cur w c σ) (hc : own c = 0) (hn : n ≤ B) (hK : 2 ≤ K) (hi : ¬ 3 < indR σ) (hq : (beh σ.1).headD 0 ≠ 62 ∨ s.room = false)
    (hH : ∀ u, Below w.heap.size w u → Calls Tryz.prog 45 #[.string ⟨(beh σ.1).toArray⟩] u fun e w' => e = .returned (.int .i64 (ht : Int)) ∧ Below u.heap.size u w') (hhd : (headL (beh σ.1)).1 = 0) (hfe : (fenceL (beh σ.1)).2.1 = 0) (hht : 0 < ht) (hht2 : ht ≠ 7 ∨ s.hasPara = false) (hnb : blankB σ = false) (hKr : rowM (restR σ) ≤ K) (en : Nat → Str → Bool)
    (hE : ∀ u', (∀ g, g < w.heap.size → own g = 0 → g ≠ c → u'.heap[g]? = w.heap[g]?) → Calls Tryz.prog 109 #[.int .i64 (ht : Int), strV (restR σ)] u' fun e w' => e = .returned (.bool (en ht (restR σ))) ∧ Below u'.heap.size u' w') :
    Calls Tryz.prog 28 #[ptrV r, lnV c n] w fun e w' => e = .returned (.int .i64 2) ∧ LeftC w r own c (B + K) (s.beginHtml en n σ ht) σ w' := by
  have hli := line_blk c n w
  have HB1 : Hid (Below w.heap.size w (w.alloc (.cells #[cptr c, .int .i64 (n : Int)] 63))) := (Below.refl _ _).alloc (Nat.le_refl _) _
  generalize hW : w.alloc (.cells #[cptr c, .int .i64 (n : Int)] 63) = W1 at hli HB1
  have hBU : ∀ u : BwW W1, Below w.heap.size w u.wo := fun u => HB1.out.trans (u.is.mono HB1.out.size)
  have a0 := cell_blk hli (i := 0) rfl
  have l0 := fun u : BwW W1 => cell_blk (u.blk hli) (i := 0) rfl
  have l1 := fun u : BwW W1 => cell_blk (u.blk hli) (i := 1) rfl
  simp only [List.getElem_toArray, List.getElem_cons_zero, List.getElem_cons_succ] at a0 l0 l1
  have HI0 : Hid (Calls Tryz.prog 34 #[cptr c] W1 fun e w' => e = .returned (.int .i64 (indR σ : Int)) ∧ ∃ u : BwW W1, w' = u.wo) := (cur.indent_any (hC.below HB1.out)).mono fun _ w' q => ⟨q.1, BwW.of (Below.refl _ _), q.2⟩
  have HNx : Hid (∀ u : BwW W1, Calls Tryz.prog 36 #[cptr c] u.wo fun e w' => e = .returned (.int .u8 (((beh σ.1).headD 0).toNat : Int)) ∧ ∃ u : BwW W1, w' = u.wo) := fun u => (cur.next_any (hC.below (hBU u))).mono fun _ w' q => ⟨q.1, u, q.2⟩
  have HRm : Hid (∀ u : BwW W1, Calls Tryz.prog 37 #[ptrV r] u.wo fun e w' => e = .returned (.bool s.room) ∧ ∃ u : BwW W1, w' = u.wo) := fun u => (broom_good ((h.clip).below (hBU u)) (by omega)).mono fun _ w' q => ⟨q.1, BwW.of (u.is.trans (q.2.mono u.is.size)), rfl⟩
  have hbz : (beh σ.1).length ≤ 35184372088832 := by have q := hC.wt; unfold wt at q; have q2 := (endC_le σ.1 0).2; omega
  have low : ∀ {f : FuncId} {args : Array Value} {v : Value}, (∀ u, Calls Tryz.prog f args u fun e w' => e = .returned v ∧ Below u.heap.size u w') → ∀ u : BwW W1, Calls Tryz.prog f args u.wo fun e w' => e = .returned v ∧ ∃ u : BwW W1, w' = u.wo := fun q u => (q u.wo).mono fun _ w' q => ⟨q.1, BwW.of (u.is.trans (q.2.mono u.is.size)), rfl⟩
  have HBe : Hid (∀ u : BwW W1, Calls Tryz.prog 39 #[cptr c] u.wo fun e w' => e = .returned (.string ⟨(beh σ.1).toArray⟩) ∧ ∃ u : BwW W1, w' = u.wo) := fun u => (cur.behind_any (hC.below (hBU u))).mono fun _ w' q => ⟨q.1, by obtain ⟨m, e⟩ := q.2; exact ⟨BwW.of (w := u.wo.drewN m) (u.is.trans ⟨rfl, rfl, rfl, Nat.le_refl _, fun _ _ => rfl⟩), e⟩⟩
  have HHd : Hid (∀ u : BwW W1, Calls Tryz.prog 40 #[.string ⟨(beh σ.1).toArray⟩] u.wo fun e w' => e = .returned (headV (headL (beh σ.1))) ∧ ∃ u : BwW W1, w' = u.wo) := fun u => low (fun u => by have q := lheading_any ⟨(beh σ.1).toArray⟩ (by rw [size_list]; omega) u; rw [list_data] at q; exact q) u
  have HFe : Hid (∀ u : BwW W1, Calls Tryz.prog 42 #[.string ⟨(beh σ.1).toArray⟩] u.wo fun e w' => e = .returned (fenceV (fenceL (beh σ.1))) ∧ ∃ u : BwW W1, w' = u.wo) := fun u => low (fun u => by have q := lfence_any ⟨(beh σ.1).toArray⟩ (by rw [size_list]; omega) u; rw [list_data] at q; exact q) u
  have HHt : Hid (∀ u : BwW W1, Calls Tryz.prog 45 #[.string ⟨(beh σ.1).toArray⟩] u.wo fun e w' => e = .returned (.int .i64 (ht : Int)) ∧ ∃ u : BwW W1, w' = u.wo) := fun u => (hH u.wo (hBU u)).mono fun _ w' q => ⟨q.1, BwW.of (u.is.trans (q.2.mono u.is.size)), rfl⟩
  have HUn : Hid (∀ u : BwW W1, Calls Tryz.prog 48 #[.string ⟨(beh σ.1).toArray⟩] u.wo fun e w' => e = .returned (.int .i64 (underL (beh σ.1) : Int)) ∧ ∃ u : BwW W1, w' = u.wo) := fun u => low (fun u => by have q := lunder_any ⟨(beh σ.1).toArray⟩ (by rw [size_list]; omega) u; rw [list_data] at q; exact q) u
  have HRu : Hid (∀ u : BwW W1, Calls Tryz.prog 51 #[.string ⟨(beh σ.1).toArray⟩] u.wo fun e w' => e = .returned (.bool (ruleL (beh σ.1))) ∧ ∃ u : BwW W1, w' = u.wo) := fun u => low (fun u => by have q := lrule_any ⟨(beh σ.1).toArray⟩ (by rw [size_list]; omega) u; rw [list_data] at q; exact q) u
  have HHp : Hid (∀ u : BwW W1, Calls Tryz.prog 46 #[ptrV r] u.wo fun e w' => e = .returned (.bool s.hasPara) ∧ ∃ u : BwW W1, w' = u.wo) := fun u => (bhasPara_good ((h.clip).below (hBU u)) (by omega)).mono fun _ w' q => ⟨q.1, by obtain ⟨m, e⟩ := q.2; exact ⟨BwW.of (w := u.wo.drewN m) (u.is.trans ⟨rfl, rfl, rfl, Nat.le_refl _, fun _ _ => rfl⟩), e⟩⟩
  have HIc : Hid (∀ u : BwW W1, Calls Tryz.prog 49 #[ptrV r] u.wo fun e w' => e = .returned (.bool s.isClose) ∧ ∃ u : BwW W1, w' = u.wo) := fun u => (bisClose_good ((h.clip).below (hBU u)) (by omega)).mono fun _ w' q => ⟨q.1, BwW.of (u.is.trans (q.2.mono u.is.size)), rfl⟩
  have HX : Hid (∀ u : BwW W1, Calls Tryz.prog 47 #[ptrV r, lnV c n, .int .i64 (ht : Int)] u.wo fun e w' => e = .returned (.int .i64 2) ∧ LeftC w r own c (B + K) (s.beginHtml en n σ ht) σ w') := fun u => by
    obtain ⟨g, cu, hcc⟩ := good_grown h hC hc (hBU u)
    refine (bbeginHtml_any g (by omega) hon hl cu hcc hn hnb en (fun u' q => hE u' (fun k hk h0 hkc => (q k (Nat.lt_of_lt_of_le hk (hBU u).size) (by rw [clip_old hk]; exact h0) hkc).trans ((hBU u).block k hk)))).mono ?_
    rintro e w' ⟨rfl, q⟩
    obtain ⟨own', q1, q2, q3⟩ := q.back (hBU u)
    exact ⟨rfl, own', q1.more (by omega), q2, q3⟩
  have hi' : ¬ 3 < (indR σ : Int) := by omega
  clear hli h hl hC hBU low hH
  generalize indR σ = ind at *
  clear hE
  have hhd' : ¬ 0 < ((headL (beh σ.1)).1 : Int) := by omega
  generalize headL (beh σ.1) = hd at *
  obtain ⟨lv, tx⟩ := hd
  simp only [headV] at hhd hhd' HHd
  have hfe' : ¬ 0 < ((fenceL (beh σ.1)).2.1 : Int) := by omega
  generalize fenceL (beh σ.1) = fe at *
  obtain ⟨fs, fz, fi⟩ := fe
  simp only [fenceV] at hfe hfe' HFe
  generalize fs.toNat = fsn at *
  have hsp0 : ((ht : Int) == 7) = false ∨ ((ht : Int) = 7 ∧ s.hasPara = false) := by
    rcases Decidable.em (ht = 7) with q | q
    · right
      refine ⟨by omega, ?_⟩
      rcases hht2 with q2 | q2
      · exact absurd q q2
      · exact q2
    · left
      exact beq_eq_false_iff_ne.2 (by omega)
  clear hht2
  have hht' : 0 < (ht : Int) := by omega
  clear hht
  generalize s.beginHtml en n σ ht = R at *
  generalize hlbe : w.heap.size = lb at *
  have hnx : (beh σ.1).headD 0 = 62 ∨ ((((beh σ.1).headD 0).toNat : Int) == 62) = false := by
    rcases Decidable.em ((beh σ.1).headD 0 = 62) with q | q
    · exact .inl q
    · right
      have : ((beh σ.1).headD 0).toNat ≠ 62 := fun e => q (UInt8.toNat_inj.1 e)
      exact beq_eq_false_iff_ne.2 (by omega)
  rcases hnx with hnx | hnx
  · have hrm : s.room = false := by
      rcases hq with q | q
      · exact absurd hnx q
      · exact q
    rw [hnx] at HNx
    rw [hrm] at HRm
    rcases hsp0 with h7 | ⟨h7, hpa⟩
    all_goals try (have h7n : ¬ (ht : Int) = 7 := beq_eq_false_iff_ne.1 h7; have h7b : ((ht : Int) != 7) = true := by simp only [bne, h7, Bool.not_false])
    all_goals try (rw [hpa] at HHp; rw [h7] at HHt HX; clear h7 hht')
    all_goals
      go_enter Tryz.func28, Tryz.ntmps28
      go_wp2_with (first
        | (go_at_call 34; refine HI0.out.mono ?_; rintro e w' ⟨rfl, u, rfl⟩)
        | (go_at_call 36; refine (HNx.out _).mono ?_; rintro e w' ⟨rfl, u, rfl⟩)
        | (go_at_call 37; refine (HRm.out _).mono ?_; rintro e w' ⟨rfl, u, rfl⟩)
        | (go_at_call 39; refine (HBe.out _).mono ?_; rintro e w' ⟨rfl, u, rfl⟩)
        | (go_at_call 40; refine (HHd.out _).mono ?_; rintro e w' ⟨rfl, u, rfl⟩)
        | (go_at_call 42; refine (HFe.out _).mono ?_; rintro e w' ⟨rfl, u, rfl⟩)
        | (go_at_call 45; refine (HHt.out _).mono ?_; rintro e w' ⟨rfl, u, rfl⟩)
        | (go_at_call 48; refine (HUn.out _).mono ?_; rintro e w' ⟨rfl, u, rfl⟩)
        | (go_at_call 51; refine (HRu.out _).mono ?_; rintro e w' ⟨rfl, u, rfl⟩)
        | (go_at_call 46; refine (HHp.out _).mono ?_; rintro e w' ⟨rfl, u, rfl⟩)
        | (go_at_call 49; refine (HIc.out _).mono ?_; rintro e w' ⟨rfl, u, rfl⟩)
        | (go_at_call 47; refine (HX.out _).mono ?_; rintro e w' ⟨rfl, hL⟩))
      go_ret
      exact ⟨rfl, hL⟩
  · generalize ((beh σ.1).headD 0).toNat = nx at *
    rcases hsp0 with h7 | ⟨h7, hpa⟩
    all_goals try (have h7n : ¬ (ht : Int) = 7 := beq_eq_false_iff_ne.1 h7; have h7b : ((ht : Int) != 7) = true := by simp only [bne, h7, Bool.not_false])
    all_goals try (rw [hpa] at HHp; rw [h7] at HHt HX; clear h7 hht')
    all_goals
      go_enter Tryz.func28, Tryz.ntmps28
      go_wp2_with (first
        | (go_at_call 34; refine HI0.out.mono ?_; rintro e w' ⟨rfl, u, rfl⟩)
        | (go_at_call 36; refine (HNx.out _).mono ?_; rintro e w' ⟨rfl, u, rfl⟩)
        | (go_at_call 37; refine (HRm.out _).mono ?_; rintro e w' ⟨rfl, u, rfl⟩)
        | (go_at_call 39; refine (HBe.out _).mono ?_; rintro e w' ⟨rfl, u, rfl⟩)
        | (go_at_call 40; refine (HHd.out _).mono ?_; rintro e w' ⟨rfl, u, rfl⟩)
        | (go_at_call 42; refine (HFe.out _).mono ?_; rintro e w' ⟨rfl, u, rfl⟩)
        | (go_at_call 45; refine (HHt.out _).mono ?_; rintro e w' ⟨rfl, u, rfl⟩)
        | (go_at_call 48; refine (HUn.out _).mono ?_; rintro e w' ⟨rfl, u, rfl⟩)
        | (go_at_call 51; refine (HRu.out _).mono ?_; rintro e w' ⟨rfl, u, rfl⟩)
        | (go_at_call 46; refine (HHp.out _).mono ?_; rintro e w' ⟨rfl, u, rfl⟩)
        | (go_at_call 49; refine (HIc.out _).mono ?_; rintro e w' ⟨rfl, u, rfl⟩)
        | (go_at_call 47; refine (HX.out _).mono ?_; rintro e w' ⟨rfl, hL⟩))
      go_ret
      exact ⟨rfl, hL⟩

end Go.Proofs.YtcbojffcnlkejaaGreatDoor

/- What begins at a place: an underline. -/
namespace Go.Proofs.YtcbojffcnlkejaaGreatDoor
open Go.RowKit
open cur (cell_blk free_blk set_blk blk_below Cur cptr Oth)

set_option maxHeartbeats 16000000 in
theorem bbeg_under {w : World} {r c n K ht : Nat} {own : Nat → Nat} {B : Nat} {s : St} {σ : Pl} (h : Good w r own B s) (hB : B + K ≤ 549755813888) (hon : 1 ≤ s.on) (hl : LeafLeft s) (hC : Cur w c σ) (hc : own c = 0) (hn : n ≤ B) (hK : 2 ≤ K) (hi : ¬ 3 < indR σ) (hq : (beh σ.1).headD 0 ≠ 62 ∨ s.room = false)
    (hH : ∀ u, Below w.heap.size w u → Calls Tryz.prog 45 #[.string ⟨(beh σ.1).toArray⟩] u fun e w' => e = .returned (.int .i64 (ht : Int)) ∧ Below u.heap.size u w') (hhd : (headL (beh σ.1)).1 = 0) (hfe : (fenceL (beh σ.1)).2.1 = 0) (hht : ht = 0 ∨ (ht = 7 ∧ s.hasPara = true)) (hun : 0 < underL (beh σ.1)) (hic : s.isClose = true) {x : Body} {l : Nat} (hlast : s.opens.getLast? = some (.para x l)) :
    Calls Tryz.prog 28 #[ptrV r, lnV c n] w fun e w' => e = .returned (.int .i64 ((s.underline n (underL (beh σ.1))).1 : Int)) ∧ LeftC w r own c (B + K) (s.underline n (underL (beh σ.1))).2 σ w' := by
  have hli := line_blk c n w
  have HB1 : Hid (Below w.heap.size w (w.alloc (.cells #[cptr c, .int .i64 (n : Int)] 63))) := (Below.refl _ _).alloc (Nat.le_refl _) _
  generalize hW : w.alloc (.cells #[cptr c, .int .i64 (n : Int)] 63) = W1 at hli HB1
  have hBU : ∀ u : BwW W1, Below w.heap.size w u.wo := fun u => HB1.out.trans (u.is.mono HB1.out.size)
  have a0 := cell_blk hli (i := 0) rfl
  have l0 := fun u : BwW W1 => cell_blk (u.blk hli) (i := 0) rfl
  have l1 := fun u : BwW W1 => cell_blk (u.blk hli) (i := 1) rfl
  simp only [List.getElem_toArray, List.getElem_cons_zero, List.getElem_cons_succ] at a0 l0 l1
  have HI0 : Hid (Calls Tryz.prog 34 #[cptr c] W1 fun e w' => e = .returned (.int .i64 (indR σ : Int)) ∧ ∃ u : BwW W1, w' = u.wo) := (cur.indent_any (hC.below HB1.out)).mono fun _ w' q => ⟨q.1, BwW.of (Below.refl _ _), q.2⟩
  have HNx : Hid (∀ u : BwW W1, Calls Tryz.prog 36 #[cptr c] u.wo fun e w' => e = .returned (.int .u8 (((beh σ.1).headD 0).toNat : Int)) ∧ ∃ u : BwW W1, w' = u.wo) := fun u => (cur.next_any (hC.below (hBU u))).mono fun _ w' q => ⟨q.1, u, q.2⟩
  have HRm : Hid (∀ u : BwW W1, Calls Tryz.prog 37 #[ptrV r] u.wo fun e w' => e = .returned (.bool s.room) ∧ ∃ u : BwW W1, w' = u.wo) := fun u => (broom_good ((h.clip).below (hBU u)) (by omega)).mono fun _ w' q => ⟨q.1, BwW.of (u.is.trans (q.2.mono u.is.size)), rfl⟩
  have hbz : (beh σ.1).length ≤ 35184372088832 := by have q := hC.wt; unfold wt at q; have q2 := (endC_le σ.1 0).2; omega
  have low : ∀ {f : FuncId} {args : Array Value} {v : Value}, (∀ u, Calls Tryz.prog f args u fun e w' => e = .returned v ∧ Below u.heap.size u w') → ∀ u : BwW W1, Calls Tryz.prog f args u.wo fun e w' => e = .returned v ∧ ∃ u : BwW W1, w' = u.wo := fun q u => (q u.wo).mono fun _ w' q => ⟨q.1, BwW.of (u.is.trans (q.2.mono u.is.size)), rfl⟩
  have HBe : Hid (∀ u : BwW W1, Calls Tryz.prog 39 #[cptr c] u.wo fun e w' => e = .returned (.string ⟨(beh σ.1).toArray⟩) ∧ ∃ u : BwW W1, w' = u.wo) := fun u => (cur.behind_any (hC.below (hBU u))).mono fun _ w' q => ⟨q.1, by obtain ⟨m, e⟩ := q.2; exact ⟨BwW.of (w := u.wo.drewN m) (u.is.trans ⟨rfl, rfl, rfl, Nat.le_refl _, fun _ _ => rfl⟩), e⟩⟩
  have HHd : Hid (∀ u : BwW W1, Calls Tryz.prog 40 #[.string ⟨(beh σ.1).toArray⟩] u.wo fun e w' => e = .returned (headV (headL (beh σ.1))) ∧ ∃ u : BwW W1, w' = u.wo) := fun u => low (fun u => by have q := lheading_any ⟨(beh σ.1).toArray⟩ (by rw [size_list]; omega) u; rw [list_data] at q; exact q) u
  have HFe : Hid (∀ u : BwW W1, Calls Tryz.prog 42 #[.string ⟨(beh σ.1).toArray⟩] u.wo fun e w' => e = .returned (fenceV (fenceL (beh σ.1))) ∧ ∃ u : BwW W1, w' = u.wo) := fun u => low (fun u => by have q := lfence_any ⟨(beh σ.1).toArray⟩ (by rw [size_list]; omega) u; rw [list_data] at q; exact q) u
  have HHt : Hid (∀ u : BwW W1, Calls Tryz.prog 45 #[.string ⟨(beh σ.1).toArray⟩] u.wo fun e w' => e = .returned (.int .i64 (ht : Int)) ∧ ∃ u : BwW W1, w' = u.wo) := fun u => (hH u.wo (hBU u)).mono fun _ w' q => ⟨q.1, BwW.of (u.is.trans (q.2.mono u.is.size)), rfl⟩
  have HUn : Hid (∀ u : BwW W1, Calls Tryz.prog 48 #[.string ⟨(beh σ.1).toArray⟩] u.wo fun e w' => e = .returned (.int .i64 (underL (beh σ.1) : Int)) ∧ ∃ u : BwW W1, w' = u.wo) := fun u => low (fun u => by have q := lunder_any ⟨(beh σ.1).toArray⟩ (by rw [size_list]; omega) u; rw [list_data] at q; exact q) u
  have HRu : Hid (∀ u : BwW W1, Calls Tryz.prog 51 #[.string ⟨(beh σ.1).toArray⟩] u.wo fun e w' => e = .returned (.bool (ruleL (beh σ.1))) ∧ ∃ u : BwW W1, w' = u.wo) := fun u => low (fun u => by have q := lrule_any ⟨(beh σ.1).toArray⟩ (by rw [size_list]; omega) u; rw [list_data] at q; exact q) u
  have HHp : Hid (∀ u : BwW W1, Calls Tryz.prog 46 #[ptrV r] u.wo fun e w' => e = .returned (.bool s.hasPara) ∧ ∃ u : BwW W1, w' = u.wo) := fun u => (bhasPara_good ((h.clip).below (hBU u)) (by omega)).mono fun _ w' q => ⟨q.1, by obtain ⟨m, e⟩ := q.2; exact ⟨BwW.of (w := u.wo.drewN m) (u.is.trans ⟨rfl, rfl, rfl, Nat.le_refl _, fun _ _ => rfl⟩), e⟩⟩
  have HIc : Hid (∀ u : BwW W1, Calls Tryz.prog 49 #[ptrV r] u.wo fun e w' => e = .returned (.bool s.isClose) ∧ ∃ u : BwW W1, w' = u.wo) := fun u => (bisClose_good ((h.clip).below (hBU u)) (by omega)).mono fun _ w' q => ⟨q.1, BwW.of (u.is.trans (q.2.mono u.is.size)), rfl⟩
  have HX : Hid (∀ u : BwW W1, Calls Tryz.prog 50 #[ptrV r, lnV c n, .int .i64 (underL (beh σ.1) : Int)] u.wo fun e w' => e = .returned (.int .i64 ((s.underline n (underL (beh σ.1))).1 : Int)) ∧ LeftC w r own c (B + K) (s.underline n (underL (beh σ.1))).2 σ w') := fun u => by
    obtain ⟨g, cu, hcc⟩ := good_grown h hC hc (hBU u)
    refine (bunder_any g (by omega) cu hcc hn hlast).mono ?_
    rintro e w' ⟨rfl, q⟩
    obtain ⟨own', q1, q2, q3⟩ := q.back (hBU u)
    exact ⟨rfl, own', q1.more (by omega), q2, q3⟩
  have hi' : ¬ 3 < (indR σ : Int) := by omega
  clear hli h hl hC hBU low hH
  generalize indR σ = ind at *
  have hhd' : ¬ 0 < ((headL (beh σ.1)).1 : Int) := by omega
  generalize headL (beh σ.1) = hd at *
  obtain ⟨lv, tx⟩ := hd
  simp only [headV] at hhd hhd' HHd
  have hfe' : ¬ 0 < ((fenceL (beh σ.1)).2.1 : Int) := by omega
  generalize fenceL (beh σ.1) = fe at *
  obtain ⟨fs, fz, fi⟩ := fe
  simp only [fenceV] at hfe hfe' HFe
  generalize fs.toNat = fsn at *
  have hsp0 : (¬ 0 < (ht : Int)) ∨ ((ht : Int) = 7 ∧ s.hasPara = true) := by
    rcases hht with q | ⟨q, q2⟩
    · left; omega
    · right; exact ⟨by omega, q2⟩
  clear hht
  have hun' : 0 < (underL (beh σ.1) : Int) := by omega
  rw [hic] at HIc
  generalize s.underline n (underL (beh σ.1)) = R at *
  generalize underL (beh σ.1) = ul at *
  generalize hlbe : w.heap.size = lb at *
  have hnx : (beh σ.1).headD 0 = 62 ∨ ((((beh σ.1).headD 0).toNat : Int) == 62) = false := by
    rcases Decidable.em ((beh σ.1).headD 0 = 62) with q | q
    · exact .inl q
    · right
      have : ((beh σ.1).headD 0).toNat ≠ 62 := fun e => q (UInt8.toNat_inj.1 e)
      exact beq_eq_false_iff_ne.2 (by omega)
  rcases hnx with hnx | hnx
  · have hrm : s.room = false := by
      rcases hq with q | q
      · exact absurd hnx q
      · exact q
    rw [hnx] at HNx
    rw [hrm] at HRm
    rcases hsp0 with h70 | ⟨h70, hpa⟩
    all_goals try (rw [hpa] at HHp; rw [h70] at HHt; clear h70)
    all_goals
      go_enter Tryz.func28, Tryz.ntmps28
      go_wp2_with (first
        | (go_at_call 34; refine HI0.out.mono ?_; rintro e w' ⟨rfl, u, rfl⟩)
        | (go_at_call 36; refine (HNx.out _).mono ?_; rintro e w' ⟨rfl, u, rfl⟩)
        | (go_at_call 37; refine (HRm.out _).mono ?_; rintro e w' ⟨rfl, u, rfl⟩)
        | (go_at_call 39; refine (HBe.out _).mono ?_; rintro e w' ⟨rfl, u, rfl⟩)
        | (go_at_call 40; refine (HHd.out _).mono ?_; rintro e w' ⟨rfl, u, rfl⟩)
        | (go_at_call 42; refine (HFe.out _).mono ?_; rintro e w' ⟨rfl, u, rfl⟩)
        | (go_at_call 45; refine (HHt.out _).mono ?_; rintro e w' ⟨rfl, u, rfl⟩)
        | (go_at_call 48; refine (HUn.out _).mono ?_; rintro e w' ⟨rfl, u, rfl⟩)
        | (go_at_call 51; refine (HRu.out _).mono ?_; rintro e w' ⟨rfl, u, rfl⟩)
        | (go_at_call 46; refine (HHp.out _).mono ?_; rintro e w' ⟨rfl, u, rfl⟩)
        | (go_at_call 49; refine (HIc.out _).mono ?_; rintro e w' ⟨rfl, u, rfl⟩)
        | (go_at_call 50; refine (HX.out _).mono ?_; rintro e w' ⟨rfl, hL⟩))
      go_ret
      exact ⟨rfl, hL⟩
  · generalize ((beh σ.1).headD 0).toNat = nx at *
    rcases hsp0 with h70 | ⟨h70, hpa⟩
    all_goals try (rw [hpa] at HHp; rw [h70] at HHt; clear h70)
    all_goals
      go_enter Tryz.func28, Tryz.ntmps28
      go_wp2_with (first
        | (go_at_call 34; refine HI0.out.mono ?_; rintro e w' ⟨rfl, u, rfl⟩)
        | (go_at_call 36; refine (HNx.out _).mono ?_; rintro e w' ⟨rfl, u, rfl⟩)
        | (go_at_call 37; refine (HRm.out _).mono ?_; rintro e w' ⟨rfl, u, rfl⟩)
        | (go_at_call 39; refine (HBe.out _).mono ?_; rintro e w' ⟨rfl, u, rfl⟩)
        | (go_at_call 40; refine (HHd.out _).mono ?_; rintro e w' ⟨rfl, u, rfl⟩)
        | (go_at_call 42; refine (HFe.out _).mono ?_; rintro e w' ⟨rfl, u, rfl⟩)
        | (go_at_call 45; refine (HHt.out _).mono ?_; rintro e w' ⟨rfl, u, rfl⟩)
        | (go_at_call 48; refine (HUn.out _).mono ?_; rintro e w' ⟨rfl, u, rfl⟩)
        | (go_at_call 51; refine (HRu.out _).mono ?_; rintro e w' ⟨rfl, u, rfl⟩)
        | (go_at_call 46; refine (HHp.out _).mono ?_; rintro e w' ⟨rfl, u, rfl⟩)
        | (go_at_call 49; refine (HIc.out _).mono ?_; rintro e w' ⟨rfl, u, rfl⟩)
        | (go_at_call 50; refine (HX.out _).mono ?_; rintro e w' ⟨rfl, hL⟩))
      go_ret
      exact ⟨rfl, hL⟩

end Go.Proofs.YtcbojffcnlkejaaGreatDoor

/- What begins at a place: a Rule. -/
namespace Go.Proofs.YtcbojffcnlkejaaGreatDoor
open Go.RowKit
open cur (cell_blk free_blk set_blk blk_below Cur cptr Oth)

set_option maxHeartbeats 16000000 in
theorem bbeg_rule {w : World} {r c n K ht : Nat} {own : Nat → Nat} {B : Nat} {s : St} {σ : Pl} (h : Good w r own B s) (hB : B + K ≤ 549755813888) (hon : 1 ≤ s.on) (hl : LeafLeft s) (hC : Cur w c σ) (hc : own c = 0) (hn : n ≤ B) (hK : 2 ≤ K) (hi : ¬ 3 < indR σ) (hq : (beh σ.1).headD 0 ≠ 62 ∨ s.room = false)
    (hH : ∀ u, Below w.heap.size w u → Calls Tryz.prog 45 #[.string ⟨(beh σ.1).toArray⟩] u fun e w' => e = .returned (.int .i64 (ht : Int)) ∧ Below u.heap.size u w') (hhd : (headL (beh σ.1)).1 = 0) (hfe : (fenceL (beh σ.1)).2.1 = 0) (hht : ht = 0 ∨ (ht = 7 ∧ s.hasPara = true)) (hun : underL (beh σ.1) = 0 ∨ s.isClose = false) (hru : ruleL (beh σ.1) = true) :
    Calls Tryz.prog 28 #[ptrV r, lnV c n] w fun e w' => e = .returned (.int .i64 2) ∧ LeftC w r own c (B + K) (s.beginWhole n { kind := 8 }) σ w' := by
  have hli := line_blk c n w
  have HB1 : Hid (Below w.heap.size w (w.alloc (.cells #[cptr c, .int .i64 (n : Int)] 63))) := (Below.refl _ _).alloc (Nat.le_refl _) _
  generalize hW : w.alloc (.cells #[cptr c, .int .i64 (n : Int)] 63) = W1 at hli HB1
  have hBU : ∀ u : BwW W1, Below w.heap.size w u.wo := fun u => HB1.out.trans (u.is.mono HB1.out.size)
  have a0 := cell_blk hli (i := 0) rfl
  have l0 := fun u : BwW W1 => cell_blk (u.blk hli) (i := 0) rfl
  have l1 := fun u : BwW W1 => cell_blk (u.blk hli) (i := 1) rfl
  simp only [List.getElem_toArray, List.getElem_cons_zero, List.getElem_cons_succ] at a0 l0 l1
  have HI0 : Hid (Calls Tryz.prog 34 #[cptr c] W1 fun e w' => e = .returned (.int .i64 (indR σ : Int)) ∧ ∃ u : BwW W1, w' = u.wo) := (cur.indent_any (hC.below HB1.out)).mono fun _ w' q => ⟨q.1, BwW.of (Below.refl _ _), q.2⟩
  have HNx : Hid (∀ u : BwW W1, Calls Tryz.prog 36 #[cptr c] u.wo fun e w' => e = .returned (.int .u8 (((beh σ.1).headD 0).toNat : Int)) ∧ ∃ u : BwW W1, w' = u.wo) := fun u => (cur.next_any (hC.below (hBU u))).mono fun _ w' q => ⟨q.1, u, q.2⟩
  have HRm : Hid (∀ u : BwW W1, Calls Tryz.prog 37 #[ptrV r] u.wo fun e w' => e = .returned (.bool s.room) ∧ ∃ u : BwW W1, w' = u.wo) := fun u => (broom_good ((h.clip).below (hBU u)) (by omega)).mono fun _ w' q => ⟨q.1, BwW.of (u.is.trans (q.2.mono u.is.size)), rfl⟩
  have hbz : (beh σ.1).length ≤ 35184372088832 := by have q := hC.wt; unfold wt at q; have q2 := (endC_le σ.1 0).2; omega
  have low : ∀ {f : FuncId} {args : Array Value} {v : Value}, (∀ u, Calls Tryz.prog f args u fun e w' => e = .returned v ∧ Below u.heap.size u w') → ∀ u : BwW W1, Calls Tryz.prog f args u.wo fun e w' => e = .returned v ∧ ∃ u : BwW W1, w' = u.wo := fun q u => (q u.wo).mono fun _ w' q => ⟨q.1, BwW.of (u.is.trans (q.2.mono u.is.size)), rfl⟩
  have HBe : Hid (∀ u : BwW W1, Calls Tryz.prog 39 #[cptr c] u.wo fun e w' => e = .returned (.string ⟨(beh σ.1).toArray⟩) ∧ ∃ u : BwW W1, w' = u.wo) := fun u => (cur.behind_any (hC.below (hBU u))).mono fun _ w' q => ⟨q.1, by obtain ⟨m, e⟩ := q.2; exact ⟨BwW.of (w := u.wo.drewN m) (u.is.trans ⟨rfl, rfl, rfl, Nat.le_refl _, fun _ _ => rfl⟩), e⟩⟩
  have HHd : Hid (∀ u : BwW W1, Calls Tryz.prog 40 #[.string ⟨(beh σ.1).toArray⟩] u.wo fun e w' => e = .returned (headV (headL (beh σ.1))) ∧ ∃ u : BwW W1, w' = u.wo) := fun u => low (fun u => by have q := lheading_any ⟨(beh σ.1).toArray⟩ (by rw [size_list]; omega) u; rw [list_data] at q; exact q) u
  have HFe : Hid (∀ u : BwW W1, Calls Tryz.prog 42 #[.string ⟨(beh σ.1).toArray⟩] u.wo fun e w' => e = .returned (fenceV (fenceL (beh σ.1))) ∧ ∃ u : BwW W1, w' = u.wo) := fun u => low (fun u => by have q := lfence_any ⟨(beh σ.1).toArray⟩ (by rw [size_list]; omega) u; rw [list_data] at q; exact q) u
  have HHt : Hid (∀ u : BwW W1, Calls Tryz.prog 45 #[.string ⟨(beh σ.1).toArray⟩] u.wo fun e w' => e = .returned (.int .i64 (ht : Int)) ∧ ∃ u : BwW W1, w' = u.wo) := fun u => (hH u.wo (hBU u)).mono fun _ w' q => ⟨q.1, BwW.of (u.is.trans (q.2.mono u.is.size)), rfl⟩
  have HUn : Hid (∀ u : BwW W1, Calls Tryz.prog 48 #[.string ⟨(beh σ.1).toArray⟩] u.wo fun e w' => e = .returned (.int .i64 (underL (beh σ.1) : Int)) ∧ ∃ u : BwW W1, w' = u.wo) := fun u => low (fun u => by have q := lunder_any ⟨(beh σ.1).toArray⟩ (by rw [size_list]; omega) u; rw [list_data] at q; exact q) u
  have HRu : Hid (∀ u : BwW W1, Calls Tryz.prog 51 #[.string ⟨(beh σ.1).toArray⟩] u.wo fun e w' => e = .returned (.bool (ruleL (beh σ.1))) ∧ ∃ u : BwW W1, w' = u.wo) := fun u => low (fun u => by have q := lrule_any ⟨(beh σ.1).toArray⟩ (by rw [size_list]; omega) u; rw [list_data] at q; exact q) u
  have HHp : Hid (∀ u : BwW W1, Calls Tryz.prog 46 #[ptrV r] u.wo fun e w' => e = .returned (.bool s.hasPara) ∧ ∃ u : BwW W1, w' = u.wo) := fun u => (bhasPara_good ((h.clip).below (hBU u)) (by omega)).mono fun _ w' q => ⟨q.1, by obtain ⟨m, e⟩ := q.2; exact ⟨BwW.of (w := u.wo.drewN m) (u.is.trans ⟨rfl, rfl, rfl, Nat.le_refl _, fun _ _ => rfl⟩), e⟩⟩
  have HIc : Hid (∀ u : BwW W1, Calls Tryz.prog 49 #[ptrV r] u.wo fun e w' => e = .returned (.bool s.isClose) ∧ ∃ u : BwW W1, w' = u.wo) := fun u => (bisClose_good ((h.clip).below (hBU u)) (by omega)).mono fun _ w' q => ⟨q.1, BwW.of (u.is.trans (q.2.mono u.is.size)), rfl⟩
  have HX : Hid (∀ u : BwW W1, Calls Tryz.prog 41 #[ptrV r, lnV c n, .agg (biCells { kind := 8 } (.slice none 0 0)).toArray] u.wo fun e w' => e = .returned (.int .i64 2) ∧ LeftC w r own c (B + K) (s.beginWhole n { kind := 8 }) σ w') := fun u => by
    obtain ⟨g, cu, hcc⟩ := good_grown h hC hc (hBU u)
    refine (bbeginWhole_any g (by omega) hon hl cu hcc hn).mono ?_
    rintro e w' ⟨rfl, q⟩
    obtain ⟨own', q1, q2, q3⟩ := q.back (hBU u)
    exact ⟨rfl, own', q1.more (by omega), q2, q3⟩
  have hi' : ¬ 3 < (indR σ : Int) := by omega
  clear hli h hl hC hBU low hH
  generalize indR σ = ind at *
  have hhd' : ¬ 0 < ((headL (beh σ.1)).1 : Int) := by omega
  generalize headL (beh σ.1) = hd at *
  obtain ⟨lv, tx⟩ := hd
  simp only [headV] at hhd hhd' HHd
  have hfe' : ¬ 0 < ((fenceL (beh σ.1)).2.1 : Int) := by omega
  generalize fenceL (beh σ.1) = fe at *
  obtain ⟨fs, fz, fi⟩ := fe
  simp only [fenceV] at hfe hfe' HFe
  generalize fs.toNat = fsn at *
  have hsp0 : (¬ 0 < (ht : Int)) ∨ ((ht : Int) = 7 ∧ s.hasPara = true) := by
    rcases hht with q | ⟨q, q2⟩
    · left; omega
    · right; exact ⟨by omega, q2⟩
  clear hht
  have hsp1 : (¬ 0 < (underL (beh σ.1) : Int)) ∨ (0 < (underL (beh σ.1) : Int) ∧ s.isClose = false) := by
    rcases Nat.eq_zero_or_pos (underL (beh σ.1)) with q | q
    · left; omega
    · right
      refine ⟨by omega, ?_⟩
      rcases hun with q2 | q2
      · omega
      · exact q2
  clear hun
  generalize underL (beh σ.1) = ul at *
  rw [hru] at HRu
  generalize hlbe : w.heap.size = lb at *
  have hnx : (beh σ.1).headD 0 = 62 ∨ ((((beh σ.1).headD 0).toNat : Int) == 62) = false := by
    rcases Decidable.em ((beh σ.1).headD 0 = 62) with q | q
    · exact .inl q
    · right
      have : ((beh σ.1).headD 0).toNat ≠ 62 := fun e => q (UInt8.toNat_inj.1 e)
      exact beq_eq_false_iff_ne.2 (by omega)
  rcases hnx with hnx | hnx
  · have hrm : s.room = false := by
      rcases hq with q | q
      · exact absurd hnx q
      · exact q
    rw [hnx] at HNx
    rw [hrm] at HRm
    rcases hsp0 with h70 | ⟨h70, hpa⟩
    all_goals try (rw [hpa] at HHp; rw [h70] at HHt; clear h70)
    all_goals rcases hsp1 with hu0 | ⟨hu0, hic⟩
    all_goals try (rw [hic] at HIc)
    all_goals
      go_enter Tryz.func28, Tryz.ntmps28
      go_wp2_with (first
        | (go_at_call 34; refine HI0.out.mono ?_; rintro e w' ⟨rfl, u, rfl⟩)
        | (go_at_call 36; refine (HNx.out _).mono ?_; rintro e w' ⟨rfl, u, rfl⟩)
        | (go_at_call 37; refine (HRm.out _).mono ?_; rintro e w' ⟨rfl, u, rfl⟩)
        | (go_at_call 39; refine (HBe.out _).mono ?_; rintro e w' ⟨rfl, u, rfl⟩)
        | (go_at_call 40; refine (HHd.out _).mono ?_; rintro e w' ⟨rfl, u, rfl⟩)
        | (go_at_call 42; refine (HFe.out _).mono ?_; rintro e w' ⟨rfl, u, rfl⟩)
        | (go_at_call 45; refine (HHt.out _).mono ?_; rintro e w' ⟨rfl, u, rfl⟩)
        | (go_at_call 48; refine (HUn.out _).mono ?_; rintro e w' ⟨rfl, u, rfl⟩)
        | (go_at_call 51; refine (HRu.out _).mono ?_; rintro e w' ⟨rfl, u, rfl⟩)
        | (go_at_call 46; refine (HHp.out _).mono ?_; rintro e w' ⟨rfl, u, rfl⟩)
        | (go_at_call 49; refine (HIc.out _).mono ?_; rintro e w' ⟨rfl, u, rfl⟩)
        | (go_at_call 41; refine (HX.out _).mono ?_; rintro e w' ⟨rfl, hL⟩))
      go_ret
      exact ⟨rfl, hL⟩
  · generalize ((beh σ.1).headD 0).toNat = nx at *
    rcases hsp0 with h70 | ⟨h70, hpa⟩
    all_goals try (rw [hpa] at HHp; rw [h70] at HHt; clear h70)
    all_goals rcases hsp1 with hu0 | ⟨hu0, hic⟩
    all_goals try (rw [hic] at HIc)
    all_goals
      go_enter Tryz.func28, Tryz.ntmps28
      go_wp2_with (first
        | (go_at_call 34; refine HI0.out.mono ?_; rintro e w' ⟨rfl, u, rfl⟩)
        | (go_at_call 36; refine (HNx.out _).mono ?_; rintro e w' ⟨rfl, u, rfl⟩)
        | (go_at_call 37; refine (HRm.out _).mono ?_; rintro e w' ⟨rfl, u, rfl⟩)
        | (go_at_call 39; refine (HBe.out _).mono ?_; rintro e w' ⟨rfl, u, rfl⟩)
        | (go_at_call 40; refine (HHd.out _).mono ?_; rintro e w' ⟨rfl, u, rfl⟩)
        | (go_at_call 42; refine (HFe.out _).mono ?_; rintro e w' ⟨rfl, u, rfl⟩)
        | (go_at_call 45; refine (HHt.out _).mono ?_; rintro e w' ⟨rfl, u, rfl⟩)
        | (go_at_call 48; refine (HUn.out _).mono ?_; rintro e w' ⟨rfl, u, rfl⟩)
        | (go_at_call 51; refine (HRu.out _).mono ?_; rintro e w' ⟨rfl, u, rfl⟩)
        | (go_at_call 46; refine (HHp.out _).mono ?_; rintro e w' ⟨rfl, u, rfl⟩)
        | (go_at_call 49; refine (HIc.out _).mono ?_; rintro e w' ⟨rfl, u, rfl⟩)
        | (go_at_call 41; refine (HX.out _).mono ?_; rintro e w' ⟨rfl, hL⟩))
      go_ret
      exact ⟨rfl, hL⟩

end Go.Proofs.YtcbojffcnlkejaaGreatDoor

/- What begins at a place: fenced Code. -/
namespace Go.Proofs.YtcbojffcnlkejaaGreatDoor
open Go.RowKit
open cur (cell_blk free_blk set_blk blk_below Cur cptr Oth)

theorem fence_len (l : Str) : (fenceL l).2.1 ≤ l.length := by
  cases l with
  | nil => exact Nat.zero_le _
  | cons c t =>
    have h := row_le (fun b => b == c) (c :: t)
    simp only [fenceL]
    repeat' split
    all_goals first
      | exact Nat.zero_le _
      | exact h

set_option maxHeartbeats 16000000 in
theorem bbeg_fenced {w : World} {r c n K ht : Nat} {own : Nat → Nat} {B : Nat} {s : St} {σ : Pl} (h : Good w r own B s) (hB : B + K ≤ 549755813888) (hon : 1 ≤ s.on) (hl : LeafLeft s) (hC : Cur w c σ) (hc : own c = 0) (hn : n ≤ B) (hK : 2 ≤ K) (hi : ¬ 3 < indR σ) (hq : (beh σ.1).headD 0 ≠ 62 ∨ s.room = false)
    (hH : ∀ u, Below w.heap.size w u → Calls Tryz.prog 45 #[.string ⟨(beh σ.1).toArray⟩] u fun e w' => e = .returned (.int .i64 (ht : Int)) ∧ Below u.heap.size u w') (hhd : (headL (beh σ.1)).1 = 0) (hfe : 0 < (fenceL (beh σ.1)).2.1) :
    Calls Tryz.prog 28 #[ptrV r, lnV c n] w fun e w' => e = .returned (.int .i64 2) ∧ LeftC w r own c (B + K) (s.stand (.fenced { first := n, last := n } (fenceL (beh σ.1)).1 (fenceL (beh σ.1)).2.1 (indR σ) (fenceL (beh σ.1)).2.2)) σ w' := by
  have hli := line_blk c n w
  have HB1 : Hid (Below w.heap.size w (w.alloc (.cells #[cptr c, .int .i64 (n : Int)] 63))) := (Below.refl _ _).alloc (Nat.le_refl _) _
  generalize hW : w.alloc (.cells #[cptr c, .int .i64 (n : Int)] 63) = W1 at hli HB1
  have hBU : ∀ u : BwW W1, Below w.heap.size w u.wo := fun u => HB1.out.trans (u.is.mono HB1.out.size)
  have a0 := cell_blk hli (i := 0) rfl
  have l0 := fun u : BwW W1 => cell_blk (u.blk hli) (i := 0) rfl
  have l1 := fun u : BwW W1 => cell_blk (u.blk hli) (i := 1) rfl
  simp only [List.getElem_toArray, List.getElem_cons_zero, List.getElem_cons_succ] at a0 l0 l1
  have HI0 : Hid (Calls Tryz.prog 34 #[cptr c] W1 fun e w' => e = .returned (.int .i64 (indR σ : Int)) ∧ ∃ u : BwW W1, w' = u.wo) := (cur.indent_any (hC.below HB1.out)).mono fun _ w' q => ⟨q.1, BwW.of (Below.refl _ _), q.2⟩
  have HNx : Hid (∀ u : BwW W1, Calls Tryz.prog 36 #[cptr c] u.wo fun e w' => e = .returned (.int .u8 (((beh σ.1).headD 0).toNat : Int)) ∧ ∃ u : BwW W1, w' = u.wo) := fun u => (cur.next_any (hC.below (hBU u))).mono fun _ w' q => ⟨q.1, u, q.2⟩
  have HRm : Hid (∀ u : BwW W1, Calls Tryz.prog 37 #[ptrV r] u.wo fun e w' => e = .returned (.bool s.room) ∧ ∃ u : BwW W1, w' = u.wo) := fun u => (broom_good ((h.clip).below (hBU u)) (by omega)).mono fun _ w' q => ⟨q.1, BwW.of (u.is.trans (q.2.mono u.is.size)), rfl⟩
  have hbz : (beh σ.1).length ≤ 35184372088832 := by have q := hC.wt; unfold wt at q; have q2 := (endC_le σ.1 0).2; omega
  have low : ∀ {f : FuncId} {args : Array Value} {v : Value}, (∀ u, Calls Tryz.prog f args u fun e w' => e = .returned v ∧ Below u.heap.size u w') → ∀ u : BwW W1, Calls Tryz.prog f args u.wo fun e w' => e = .returned v ∧ ∃ u : BwW W1, w' = u.wo := fun q u => (q u.wo).mono fun _ w' q => ⟨q.1, BwW.of (u.is.trans (q.2.mono u.is.size)), rfl⟩
  have HBe : Hid (∀ u : BwW W1, Calls Tryz.prog 39 #[cptr c] u.wo fun e w' => e = .returned (.string ⟨(beh σ.1).toArray⟩) ∧ ∃ u : BwW W1, w' = u.wo) := fun u => (cur.behind_any (hC.below (hBU u))).mono fun _ w' q => ⟨q.1, by obtain ⟨m, e⟩ := q.2; exact ⟨BwW.of (w := u.wo.drewN m) (u.is.trans ⟨rfl, rfl, rfl, Nat.le_refl _, fun _ _ => rfl⟩), e⟩⟩
  have HHd : Hid (∀ u : BwW W1, Calls Tryz.prog 40 #[.string ⟨(beh σ.1).toArray⟩] u.wo fun e w' => e = .returned (headV (headL (beh σ.1))) ∧ ∃ u : BwW W1, w' = u.wo) := fun u => low (fun u => by have q := lheading_any ⟨(beh σ.1).toArray⟩ (by rw [size_list]; omega) u; rw [list_data] at q; exact q) u
  have HFe : Hid (∀ u : BwW W1, Calls Tryz.prog 42 #[.string ⟨(beh σ.1).toArray⟩] u.wo fun e w' => e = .returned (fenceV (fenceL (beh σ.1))) ∧ ∃ u : BwW W1, w' = u.wo) := fun u => low (fun u => by have q := lfence_any ⟨(beh σ.1).toArray⟩ (by rw [size_list]; omega) u; rw [list_data] at q; exact q) u
  have HHt : Hid (∀ u : BwW W1, Calls Tryz.prog 45 #[.string ⟨(beh σ.1).toArray⟩] u.wo fun e w' => e = .returned (.int .i64 (ht : Int)) ∧ ∃ u : BwW W1, w' = u.wo) := fun u => (hH u.wo (hBU u)).mono fun _ w' q => ⟨q.1, BwW.of (u.is.trans (q.2.mono u.is.size)), rfl⟩
  have HUn : Hid (∀ u : BwW W1, Calls Tryz.prog 48 #[.string ⟨(beh σ.1).toArray⟩] u.wo fun e w' => e = .returned (.int .i64 (underL (beh σ.1) : Int)) ∧ ∃ u : BwW W1, w' = u.wo) := fun u => low (fun u => by have q := lunder_any ⟨(beh σ.1).toArray⟩ (by rw [size_list]; omega) u; rw [list_data] at q; exact q) u
  have HRu : Hid (∀ u : BwW W1, Calls Tryz.prog 51 #[.string ⟨(beh σ.1).toArray⟩] u.wo fun e w' => e = .returned (.bool (ruleL (beh σ.1))) ∧ ∃ u : BwW W1, w' = u.wo) := fun u => low (fun u => by have q := lrule_any ⟨(beh σ.1).toArray⟩ (by rw [size_list]; omega) u; rw [list_data] at q; exact q) u
  have HHp : Hid (∀ u : BwW W1, Calls Tryz.prog 46 #[ptrV r] u.wo fun e w' => e = .returned (.bool s.hasPara) ∧ ∃ u : BwW W1, w' = u.wo) := fun u => (bhasPara_good ((h.clip).below (hBU u)) (by omega)).mono fun _ w' q => ⟨q.1, by obtain ⟨m, e⟩ := q.2; exact ⟨BwW.of (w := u.wo.drewN m) (u.is.trans ⟨rfl, rfl, rfl, Nat.le_refl _, fun _ _ => rfl⟩), e⟩⟩
  have HIc : Hid (∀ u : BwW W1, Calls Tryz.prog 49 #[ptrV r] u.wo fun e w' => e = .returned (.bool s.isClose) ∧ ∃ u : BwW W1, w' = u.wo) := fun u => (bisClose_good ((h.clip).below (hBU u)) (by omega)).mono fun _ w' q => ⟨q.1, BwW.of (u.is.trans (q.2.mono u.is.size)), rfl⟩
  have HX : Hid (∀ u, Below w.heap.size w u → Calls Tryz.prog 43 #[ptrV r, .iface 98 (ptrV u.heap.size)] (u.alloc (.cells #[.int .i64 (n : Int), .int .i64 (n : Int), .slice none 0 0, .int .u8 ((fenceL (beh σ.1)).1.toNat : Int), .int .i64 ((fenceL (beh σ.1)).2.1 : Int), .int .i64 (indR σ : Int), strV (fenceL (beh σ.1)).2.2] 103)) fun e w' => e = .returned (.tuple #[]) ∧ LeftC w r own c (B + K) (s.stand (.fenced { first := n, last := n } (fenceL (beh σ.1)).1 (fenceL (beh σ.1)).2.1 (indR σ) (fenceL (beh σ.1)).2.2)) σ w') := fun u hu => by
    refine (bstand_new (p := .fenced { first := n, last := n } (fenceL (beh σ.1)).1 (fenceL (beh σ.1)).2.1 (indR σ) (fenceL (beh σ.1)).2.2) ((h.clip).below hu) (by omega) hon hl (clip_new hu.size) rfl rfl rfl ⟨hn, hn, by have := fence_len (beh σ.1); omega, by omega⟩).mono ?_
    rintro e w' ⟨rfl, q⟩
    obtain ⟨own', q1, q2, q3⟩ := LeftC.of hu q hC hc
    exact ⟨rfl, own', q1.more (by show B + (3 * 0 + 0 + 1) ≤ B + K; omega), q2, q3⟩
  have HBd : Hid (∀ w, Calls Tryz.prog 44 #[lnV c n] w fun e w' => e = .returned (.agg #[.int .i64 (n : Int), .int .i64 (n : Int), .slice none 0 0]) ∧ Below w.heap.size w w') := fun w => bbody_any c n w
  have HI2 : Hid (∀ u, Below w.heap.size w u → Calls Tryz.prog 34 #[cptr c] u fun e w' => e = .returned (.int .i64 (indR σ : Int)) ∧ w' = u) := fun u hu => cur.indent_any (hC.below hu)
  have HLn : Hid (∀ u : BwW W1, u.wo.heap[w.heap.size]? = some (.cells #[cptr c, .int .i64 (n : Int)] 63 (0, 0))) := fun u => u.blk hli
  have HBU : Hid (∀ u : BwW W1, Below w.heap.size w u.wo) := hBU
  have hi' : ¬ 3 < (indR σ : Int) := by omega
  clear hli h hl hC hBU low hH
  generalize indR σ = ind at *
  have hhd' : ¬ 0 < ((headL (beh σ.1)).1 : Int) := by omega
  generalize headL (beh σ.1) = hd at *
  obtain ⟨lv, tx⟩ := hd
  simp only [headV] at hhd hhd' HHd
  have hfe' : 0 < ((fenceL (beh σ.1)).2.1 : Int) := by omega
  generalize fenceL (beh σ.1) = fe at *
  obtain ⟨fs, fz, fi⟩ := fe
  simp only [fenceV] at hfe hfe' HFe HX ⊢
  generalize hfn : fs.toNat = fsn at *
  generalize hlbe : w.heap.size = lb at *
  have hnx : (beh σ.1).headD 0 = 62 ∨ ((((beh σ.1).headD 0).toNat : Int) == 62) = false := by
    rcases Decidable.em ((beh σ.1).headD 0 = 62) with q | q
    · exact .inl q
    · right
      have : ((beh σ.1).headD 0).toNat ≠ 62 := fun e => q (UInt8.toNat_inj.1 e)
      exact beq_eq_false_iff_ne.2 (by omega)
  rcases hnx with hnx | hnx
  · have hrm : s.room = false := by
      rcases hq with q | q
      · exact absurd hnx q
      · exact q
    rw [hnx] at HNx
    rw [hrm] at HRm
    go_enter Tryz.func28, Tryz.ntmps28
    go_wp2_with (first
      | (go_at_call 34; refine HI0.out.mono ?_; rintro e w' ⟨rfl, u, rfl⟩)
      | (go_at_call 36; refine (HNx.out _).mono ?_; rintro e w' ⟨rfl, u, rfl⟩)
      | (go_at_call 37; refine (HRm.out _).mono ?_; rintro e w' ⟨rfl, u, rfl⟩)
      | (go_at_call 39; refine (HBe.out _).mono ?_; rintro e w' ⟨rfl, u, rfl⟩)
      | (go_at_call 40; refine (HHd.out _).mono ?_; rintro e w' ⟨rfl, u, rfl⟩)
      | (go_at_call 42; refine (HFe.out _).mono ?_; rintro e w' ⟨rfl, u, rfl⟩)
      | (go_at_call 45; refine (HHt.out _).mono ?_; rintro e w' ⟨rfl, u, rfl⟩)
      | (go_at_call 48; refine (HUn.out _).mono ?_; rintro e w' ⟨rfl, u, rfl⟩)
      | (go_at_call 51; refine (HRu.out _).mono ?_; rintro e w' ⟨rfl, u, rfl⟩)
      | (go_at_call 46; refine (HHp.out _).mono ?_; rintro e w' ⟨rfl, u, rfl⟩)
      | (go_at_call 49; refine (HIc.out _).mono ?_; rintro e w' ⟨rfl, u, rfl⟩))
    have hd6 : Below lb w u.wo.drew := by
      have q := HBU.out u
      exact ⟨q.os, q.tape, q.output, q.size, q.block⟩
    have hln : u.wo.drew.heap[lb]? = some (.cells #[cptr c, .int .i64 (n : Int)] 63 (0, 0)) := HLn.out u
    obtain ⟨c0, c1⟩ := zer2 hln
    have HLu : Hid (u.wo.drew.heap[lb]? = some (.cells #[cptr c, .int .i64 (n : Int)] 63 (0, 0))) := hln
    have HD6 : Hid (Below lb w u.wo.drew) := hd6
    clear hd6 hln
    go_region_with (first
      | (go_at_call 44; refine (HBd.out _).mono ?_; rintro e a6 ⟨rfl, hb6⟩; have HB6 : Hid (Below lb w a6) := HD6.out.trans (hb6.mono (by have q := HD6.out.size; rw [hlbe] at q; exact q)); obtain ⟨e0, e1⟩ := zer2 (blk_below HLu.out hb6); clear hb6)
      | (go_at_call 34; refine (HI2.out a6 HB6.out).mono ?_; rintro e a7 ⟨rfl, rfl⟩)
      | (go_at_call 43; refine (HX.out _ HB6.out).mono ?_; rintro e a8 ⟨rfl, hL⟩; have HL := (show Hid _ from hL); clear hL))
    all_goals
      go_wp2
      go_ret
      exact ⟨rfl, HL.out⟩
  · generalize ((beh σ.1).headD 0).toNat = nx at *
    go_enter Tryz.func28, Tryz.ntmps28
    go_wp2_with (first
      | (go_at_call 34; refine HI0.out.mono ?_; rintro e w' ⟨rfl, u, rfl⟩)
      | (go_at_call 36; refine (HNx.out _).mono ?_; rintro e w' ⟨rfl, u, rfl⟩)
      | (go_at_call 37; refine (HRm.out _).mono ?_; rintro e w' ⟨rfl, u, rfl⟩)
      | (go_at_call 39; refine (HBe.out _).mono ?_; rintro e w' ⟨rfl, u, rfl⟩)
      | (go_at_call 40; refine (HHd.out _).mono ?_; rintro e w' ⟨rfl, u, rfl⟩)
      | (go_at_call 42; refine (HFe.out _).mono ?_; rintro e w' ⟨rfl, u, rfl⟩)
      | (go_at_call 45; refine (HHt.out _).mono ?_; rintro e w' ⟨rfl, u, rfl⟩)
      | (go_at_call 48; refine (HUn.out _).mono ?_; rintro e w' ⟨rfl, u, rfl⟩)
      | (go_at_call 51; refine (HRu.out _).mono ?_; rintro e w' ⟨rfl, u, rfl⟩)
      | (go_at_call 46; refine (HHp.out _).mono ?_; rintro e w' ⟨rfl, u, rfl⟩)
      | (go_at_call 49; refine (HIc.out _).mono ?_; rintro e w' ⟨rfl, u, rfl⟩))
    have hd6 : Below lb w u.wo.drew := by
      have q := HBU.out u
      exact ⟨q.os, q.tape, q.output, q.size, q.block⟩
    have hln : u.wo.drew.heap[lb]? = some (.cells #[cptr c, .int .i64 (n : Int)] 63 (0, 0)) := HLn.out u
    obtain ⟨c0, c1⟩ := zer2 hln
    have HLu : Hid (u.wo.drew.heap[lb]? = some (.cells #[cptr c, .int .i64 (n : Int)] 63 (0, 0))) := hln
    have HD6 : Hid (Below lb w u.wo.drew) := hd6
    clear hd6 hln
    go_region_with (first
      | (go_at_call 44; refine (HBd.out _).mono ?_; rintro e a6 ⟨rfl, hb6⟩; have HB6 : Hid (Below lb w a6) := HD6.out.trans (hb6.mono (by have q := HD6.out.size; rw [hlbe] at q; exact q)); obtain ⟨e0, e1⟩ := zer2 (blk_below HLu.out hb6); clear hb6)
      | (go_at_call 34; refine (HI2.out a6 HB6.out).mono ?_; rintro e a7 ⟨rfl, rfl⟩)
      | (go_at_call 43; refine (HX.out _ HB6.out).mono ?_; rintro e a8 ⟨rfl, hL⟩; have HL := (show Hid _ from hL); clear hL))
    all_goals
      go_wp2
      go_ret
      exact ⟨rfl, HL.out⟩

end Go.Proofs.YtcbojffcnlkejaaGreatDoor
