/- Several texts in one. -/
import Derived.Test.YtcbojffcnlkejaaGreatDoorG43
import Derived.Test.YtcbojffcnlkejaaGreatDoorG40
import Derived.Test.YtcbojffcnlkejaaGreatDoorG41
import Derived.Test.YtcbojffcnlkejaaGreatDoorG08
set_option linter.unusedVariables false
/- What is innermost is taken away, and handed to the one ahead: in memory. -/
namespace Go.Proofs.YtcbojffcnlkejaaGreatDoor
open Go.RowKit
open cur (cell_blk free_blk set_blk blk_below)

theorem RepR.more {w : World} {r : Nat} {own : Nat → Nat} {N N' : Nat} {bs : List Nat} {vo vd vm : Value} {s : St} (h : RepR w r own N bs vo vd vm s) (hN : N ≤ N') : RepR w r own N' bs vo vd vm s :=
  ⟨h.rd, h.rown, h.opens, h.oown, h.defs.mono (fun _ _ q => q) hN, h.len, h.part⟩

theorem zip_take (l : List Part) (bs : List Nat) (n : Nat) : List.zipWith partI (l.take n) (bs.take n) = (List.zipWith partI l bs).take n := by
  rw [List.take_zipWith]

theorem row_part {w : World} {e : TypeId} {g n c : Nat} {xs : List Value} (h : w.ownsRow 0 e 1 (.slice (some ⟨g, 0, none⟩) n c) n xs) (k : Nat) (hk : k ≤ n) : w.ownsRow 0 e 1 (.slice (some ⟨g, 0, none⟩) k c) k (xs.take k) := row_take h k hk

/-- The row of what is open is cut, and the reader's block is written. -/
theorem drop_rep {w w' : World} {r : Nat} {own : Nat → Nat} {N : Nat} {bs : List Nat} {g c m : Nat} {vd vm : Value} {s : St} (h : RepR w r own N bs (.slice (some ⟨g, 0, none⟩) m c) vd vm s) (k on' : Nat) (hm : s.opens.length = m) (hk : k ≤ m)
    (hr : w'.heap[r]? = some (.cells (rdCs (.slice (some ⟨g, 0, none⟩) k c) vd vm on') 58 (0, 0))) (ho : ∀ i, i ≠ r → w'.heap[i]? = w.heap[i]?) :
    RepR w' r own N (bs.take k) (.slice (some ⟨g, 0, none⟩) k c) vd vm { opens := s.opens.take k, on := on', defs := s.defs } := by
  have hgr : g ≠ r := by
    intro e
    obtain ⟨cu, q⟩ := row_block h.opens (g := g) rfl
    rw [e, h.rd] at q
    cases q
  have hkl : (s.opens.take k).length = k := by rw [List.length_take]; omega
  refine ⟨hr, h.rown, ?_, h.oown, ?_, ?_, ?_⟩
  · show w'.ownsRow 0 _ 1 _ (s.opens.take k).length _
    rw [hkl, zip_take]
    have := h.opens
    rw [hm] at this
    exact row_keeps (row_part this k hk) (fun i hi => by cases hi; exact ho g hgr)
  · obtain ⟨d1, d2, d3⟩ := h.defs
    refine ⟨row_keeps d1 (fun i hi => ho i ?_), d2, ?_⟩
    · intro e
      obtain ⟨cu, q⟩ := row_block d1 hi
      rw [e, h.rd] at q
      cases q
    · rcases d3 with d3 | ⟨mm, n, cnt, a1, a2, a3, a4⟩
      · exact .inl d3
      · exact .inr ⟨mm, n, cnt, a1, a2, map_keeps a3 (ho mm (map_ne a3 h.rd)), a4⟩
  · show (bs.take k).length = (s.opens.take k).length
    rw [List.length_take, List.length_take, h.len]
  · intro i b p hb hp
    have hp : (s.opens.take k)[i]? = some p := hp
    have hi : i < k := by
      have := (List.getElem?_eq_some_iff.1 hp).1
      rw [hkl] at this
      exact this
    rw [List.getElem?_take_of_lt hi] at hb hp
    exact (h.part i b p hb hp).keeps (fun _ q => q) (fun _ q => q) (fun j _ q => ho j (fun e => by rw [e, h.rown] at q; omega)) (fun j _ q => ho j (fun e => by rw [e, h.rown] at q; omega))

/-- Whose blocks are when the container at place n has taken in what was at place n + 1. -/
def ownHeld (own : Nat → Nat) (w : World) (n : Nat) (v' : Value) (g : Nat) : Nat := if g < w.heap.size then (if own g = 2 * n + 4 ∨ own g = 2 * n + 5 then 2 * n + 3 else own g) else if v'.ownBlock = some g then 2 * n + 2 else 0

theorem held_rep {w w' : World} {r : Nat} {own : Nat → Nat} {N : Nat} {bs : List Nat} {vo vd vm : Value} {s : St} (h : RepR w r own N bs vo vd vm s) {n b : Nat} {c c' : Part} (hn : s.opens.length = n + 1) (hc : s.opens[n]? = some c) (hb : bs[n]? = some b) (hT : partP c' = partP c) (hC : c'.isC = true)
    (hH : HeldC w (fun g => g < w.heap.size ∧ own g = 2 * n + 2) (fun g => (g < w.heap.size ∧ own g = 2 * n + 3) ∨ (g < w.heap.size ∧ own g = 2 * (n + 1) + 2) ∨ (g < w.heap.size ∧ own g = 2 * (n + 1) + 3)) b c' w') :
    ∃ own', RepR w' r own' N bs vo vd vm { s with opens := s.opens.set n c' } ∧ Step w own w' own' := by
  obtain ⟨v', xs, h1, h2, h3, h4, hF'⟩ := hH
  have hF : Fr (fun g => own g = 2 * n + 2) w w' := hF'.mono (fun _ q => q.2)
  have hbo : own b = 2 * n + 2 := (h.part n b c hb hc).1
  have hblt : b < w.heap.size := by obtain ⟨_, _, q, _⟩ := h.part n b c hb hc; exact lt_of_block q
  have hnlt : n < s.opens.length := by omega
  have old : ∀ g, g < w.heap.size → own g ≠ 2 * n + 4 → own g ≠ 2 * n + 5 → ownHeld own w n v' g = own g := fun g hg q1 q2 => by
    unfold ownHeld
    rw [if_pos hg, if_neg (by omega)]
  refine ⟨ownHeld own w n v', ⟨?_, ?_, ?_, ?_, ?_, ?_, ?_⟩, ?_, ?_⟩
  · exact hF.keeps h.rd (by rw [h.rown]; omega)
  · rw [old r (lt_of_block h.rd) (by rw [h.rown]; omega) (by rw [h.rown]; omega)]; exact h.rown
  · show w'.ownsRow 0 _ 1 vo (s.opens.set n c').length (List.zipWith partI (s.opens.set n c') bs)
    rw [List.length_set, zip_set hc hT]
    exact row_keeps h.opens (fun g hg => hF.block g (World.ownsRow.lt h.opens g hg).2 (by rw [h.oown g hg]; omega))
  · intro g hg
    have := h.oown g hg
    rw [old g (World.ownsRow.lt h.opens g hg).2 (by omega) (by omega)]; exact this
  · have d := h.defs.keeps (O' := fun g => own g = 1) (w' := w') (fun _ q => q) (fun g hg q => hF.block g hg (by rw [show own g = 1 from q]; omega))
    obtain ⟨d1, d2, d3⟩ := h.defs
    have dm := DefsV.mono (O' := fun g => g < w.heap.size ∧ own g = 1) h.defs (fun g hg q => ⟨hg, q⟩) (Nat.le_refl _)
    exact dm.keeps (fun g q => by show ownHeld own w n v' g = 1; rw [old g q.1 (by have := q.2; omega) (by have := q.2; omega)]; exact q.2) (fun g hg q => hF.block g hg (by rw [q.2]; omega))
  · show bs.length = (s.opens.set n c').length
    rw [List.length_set]; exact h.len
  · intro j b' p' hb' hp'
    by_cases hj : j = n
    · subst hj
      have hp' : (s.opens.set j c')[j]? = some p' := hp'
      rw [List.getElem?_set_self hnlt] at hp'
      cases hp'
      rw [hb] at hb'
      cases hb'
      have hK : KidsV w' (fun g => ownHeld own w j v' g = 2 * j + 2) (fun g => ownHeld own w j v' g = 2 * j + 3) v' (toldK c') := by
        refine ⟨xs, h2, fun g hg => ?_, ?_⟩
        · rcases h4 g hg with q | q
          · show ownHeld own w j v' g = _
            have q2 := q.2
            rw [old g q.1 (by omega) (by omega)]; exact q2
          · show ownHeld own w j v' g = _
            unfold ownHeld
            rw [if_neg (by omega), if_pos hg]
        · refine KidC.keeps (fun g q => ?_) (fun _ _ _ => rfl) _ _ h3
          show ownHeld own w j v' g = _
          unfold ownHeld
          rcases q with ⟨q1, q2⟩ | ⟨q1, q2⟩ | ⟨q1, q2⟩
          · rw [if_pos q1, if_neg (by omega)]; exact q2
          · rw [if_pos q1, if_pos (.inl (by omega))]
          · rw [if_pos q1, if_pos (.inr (by omega))]
      refine ⟨?_, v', h1, ?_⟩
      · show ownHeld own w j v' b = _
        rw [old b hblt (by omega) (by omega)]; exact hbo
      · cases c' with
        | doc x => exact hK
        | quote x => exact hK
        | list x m => exact hK
        | item x m => exact hK
        | _ => cases hC
    · have hp' : (s.opens.set n c')[j]? = some p' := hp'
      rw [List.getElem?_set_ne (Ne.symm hj)] at hp'
      have hjl : j < n := by
        have := (List.getElem?_eq_some_iff.1 hp').1
        omega
      obtain ⟨z1, vz, z2, z3⟩ := h.part j b' p' hb' hp'
      have hz : PartR w (fun g => g < w.heap.size ∧ own g = 2 * j + 2) (fun g => g < w.heap.size ∧ own g = 2 * j + 3) b' p' := ⟨⟨lt_of_block z2, z1⟩, vz, z2, partV_lt z3⟩
      exact hz.keeps (fun g q => by show ownHeld own w n v' g = _; rw [old g q.1 (by have := q.2; omega) (by have := q.2; omega)]; exact q.2) (fun g q => by show ownHeld own w n v' g = _; rw [old g q.1 (by have := q.2; omega) (by have := q.2; omega)]; exact q.2) (fun g hg q => hF.block g hg (by rw [q.2]; omega)) (fun g hg q => hF.block g hg (by rw [q.2]; omega))
  · exact hF.mono (fun g q => by show own g ≠ 0; rw [show own g = 2 * n + 2 from q]; omega)
  · intro g hg h0
    rw [old g hg (by omega) (by omega)]; exact h0

end Go.Proofs.YtcbojffcnlkejaaGreatDoor

/- What is innermost is closed. -/
namespace Go.Proofs.YtcbojffcnlkejaaGreatDoor
open Go.RowKit
open cur (cell_blk free_blk set_blk blk_below)

theorem takeOff_not {p : Part} (h : p.isPara = false) (d : List Df) : St.takeOff p d = (p, d) := by
  cases p <;> first | rfl | cases h
theorem takeOff_P (p : Part) (d : List Df) : partP (St.takeOff p d).1 = partP p := by cases p <;> rfl
theorem hold_P (c p : Part) : partP (c.hold p) = partP c := by cases c <;> rfl
theorem hold_C (c p : Part) : (c.hold p).isC = c.isC := by cases c <;> rfl
theorem takeOff_item (p : Part) (d : List Df) : (St.takeOff p d).1.isItem = p.isItem := by cases p <;> rfl

/-- What close leaves. -/
theorem close_eq {s : St} {n : Nat} {p c : Part} (hn : s.opens.length = n + 2) (hp : s.opens[n + 1]? = some p) (hc : s.opens[n]? = some c) :
    s.close = { opens := ((s.opens.set (n + 1) (St.takeOff p s.defs).1).take (n + 1)).set n (c.hold (St.takeOff p s.defs).1), on := min s.on (n + 1), defs := (St.takeOff p s.defs).2 } := by
  have hl : s.opens.getLast? = some p := by rw [List.getLast?_eq_getElem?, hn]; exact hp
  have hd : s.opens.dropLast = s.opens.take (n + 1) := by rw [List.dropLast_eq_take, hn]; rfl
  have h2 : (s.opens.take (n + 1)).getLast? = some c := by
    rw [List.getLast?_eq_getElem?, List.length_take, hn, show min (n + 1) (n + 2) - 1 = n by omega, List.getElem?_take_of_lt (by omega)]
    exact hc
  unfold St.close
  rw [hl]
  simp only
  rw [hd, hn, show n + 2 - 1 = n + 1 by omega]
  congr 1
  unfold St.holdLast
  rw [h2]
  simp only
  apply List.ext_getElem?
  intro j
  have hlen : (s.opens.take (n + 1)).dropLast.length = n := by rw [List.length_dropLast, List.length_take, hn]; omega
  rcases Nat.lt_trichotomy j n with hj | hj | hj
  · rw [List.getElem?_append_left (by omega), List.getElem?_set_ne (by omega), List.getElem?_take_of_lt (by omega), List.getElem?_set_ne (by omega), List.dropLast_eq_take, List.getElem?_take_of_lt (by rw [List.length_take, hn]; omega), List.getElem?_take_of_lt (by omega)]
  · subst hj
    rw [List.getElem?_append_right (by omega), hlen, Nat.sub_self, List.getElem?_set_self (by rw [List.length_take, List.length_set, hn]; omega)]
    rfl
  · rw [List.getElem?_eq_none (by rw [List.length_append, hlen]; simp; omega), List.getElem?_eq_none (by rw [List.length_set, List.length_take, List.length_set, hn]; omega)]

set_option maxHeartbeats 4000000 in
set_option maxRecDepth 20000 in
theorem bclose_any {w : World} {r : Nat} {own : Nat → Nat} {N : Nat} {s : St} (h : Rep w r own N s) {n : Nat} {p c : Part} (hn : s.opens.length = n + 2) (hp : s.opens[n + 1]? = some p) (hc : s.opens[n]? = some c) (hC : c.isC = true) (hL : c.isList = true → p.isItem = true)
    (hpo : p.ok 1099511627776) (hpo' : (St.takeOff p s.defs).1.ok 1099511627776) (hco : c.ok 1099511627776) (hN : N + p.bulk ≤ 1099511627776) (hd : s.defs.length + p.bulk ≤ 1099511627776) (hz : n + 1 ≤ 1099511627776) (hon : s.on ≤ 1099511627776) :
    Calls Tryz.prog 30 #[ptrV r] w fun e w' => e = .returned (.tuple #[]) ∧ ∃ own', Rep w' r own' (N + p.bulk) s.close ∧ Step w own w' own' := by
  obtain ⟨bs, vo, vd, vm, h⟩ := h
  obtain ⟨b, hb, hbp⟩ := h.at hp
  have HI : Hid (Calls Tryz.prog 23 #[ptrV r] w fun e w' => e = .returned (.iface (partP p) (ptrV b)) ∧ ∃ m, w' = w.drewN m) := binner_any h (n := n + 1) hn hp hb (by omega)
  have ta := fun w => as_para p b w
  rw [close_eq hn hp hc]
  have HR := (show Hid _ from h)
  go_enter Tryz.func30, Tryz.ntmps30
  go_upto_if 12 with (go_at_call 23; refine HI.out.mono ?_; rintro e u ⟨rfl, m, rfl⟩)
  go_cut [] from 3 to 17 (fun wx => ∃ own1 vd1 vm1, Hid (RepR wx r own1 (N + p.bulk) bs vo vd1 vm1 { s with opens := s.opens.set (n + 1) (St.takeOff p s.defs).1, defs := (St.takeOff p s.defs).2 }) ∧ Hid (Step w own wx own1))
  case first =>
    cases hq : p.isPara
    · go_wp2
      go_meet
      rw [takeOff_not hq]
      refine ⟨own, vd, vm, ?_, (Step.refl w own).1.drewN m, (Step.refl w own).2⟩
      have he : ({ s with opens := s.opens.set (n + 1) p, defs := s.defs } : St) = s := by
        have : s.opens.set (n + 1) p = s.opens := by
          obtain ⟨hlt, q⟩ := List.getElem?_eq_some_iff.1 hp
          rw [← q]
          exact List.set_getElem_self hlt
        rw [this]
      show RepR _ _ _ _ _ _ _ _ _
      rw [he]
      exact (HR.out.drewN m).more (Nat.le_add_right _ _)
    · obtain ⟨x, k, rfl⟩ : ∃ x k, p = .para x k := by cases p <;> first | exact ⟨_, _, rfl⟩ | cases hq
      simp only [ifP, if_true]
      obtain ⟨hbo, vp, hv1, hv2⟩ := hbp
      have hrf : (fun g => own g = 1 ∧ vo.ownBlock ≠ some g) r := ⟨HR.out.rown, fun e => by
        obtain ⟨cu, q⟩ := row_block HR.out.opens e
        rw [HR.out.rd] at q
        cases q⟩
      have HT : Hid (∀ m, Calls Tryz.prog 57 #[dptr r, ptrV b] (w.drewN m) fun e w' => e = .returned (.tuple #[]) ∧ ∃ own1 vd1 vm1, RepR w' r own1 (N + (Part.para x k).bulk) bs vo vd1 vm1 { s with opens := s.opens.set (n + 1) (St.takeOff (.para x k) s.defs).1, defs := (St.takeOff (.para x k) s.defs).2 } ∧ Step w own w' own1) := by
        intro m
        have hm := HR.out.drewN m
        refine (btakeOff_any (w := w.drewN m) (O := fun g => own g = 1 ∧ vo.ownBlock ≠ some g) ⟨vd, vm, hm.rd, hm.defs.fine hm.opens (by decide)⟩ hrf (A := fun g => own g = 2 * (n + 1) + 2) (v := vp) hv1 ⟨hv2.1, hv2.2⟩ (fun q => by have := q.1; have e : own b = 2 * (n + 1) + 2 := hbo; omega) hN hd).mono ?_
        rintro e w' ⟨rfl, q1, ⟨v', q2, q3, q4⟩, q5⟩
        refine ⟨rfl, ?_⟩
        obtain ⟨own1, vd1, vm1, y1, y2⟩ := off_rep hm hp hb q1 q2 q3 q4 q5
        exact ⟨own1, vd1, vm1, y1, Step.trans (b := w.drewN m) (p := own) ⟨(Fr.refl _ w).drewN m, fun _ _ q => q⟩ y2⟩
      clear HI ta hv1 hv2 h HR hrf
      go_wp2_with (go_at_call 57; refine (HT.out _).mono ?_; rintro e u ⟨rfl, own1, vd1, vm1, y1, y2⟩; have HY1 := (show Hid _ from y1); have HY2 := (show Hid _ from y2); clear y1 y2)
      go_meet
      exact ⟨own1, vd1, vm1, HY1.out, HY2.out⟩
  case rest =>
    obtain ⟨own1, vd1, vm1, h1, hst⟩ := hcut
    clear HI ta HR h hbp
    generalize wc = V at *
    generalize hs1 : ({ s with opens := s.opens.set (n + 1) (St.takeOff p s.defs).1, defs := (St.takeOff p s.defs).2 } : St) = s1 at *
    have hl1 : s1.opens.length = n + 2 := by rw [← hs1]; show (s.opens.set _ _).length = _; rw [List.length_set, hn]
    have ho1 : s1.on = s.on := by rw [← hs1]
    obtain ⟨g, cc, cu, hv, hg, hcap⟩ : ∃ g cc cu, vo = .slice (some ⟨g, 0, none⟩) (n + 2) cc ∧ V.heap[g]? = some (.cells cu 66 (0, 0)) ∧ n + 2 ≤ cc := by
      rcases h1.out.opens.2 with ⟨_, q⟩ | ⟨g, cap, cur, rfl, _, hg, hn', _⟩
      · omega
      · exact ⟨g, cap, cur, by rw [hl1], hg, by omega⟩
    subst hv
    have c0 := cell_blk h1.out.rd (i := 0) rfl
    have c1 := cell_blk h1.out.rd (i := 1) rfl
    have f0 := free_blk h1.out.rd 0
    have f1 := free_blk h1.out.rd 1
    simp only [List.getElem_toArray, List.getElem_cons_zero, List.getElem_cons_succ, ho1] at c0 c1
    have i2 : ((n + 2 : Nat) : Int) - 1 = ((n + 1 : Nat) : Int) := by omega
    have i3 : ((n + 1 : Nat) : Int) ≤ (cc : Int) := by omega
    have hmn : min (s.on : Int) ((n + 1 : Nat) : Int) = ((min s.on (n + 1) : Nat) : Int) := by omega
    generalize hn2 : n + 2 = n2 at *
    generalize hn1 : n + 1 = n1 at *
    go_wp2
    go_region
    all_goals go_wp2
    all_goals go_region
    have hr2 : ((V.setCell ⟨r, 0, none⟩ (.slice (some ⟨g, 0, none⟩) n1 cc)).setCell ⟨r, 1, none⟩ (.int .i64 ((min s.on n1 : Nat) : Int))).drew.drew.heap[r]? = some (.cells (rdCs (.slice (some ⟨g, 0, none⟩) n1 cc) vd1 vm1 (min s.on n1)) 58 (0, 0)) := set_blk (set_blk h1.out.rd 0 _) 1 _
    have hoth : ∀ i, i ≠ r → ((V.setCell ⟨r, 0, none⟩ (.slice (some ⟨g, 0, none⟩) n1 cc)).setCell ⟨r, 1, none⟩ (.int .i64 ((min s.on n1 : Nat) : Int))).drew.drew.heap[i]? = V.heap[i]? := fun i hi => (Below.heap_setCell _ _ _ _ (by simpa using hi)).trans (Below.heap_setCell _ _ _ _ (by simpa using hi))
    have hfr : Fr (fun g => own1 g ≠ 0) V ((V.setCell ⟨r, 0, none⟩ (.slice (some ⟨g, 0, none⟩) n1 cc)).setCell ⟨r, 1, none⟩ (.int .i64 ((min s.on n1 : Nat) : Int))).drew.drew := ((((Fr.refl _ V).set (by show own1 r ≠ 0; rw [h1.out.rown]; decide) 0 _).set (by show own1 r ≠ 0; rw [h1.out.rown]; decide) 1 _).drewN 1).drewN 1
    generalize ((V.setCell ⟨r, 0, none⟩ (.slice (some ⟨g, 0, none⟩) n1 cc)).setCell ⟨r, 1, none⟩ (.int .i64 ((min s.on n1 : Nat) : Int))).drew.drew = V2 at *
    have h2 := drop_rep h1.out n1 (min s.on n1) hl1 (by omega) hr2 hoth
    have hp1 : s1.opens[n1]? = some (St.takeOff p s.defs).1 := by
      rw [← hs1]
      show (s.opens.set n1 _)[n1]? = _
      exact List.getElem?_set_self (by omega)
    have hc1 : s1.opens[n]? = some c := by
      rw [← hs1]
      show (s.opens.set n1 _)[n]? = _
      rw [List.getElem?_set_ne (by omega)]
      exact hc
    have hd1 : s1.defs = (St.takeOff p s.defs).2 := by rw [← hs1]
    have hop1 : s1.opens = s.opens.set n1 (St.takeOff p s.defs).1 := by rw [← hs1]
    obtain ⟨hbo, vp, hv1, hv2⟩ := h1.out.part n1 b _ hb hp1
    have hbr : ∀ i, own1 i = 2 * n1 + 2 ∨ own1 i = 2 * n1 + 3 → i ≠ r := fun i hi e => by rw [e, h1.out.rown] at hi; omega
    have hPV : PartV V2 (fun i => i < V2.heap.size ∧ own1 i = 2 * n1 + 2) (fun i => i < V2.heap.size ∧ own1 i = 2 * n1 + 3) b (St.takeOff p s.defs).1 vp := by
      have q : PartV V (fun i => own1 i = 2 * n1 + 2) (fun i => own1 i = 2 * n1 + 3) b (St.takeOff p s.defs).1 vp := ⟨hv1, hv2⟩
      have q2 := q.keeps (w' := V2) hbo (fun i _ hi => hoth i (hbr i hi))
      exact ⟨q2.1, partV_lt q2.2⟩
    have hbV2 : b < V2.heap.size := lt_of_block hPV.1
    have hc2 : (s1.opens.take n1)[n]? = some c := by rw [List.getElem?_take_of_lt (by omega)]; exact hc1
    obtain ⟨bc, hbc, hcp⟩ := h2.at hc2
    have hl2 : (s1.opens.take n1).length = n + 1 := by rw [List.length_take, hl1]; omega
    have HI2 : Hid (Calls Tryz.prog 23 #[ptrV r] V2 fun e w' => e = .returned (.iface (partP c) (ptrV bc)) ∧ ∃ m, w' = V2.drewN m) := binner_any h2 hl2 hc2 hbc (by omega)
    have tc := fun w => as_cont1 c hC bc w
    have mh := fun w => mth_hold c hC bc w
    have ch := fun args w => cf_hold c args w
    have HHo : Hid (∀ m, Calls Tryz.prog (holdF c) #[ptrV bc, partI (St.takeOff p s.defs).1 b] (V2.drewN m) fun e w' => e = .returned (.tuple #[]) ∧ ∃ own', Rep w' r own' (N + p.bulk) { opens := ((s.opens.set n1 (St.takeOff p s.defs).1).take n1).set n (c.hold (St.takeOff p s.defs).1), on := min s.on n1, defs := (St.takeOff p s.defs).2 } ∧ Step w own w' own') := by
      intro m
      have hm := h2.drewN m
      obtain ⟨z1, vz, z2, z3⟩ := hm.part n bc c hbc hc2
      have hz : PartR (V2.drewN m) (fun i => i < V2.heap.size ∧ own1 i = 2 * n + 2) (fun i => i < V2.heap.size ∧ own1 i = 2 * n + 3) bc c := ⟨⟨lt_of_block (w := V2) z2, z1⟩, vz, z2, partV_lt z3⟩
      refine (bholdC_any (w := V2.drewN m) hC (fun q => by rw [takeOff_item]; exact hL q) hz (PartV.keeps (w' := V2.drewN m) hPV ⟨hbV2, hbo⟩ (fun _ _ _ => rfl)) ⟨hbV2, hbo⟩ hpo' hco (fun i q => by rcases q with q | q | q <;> (intro q'; have a1 := q.2; have a2 := q'.2; omega))).mono ?_
      rintro e w' ⟨rfl, hH⟩
      obtain ⟨own', y1, y2⟩ := held_rep (w := V2.drewN m) hm hl2 hc2 hbc (c' := c.hold (St.takeOff p s.defs).1) (hold_P _ _) (by rw [hold_C]; exact hC) (by subst hn1; exact hH)
      refine ⟨rfl, own', ?_, hst.out.trans (Step.trans (b := V2.drewN m) (p := own1) ⟨hfr.drewN m, fun _ _ q => q⟩ y2)⟩
      rw [← hop1, ← hd1]
      exact ⟨_, _, _, _, y1⟩
    simp only [partI, takeOff_P] at HHo
    simp only [partI] at tc
    have hle : partP (St.takeOff p s.defs).1 = partP p := takeOff_P _ _
    clear h1 h2 hPV hcp hv1 hv2 c0 c1 f0 f1 hr2 hoth hfr
    generalize partP c = TC at *
    generalize holdF c = KC at *
    go_wp2_with (go_at_call 23; refine HI2.out.mono ?_; rintro e u ⟨rfl, m, rfl⟩)
    refine (HHo.out _).mono ?_
    rintro e u ⟨rfl, hu⟩
    go_wp2
    go_end0
    rw [← hn1] at hu
    exact ⟨rfl, hu⟩

end Go.Proofs.YtcbojffcnlkejaaGreatDoor

/- Plain mathematics: what is open stands in one another as it may, and is not too much. -/
namespace Go.Proofs.YtcbojffcnlkejaaGreatDoor

theorem off_defs : ∀ (f : Nat) (t : Str) (d : List Df), (offF f t d).1.length + ((offF f t d).2.length - d.length) ≤ t.length ∧ d.length ≤ (offF f t d).2.length := by
  intro f
  induction f with
  | zero => intro t d; simp [offF]
  | succ f ih =>
    intro t d
    simp only [offF]
    split
    · simp
    · rename_i h0
      obtain ⟨h1, h2⟩ := ih (t.drop (lnk.defR t).2) (addD d (lnk.defR t).1)
      have h3 := addD_len d (lnk.defR t).1
      have h4 : d.length ≤ (addD d (lnk.defR t).1).length := by
        unfold addD
        split
        · exact Nat.le_refl _
        · simp
      have h5 := defR_len t
      rw [List.length_drop] at h1
      omega

/-- What a part weighs. -/
def Part.mass (p : Part) : Nat := 3 * p.bulk + (toldK p).len + 1
def massL : List Part → Nat
  | [] => 0
  | p :: r => p.mass + massL r
def St.mass (s : St) : Nat := massL s.opens + s.defs.length

def Part.indOk : Part → Prop
  | .indented b => b.first ≤ b.last ∧ b.last - b.first + 1 ≤ b.rows.length
  | .fenced _ _ k i _ => k ≤ 1152921504606846976 ∧ i ≤ 1152921504606846976
  | _ => True
def Part.isDoc : Part → Bool
  | .doc _ => true
  | _ => false

/-- What is open stands in one another as it may, and is not too much. -/
structure Wf (B N : Nat) (s : St) : Prop where
  doc : ∃ x, s.opens[0]? = some (.doc x)
  cont : ∀ (i : Nat) (p : Part), s.opens[i]? = some p → i + 1 < s.opens.length → p.isC = true
  list : ∀ (i : Nat) (p q : Part), s.opens[i]? = some p → s.opens[i + 1]? = some q → p.isList = true → q.isItem = true
  ext : ∀ (i : Nat) (p : Part), s.opens[i]? = some p → p.ext.1 ≤ B ∧ p.ext.2 ≤ B ∧ p.indOk
  mass : s.mass + N ≤ B
  on : s.on ≤ s.opens.length

theorem massL_append : ∀ a b : List Part, massL (a ++ b) = massL a + massL b
  | [], b => by simp [massL]
  | p :: a, b => by simp only [List.cons_append, massL, massL_append a b]; omega
theorem massL_at : ∀ (l : List Part) (i : Nat) (p : Part), l[i]? = some p → p.mass ≤ massL l
  | [], i, p, h => by simp at h
  | q :: l, 0, p, h => by simp at h; subst h; simp only [massL]; omega
  | q :: l, i + 1, p, h => by have := massL_at l i p (by simpa using h); simp only [massL]; omega
theorem massL_set : ∀ (l : List Part) (i : Nat) (p q : Part), l[i]? = some p → massL (l.set i q) + p.mass = massL l + q.mass
  | [], i, p, q, h => by simp at h
  | a :: l, 0, p, q, h => by simp at h; subst h; simp only [List.set_cons_zero, massL]; omega
  | a :: l, i + 1, p, q, h => by have := massL_set l i p q (by simpa using h); simp only [List.set_cons_succ, massL]; omega
theorem massL_take : ∀ (l : List Part) (n : Nat) (p : Part), l.length = n + 1 → l[n]? = some p → massL (l.take n) + p.mass = massL l
  | [], n, p, h, _ => by simp at h
  | a :: l, 0, p, h, hp => by
    have : l = [] := by cases l; rfl; simp at h
    subst this
    simp at hp
    subst hp
    simp [massL]
  | a :: l, n + 1, p, h, hp => by
    have := massL_take l n p (by simpa using h) (by simpa using hp)
    simp only [List.take_succ_cons, massL]
    omega
theorem massL_len : ∀ l : List Part, l.length ≤ massL l
  | [] => Nat.le_refl _
  | p :: l => by have := massL_len l; simp only [List.length_cons, massL, Part.mass]; omega

theorem Wf.okp {B N : Nat} {s : St} (h : Wf B N s) {i : Nat} {p : Part} (hp : s.opens[i]? = some p) : p.ok B := by
  have h1 := h.ext i p hp
  have h2 := massL_at _ _ _ hp
  have h3 := h.mass
  unfold Part.mass at h2
  unfold St.mass at h3
  refine ⟨h1.1, h1.2.1, by omega, by omega, ?_⟩
  have h4 := h1.2.2
  cases p <;> first | trivial | exact h4

theorem ok_le {B B' : Nat} (hB : B ≤ B') {p : Part} (h : p.ok B) : p.ok B' := ⟨by have := h.1; omega, by have := h.2.1; omega, by have := h.2.2.1; omega, by have := h.2.2.2.1; omega, h.2.2.2.2⟩

theorem offRows_bulk (l : List Str) (d : List Df) : bulkL (offRows l d) ≤ bulkL l := by
  unfold offRows
  split
  · exact Nat.zero_le _
  · rename_i h
    have h1 := (off_defs ((joinL l).length + 1) (joinL l) d).1
    have h2 := join_len l
    have h0 : 0 < (off (joinL l) d).1.length := List.length_pos_iff.2 h
    have h3 : (off (joinL l) d).1.length ≤ (joinL l).length := by show (offF _ _ _).1.length ≤ _; omega
    have h4 : bulkL [(off (joinL l) d).1] = (off (joinL l) d).1.length + 1 := rfl
    rw [h4]
    cases l with
    | nil => exact absurd h0 (by have : (joinL ([] : List Str)).length = 0 := rfl; omega)
    | cons a r =>
      have : (joinL (a :: r)).length + 1 ≤ bulkL (a :: r) := by
        clear h1 h2 h0 h3 h4 h
        induction r generalizing a with
        | nil => simp [joinL, bulkL]
        | cons b r ih =>
          have := ih b
          show (a ++ 10 :: joinL (b :: r)).length + 1 ≤ a.length + 1 + bulkL (b :: r)
          simp only [List.length_append, List.length_cons]
          omega
      omega

theorem takeOff_mass (p : Part) (d : List Df) : (St.takeOff p d).1.bulk ≤ p.bulk ∧ (St.takeOff p d).2.length ≤ d.length + p.bulk ∧ (toldK (St.takeOff p d).1).len = (toldK p).len ∧ (St.takeOff p d).1.ext = p.ext ∧ ((St.takeOff p d).1.indOk ↔ p.indOk) := by
  cases p with
  | para b l =>
    refine ⟨offRows_bulk _ _, ?_, rfl, rfl, Iff.rfl⟩
    have h1 := (off_defs ((joinL b.rows).length + 1) (joinL b.rows) d)
    have h2 := join_len b.rows
    show (offF _ _ _).2.length ≤ d.length + bulkL b.rows
    omega
  | _ => exact ⟨Nat.le_refl _, Nat.le_add_right _ _, rfl, rfl, Iff.rfl⟩

theorem hold_kids (c p : Part) (hC : c.isC = true) : (toldK (c.hold p)).len ≤ (toldK c).len + 1 ∧ (c.hold p).bulk = c.bulk ∧ (c.hold p).ext.1 = c.ext.1 ∧ (c.hold p).ext.2 = max c.ext.2 p.ext.2 ∧ (c.hold p).indOk := by
  have key : ∀ x : Box, (x.hold p).kids.len ≤ x.kids.len + 1 := by
    intro x
    unfold Box.hold
    rw [told_eq p]
    cases toldO p
    · exact Nat.le_add_right _ _
    · exact Nat.le_of_eq (Bs.len_snoc _ _ _)
  cases c with
  | doc x => exact ⟨key x, rfl, rfl, rfl, trivial⟩
  | quote x => exact ⟨key x, rfl, rfl, rfl, trivial⟩
  | list x m => exact ⟨key x, rfl, rfl, rfl, trivial⟩
  | item x n => exact ⟨key x, rfl, rfl, rfl, trivial⟩
  | _ => cases hC

theorem close_wf {B N : Nat} {s : St} (h : Wf B N s) {n : Nat} {p c : Part} (hn : s.opens.length = n + 2) (hp : s.opens[n + 1]? = some p) (hc : s.opens[n]? = some c) : Wf B (N + p.bulk) s.close ∧ s.close.opens.length = n + 1 ∧ s.close.on = min s.on (n + 1) := by
  have hC : c.isC = true := h.cont n c hc (by omega)
  obtain ⟨t1, t2, t3, t4, t5⟩ := takeOff_mass p s.defs
  obtain ⟨k1, k2, k3, k4, k5⟩ := hold_kids c (St.takeOff p s.defs).1 hC
  have e := close_eq hn hp hc
  have hop : s.close.opens = ((s.opens.set (n + 1) (St.takeOff p s.defs).1).take (n + 1)).set n (c.hold (St.takeOff p s.defs).1) := by rw [e]
  have htk : (s.opens.set (n + 1) (St.takeOff p s.defs).1).take (n + 1) = s.opens.take (n + 1) := by
    rw [List.take_set_of_le (by omega)]
  rw [htk] at hop
  have hlen : s.close.opens.length = n + 1 := by rw [hop, List.length_set, List.length_take, hn]; omega
  have hat : ∀ i q, s.close.opens[i]? = some q → (i = n ∧ q = c.hold (St.takeOff p s.defs).1) ∨ (i < n ∧ s.opens[i]? = some q) := by
    intro i q hq
    have hi : i < n + 1 := by have := (List.getElem?_eq_some_iff.1 hq).1; omega
    rw [hop] at hq
    by_cases hin : i = n
    · subst hin
      rw [List.getElem?_set_self (by rw [List.length_take, hn]; omega)] at hq
      exact .inl ⟨rfl, (Option.some.inj hq).symm⟩
    · rw [List.getElem?_set_ne (Ne.symm hin), List.getElem?_take_of_lt hi] at hq
      exact .inr ⟨by omega, hq⟩
  have hm := h.mass
  refine ⟨⟨?_, ?_, ?_, ?_, ?_, ?_⟩, hlen, by rw [e]⟩
  · obtain ⟨x, hx⟩ := h.doc
    by_cases h0 : n = 0
    · subst h0
      rw [hc] at hx
      cases hx
      refine ⟨x.hold (St.takeOff p s.defs).1, ?_⟩
      rw [hop]
      exact List.getElem?_set_self (by rw [List.length_take, hn]; omega)
    · refine ⟨x, ?_⟩
      rw [hop, List.getElem?_set_ne h0, List.getElem?_take_of_lt (by omega)]
      exact hx
  · intro i q hq hi
    rcases hat i q hq with ⟨rfl, rfl⟩ | ⟨h1, h2⟩
    · omega
    · exact h.cont i q h2 (by omega)
  · intro i a b ha hb hl
    rcases hat (i + 1) b hb with ⟨h1, rfl⟩ | ⟨h1, h2⟩
    · rcases hat i a ha with ⟨h3, _⟩ | ⟨h3, h4⟩
      · omega
      · have h5 : s.opens[i + 1]? = some c := by rw [h1]; exact hc
        have := h.list i a c h4 h5 hl
        cases c <;> first | rfl | cases this
    · rcases hat i a ha with ⟨h3, _⟩ | ⟨h3, h4⟩
      · omega
      · exact h.list i a b h4 h2 hl
  · intro i q hq
    rcases hat i q hq with ⟨rfl, rfl⟩ | ⟨h1, h2⟩
    · have a := h.ext _ _ hc
      have b := h.ext _ _ hp
      rw [k3, k4, t4]
      exact ⟨a.1, by omega, k5⟩
    · exact h.ext i q h2
  · have m1 := massL_take s.opens (n + 1) p (by omega) hp
    have m2 := massL_set (s.opens.take (n + 1)) n c (c.hold (St.takeOff p s.defs).1) (by rw [List.getElem?_take_of_lt (by omega)]; exact hc)
    have hd : s.close.defs = (St.takeOff p s.defs).2 := by rw [e]
    unfold St.mass at hm ⊢
    rw [hop, hd]
    unfold Part.mass at m1 m2
    rw [k2] at m2
    omega
  · rw [hlen, e]
    show min s.on (n + 1) ≤ n + 1
    omega

end Go.Proofs.YtcbojffcnlkejaaGreatDoor

/- All that is left is closed. -/
namespace Go.Proofs.YtcbojffcnlkejaaGreatDoor
open Go.RowKit
open cur (cell_blk free_blk set_blk blk_below)

/-- The reader in memory, in order. -/
def Good (w : World) (r : Nat) (own : Nat → Nat) (B : Nat) (s : St) : Prop := ∃ N, Rep w r own N s ∧ Wf B N s
/-- What a call leaves. -/
def Left (w : World) (r : Nat) (own : Nat → Nat) (B : Nat) (s' : St) (w' : World) : Prop := ∃ own', Good w' r own' B s' ∧ Step w own w' own'

theorem Good.keeps {w w' : World} {r : Nat} {own : Nat → Nat} {B : Nat} {s : St} (h : Good w r own B s) (hk : ∀ g, g < w.heap.size → own g ≠ 0 → w'.heap[g]? = w.heap[g]?) : Good w' r own B s := by
  obtain ⟨N, h1, h2⟩ := h
  exact ⟨N, h1.keeps hk, h2⟩
theorem Good.drewN {w : World} {r : Nat} {own : Nat → Nat} {B : Nat} {s : St} (h : Good w r own B s) (n : Nat) : Good (w.drewN n) r own B s := h.keeps fun _ _ _ => rfl
theorem Good.below {w w' : World} {r : Nat} {own : Nat → Nat} {B : Nat} {s : St} (h : Good w r own B s) (hb : Below w.heap.size w w') : Good w' r own B s := h.keeps fun g hg _ => hb.block g hg
theorem Left.same {w : World} {r : Nat} {own : Nat → Nat} {B : Nat} {s : St} (h : Good w r own B s) (n : Nat) : Left w r own B s (w.drewN n) := ⟨own, h.drewN n, (Fr.refl _ w).drewN n, fun _ _ q => q⟩
theorem Left.trans {w a : World} {r : Nat} {own own' : Nat → Nat} {B : Nat} {s : St} (h : Step w own a own') {b : World} (k : Left a r own' B s b) : Left w r own B s b := by
  obtain ⟨o, k1, k2⟩ := k
  exact ⟨o, k1, h.trans k2⟩

theorem Wf.len {B N : Nat} {s : St} (h : Wf B N s) : s.opens.length ≤ B ∧ s.defs.length ≤ B := by
  have h1 := h.mass
  have h2 := massL_len s.opens
  unfold St.mass at h1
  omega

/-- What is innermost is closed. -/
theorem bclose_good {w : World} {r : Nat} {own : Nat → Nat} {B : Nat} {s : St} (h : Good w r own B s) (hB : B ≤ 549755813888) (hn : 2 ≤ s.opens.length) :
    Calls Tryz.prog 30 #[ptrV r] w fun e w' => e = .returned (.tuple #[]) ∧ Left w r own B s.close w' := by
  obtain ⟨N, h1, h2⟩ := h
  obtain ⟨n, hn⟩ : ∃ n, s.opens.length = n + 2 := ⟨s.opens.length - 2, by omega⟩
  obtain ⟨p, hp⟩ : ∃ p, s.opens[n + 1]? = some p := ⟨_, List.getElem?_eq_getElem (by omega)⟩
  obtain ⟨c, hc⟩ : ∃ c, s.opens[n]? = some c := ⟨_, List.getElem?_eq_getElem (by omega)⟩
  have hl := h2.len
  have hpk := ok_le (by omega : B ≤ 1099511627776) (h2.okp hp)
  obtain ⟨t1, t2, t3, t4, t5⟩ := takeOff_mass p s.defs
  have hpk' : (St.takeOff p s.defs).1.ok 1099511627776 := by
    refine ⟨by rw [t4]; exact hpk.1, by rw [t4]; exact hpk.2.1, by have := hpk.2.2.1; omega, by rw [t3]; exact hpk.2.2.2.1, ?_⟩
    cases p <;> first | trivial | exact hpk.2.2.2.2
  have hbk : p.bulk ≤ B := (h2.okp hp).2.2.1
  have hm := h2.mass
  have hmp := massL_at _ _ _ hp
  unfold St.mass at hm
  unfold Part.mass at hmp
  have hon := h2.on
  refine (bclose_any h1 hn hp hc (h2.cont n c hc (by omega)) (fun q => h2.list n c p hc hp q) hpk hpk' (ok_le (by omega) (h2.okp hc)) (by omega) (by omega) (by omega) (by omega)).mono ?_
  rintro e w' ⟨rfl, own', q1, q2⟩
  exact ⟨rfl, own', ⟨_, q1, (close_wf h2 hn hp hc).1⟩, q2⟩

theorem close_len {B : Nat} {w : World} {r : Nat} {own : Nat → Nat} {s : St} (h : Good w r own B s) (hn : 2 ≤ s.opens.length) : s.close.opens.length = s.opens.length - 1 ∧ s.close.on = min s.on (s.opens.length - 1) := by
  obtain ⟨N, h1, h2⟩ := h
  obtain ⟨n, hn⟩ : ∃ n, s.opens.length = n + 2 := ⟨s.opens.length - 2, by omega⟩
  obtain ⟨p, hp⟩ : ∃ p, s.opens[n + 1]? = some p := ⟨_, List.getElem?_eq_getElem (by omega)⟩
  obtain ⟨c, hc⟩ : ∃ c, s.opens[n]? = some c := ⟨_, List.getElem?_eq_getElem (by omega)⟩
  obtain ⟨_, q1, q2⟩ := close_wf h2 hn hp hc
  rw [q1, q2, hn]
  exact ⟨rfl, rfl⟩

theorem leave_next {s : St} (h : s.on < s.opens.length) (hl : s.close.opens.length = s.opens.length - 1) : s.leave = s.close.leave := by
  unfold St.leave
  rw [hl]
  obtain ⟨k, hk⟩ : ∃ k, s.opens.length = k + 1 := ⟨s.opens.length - 1, by omega⟩
  rw [hk]
  simp only [St.leaveF]
  rw [if_pos (by omega)]
  rfl
theorem leave_stop {s : St} (h : ¬ s.on < s.opens.length) : s.leave = s := by
  unfold St.leave
  cases hk : s.opens.length with
  | zero => rfl
  | succ k => simp only [St.leaveF]; rw [if_neg (by omega)]

/-- How many are open, as it lies in memory. -/
def openLen (r : Nat) (w : World) : Nat := match w.cell? ⟨r, 0, none⟩ with
  | some (.slice _ n _) => n
  | _ => 0
theorem openLen_is {w : World} {r : Nat} {own : Nat → Nat} {N : Nat} {bs : List Nat} {vo vd vm : Value} {s : St} (h : RepR w r own N bs vo vd vm s) : openLen r w = s.opens.length := by
  obtain ⟨a, c, rfl, _⟩ := h.row
  have c0 := cell_blk h.rd (i := 0) rfl
  simp only [List.getElem_toArray, List.getElem_cons_zero] at c0
  unfold openLen
  rw [c0]

set_option maxHeartbeats 2000000 in
theorem bleave_any {w : World} {r : Nat} {own : Nat → Nat} {B : Nat} {s : St} (h : Good w r own B s) (hB : B ≤ 549755813888) (hon : 1 ≤ s.on) :
    Calls Tryz.prog 22 #[ptrV r] w fun e w' => e = .returned (.tuple #[]) ∧ Left w r own B s.leave w' := by
  go_enter Tryz.func22, Tryz.ntmps22
  go_wp2
  go_loopw [] (fun wr => ∃ own1 s1, Hid (Good wr r own1 B s1) ∧ Hid (Step w own wr own1) ∧ Hid (s1.leave = s.leave) ∧ Hid (1 ≤ s1.on)) (fun wr => openLen r wr)
  case atStart => exact ⟨own, s, h, Step.refl _ _, rfl, hon⟩
  case round =>
    obtain ⟨own1, s1, HG, HS, HL, HO⟩ := hrel
    obtain ⟨N, ⟨bs, vo, vd, vm, hR⟩, hW⟩ := HG.out
    obtain ⟨a, c, rfl, hc⟩ := hR.row
    have c0 := cell_blk hR.rd (i := 0) rfl
    have c1 := cell_blk hR.rd (i := 1) rfl
    simp only [List.getElem_toArray, List.getElem_cons_zero, List.getElem_cons_succ] at c0 c1
    by_cases hlt : s1.on < s1.opens.length
    · have hlt' : (s1.on : Int) < (s1.opens.length : Int) := by omega
      have h2 : 2 ≤ s1.opens.length := by have := HO.out; omega
      have HC : Hid (∀ m, Calls Tryz.prog 30 #[ptrV r] (wr.drewN m) fun e w' => e = .returned (.tuple #[]) ∧ Left (wr.drewN m) r own1 B s1.close w') := fun m => bclose_good (HG.out.drewN m) hB h2
      have hcl := close_len HG.out h2
      have HLN := (show Hid _ from leave_next hlt hcl.1)
      have HCL := (show Hid _ from hcl)
      have HOL := (show Hid _ from openLen_is hR)
      clear hR hcl hlt hW
      go_wp2
      go_quiet (fail)
      go_wp2_with (go_at_call 30; refine (HC.out _).mono ?_; rintro e u ⟨rfl, hu⟩)
      obtain ⟨own2, g2, st2⟩ := hu
      go_roundw
      case rel => exact ⟨own2, s1.close, g2, HS.out.trans (Step.trans (b := wr.drewN nq) (p := own1) ⟨(Fr.refl _ wr).drewN nq, fun _ _ q => q⟩ st2), by show _ = _; rw [← HLN.out]; exact HL.out, by show 1 ≤ _; rw [HCL.out.2]; have := HO.out; omega⟩
      case measure =>
        obtain ⟨N2, ⟨bs2, vo2, vd2, vm2, hR2⟩, _⟩ := g2
        rw [openLen_is hR2, HOL.out, HCL.out.1]
        omega
    · have hlt' : ¬ (s1.on : Int) < (s1.opens.length : Int) := by omega
      have HST := (show Hid _ from leave_stop hlt)
      clear hR hlt hW
      go_wp2
      go_quiet (fail)
      go_wp2
      go_end0
      refine ⟨rfl, ?_⟩
      rw [← HL.out, HST.out]
      exact Left.trans HS.out (Left.same HG.out _)

end Go.Proofs.YtcbojffcnlkejaaGreatDoor

/- What is left, and an open paragraph, are closed. -/
namespace Go.Proofs.YtcbojffcnlkejaaGreatDoor
open Go.RowKit
open cur (cell_blk free_blk set_blk blk_below)

theorem Wf.last {B N : Nat} {s : St} (h : Wf B N s) : ∃ n p, s.opens.length = n + 1 ∧ s.opens[n]? = some p ∧ s.opens.getLast? = some p := by
  obtain ⟨x, hx⟩ := h.doc
  have h0 := (List.getElem?_eq_some_iff.1 hx).1
  obtain ⟨n, hn⟩ : ∃ n, s.opens.length = n + 1 := ⟨s.opens.length - 1, by omega⟩
  obtain ⟨p, hp⟩ : ∃ p, s.opens[n]? = some p := ⟨_, List.getElem?_eq_getElem (by omega)⟩
  refine ⟨n, p, hn, hp, ?_⟩
  rw [List.getLast?_eq_getElem?, hn]
  exact hp
/-- What is innermost and is not the document stands in something. -/
theorem Wf.two {B N : Nat} {s : St} (h : Wf B N s) {p : Part} (hp : s.opens.getLast? = some p) (hd : p.isDoc = false) : 2 ≤ s.opens.length := by
  obtain ⟨x, hx⟩ := h.doc
  have h0 := (List.getElem?_eq_some_iff.1 hx).1
  rcases Nat.lt_or_ge 1 s.opens.length with q | q
  · exact q
  · have e : s.opens.length = 1 := by omega
    rw [List.getLast?_eq_getElem?, e] at hp
    rw [show (1 : Nat) - 1 = 0 from rfl, hx] at hp
    cases hp
    cases hd

theorem bhasPara_good {w : World} {r : Nat} {own : Nat → Nat} {B : Nat} {s : St} (h : Good w r own B s) (hB : B ≤ 549755813888) :
    Calls Tryz.prog 46 #[ptrV r] w fun e w' => e = .returned (.bool s.hasPara) ∧ ∃ m, w' = w.drewN m := by
  obtain ⟨N, ⟨bs, vo, vd, vm, hR⟩, hW⟩ := h
  obtain ⟨n, p, hn, hp, hl⟩ := hW.last
  obtain ⟨b, hb, _⟩ := hR.at hp
  have := hW.len
  have e : s.hasPara = p.isPara := by unfold St.hasPara; rw [hl]
  rw [e]
  exact bhasPara_any hR hn hp hb (by omega)

theorem para_two {B N : Nat} {s : St} (h : Wf B N s) (hp : s.hasPara = true) : 2 ≤ s.opens.length := by
  obtain ⟨n, p, _, _, hl⟩ := h.last
  unfold St.hasPara at hp
  rw [hl] at hp
  refine h.two hl ?_
  cases p <;> first | rfl | cases hp

set_option maxHeartbeats 2000000 in
theorem bclear_any {w : World} {r : Nat} {own : Nat → Nat} {B : Nat} {s : St} (h : Good w r own B s) (hB : B ≤ 549755813888) (hon : 1 ≤ s.on) :
    Calls Tryz.prog 55 #[ptrV r] w fun e w' => e = .returned (.tuple #[]) ∧ Left w r own B s.clear w' := by
  have HL : Hid (Calls Tryz.prog 22 #[ptrV r] w fun e w' => e = .returned (.tuple #[]) ∧ Left w r own B s.leave w') := bleave_any h hB hon
  clear h
  unfold St.clear
  cases hp : s.leave.hasPara
  · go_enter Tryz.func55, Tryz.ntmps55
    go_wp2_with (first
      | (go_at_call 22; refine HL.out.mono ?_; rintro e u ⟨rfl, own1, g1, st1⟩; have HP := (show Hid (Calls Tryz.prog 46 #[ptrV r] u fun e w' => e = .returned (.bool s.leave.hasPara) ∧ ∃ m, w' = u.drewN m) from bhasPara_good g1 hB); rw [hp] at HP; have HG1 : Hid (Good u r own1 B s.leave) := g1; have HS1 : Hid (Step w own u own1) := st1; clear g1 st1)
      | (go_at_call 46; refine HP.out.mono ?_; rintro e u2 ⟨rfl, m, rfl⟩))
    go_end0
    refine ⟨rfl, ?_⟩
    exact Left.trans HS1.out (Left.same HG1.out m)
  · go_enter Tryz.func55, Tryz.ntmps55
    go_wp2_with (first
      | (go_at_call 22; refine HL.out.mono ?_; rintro e u ⟨rfl, own1, g1, st1⟩; have HP := (show Hid (Calls Tryz.prog 46 #[ptrV r] u fun e w' => e = .returned (.bool s.leave.hasPara) ∧ ∃ m, w' = u.drewN m) from bhasPara_good g1 hB); rw [hp] at HP; have HG1 : Hid (Good u r own1 B s.leave) := g1; have HS1 : Hid (Step w own u own1) := st1; clear g1 st1)
      | (go_at_call 46; refine HP.out.mono ?_; rintro e u2 ⟨rfl, m, rfl⟩)
      | (go_at_call 30; refine (bclose_good (Good.drewN HG1.out m) hB (by obtain ⟨N, _, q⟩ := HG1.out; exact para_two q hp)).mono ?_; rintro e u3 ⟨rfl, hu3⟩))
    go_end0
    refine ⟨rfl, ?_⟩
    exact Left.trans (HS1.out.trans ⟨(Fr.refl _ u).drewN m, fun _ _ q => q⟩) hu3

end Go.Proofs.YtcbojffcnlkejaaGreatDoor

/- One more is open. -/
namespace Go.Proofs.YtcbojffcnlkejaaGreatDoor
open Go.RowKit
open cur (cell_blk free_blk set_blk blk_below)

theorem infoP : (Tryz.prog.info? 66).map (fun i => (i.zero, i.size, i.bytes)) = some (some .nilIface, 1, 16) := by kernel_rfl

open Classical in
/-- Whose blocks are when one more is open, at place n: what was A's is its own, what was S's is in its kids. -/
noncomputable def ownPush (own : Nat → Nat) (w : World) (A S : Nat → Prop) (n : Nat) (v' : Value) (g : Nat) : Nat :=
  if g < w.heap.size then (if own g ≠ 0 then own g else if A g then 2 * n + 2 else if S g then 2 * n + 3 else 0) else if v'.ownBlock = some g then 1 else 0

/-- A part that is nobody's yet. -/
def Fresh (w : World) (own : Nat → Nat) (A S : Nat → Prop) (b : Nat) (p : Part) : Prop := PartR w A S b p ∧ (∀ g, A g → own g = 0 ∧ ¬ S g) ∧ (∀ g, S g → own g = 0) ∧ ∀ g, A g ∨ S g → g < w.heap.size

theorem DefsV.keeps2 {w w' : World} {O O' : Nat → Prop} {vd vm : Value} {d : List Df} {N : Nat} (h : DefsV w O vd vm d N) (hO : ∀ g, O g → O' g) {r : Nat} {cs : Array Value} (hk : ∀ g, g < w.heap.size → O g → g ≠ r → w'.heap[g]? = w.heap[g]?) (hr : w.heap[r]? = some (.cells cs 58 (0, 0))) : DefsV w' O' vd vm d N := by
  obtain ⟨h1, h2, h3⟩ := h
  refine ⟨row_keeps h1 (fun g hg => hk g (World.ownsRow.lt h1 g hg).2 (h2 g hg) ?_), fun g hg => hO g (h2 g hg), ?_⟩
  · intro e
    obtain ⟨cu, q⟩ := row_block h1 hg
    rw [e, hr] at q
    cases q
  · rcases h3 with h3 | ⟨m, n, cnt, a1, a2, a3, a4⟩
    · exact .inl h3
    · exact .inr ⟨m, n, cnt, a1, hO m a2, map_keeps a3 (hk m (map_lt a3) a2 (map_ne a3 hr)), a4⟩

theorem push_rep {w w' : World} {r : Nat} {own : Nat → Nat} {N : Nat} {bs : List Nat} {vo vd vm : Value} {s : St} (h : RepR w r own N bs vo vd vm s) {A S : Nat → Prop} {b : Nat} {p : Part} (hf : Fresh w own A S b p) {v' : Value} {n : Nat} (hn : s.opens.length = n)
    (hr : w'.heap[r]? = some (.cells (rdCs v' vd vm (n + 1)) 58 (0, 0))) (ho : w'.ownsRow 0 66 1 v' (n + 1) (List.zipWith partI s.opens bs ++ [partI p b])) (hv : ∀ g, v'.ownBlock = some g → vo.ownBlock = some g ∨ w.heap.size ≤ g) (hF : Fr (fun g => g = r ∨ vo.ownBlock = some g) w w') :
    RepR w' r (ownPush own w A S n v') N (bs ++ [b]) v' vd vm (s.push p) ∧ (∀ g, g < w.heap.size → own g ≠ 0 → ownPush own w A S n v' g = own g) ∧ (∀ g, g < w.heap.size → ¬ A g → ¬ S g → ownPush own w A S n v' g = own g) := by
  obtain ⟨⟨pA, vp, p1, p2⟩, fA, fS, _⟩ := hf
  have hbn : bs.length = n := by rw [h.len, hn]
  have old : ∀ g, g < w.heap.size → own g ≠ 0 → ownPush own w A S n v' g = own g := fun g hg h0 => by
    unfold ownPush
    rw [if_pos hg, if_pos h0]
  have notX : ∀ g, own g ≠ 1 → ¬ (g = r ∨ vo.ownBlock = some g) := fun g h1 q => by
    rcases q with q | q
    · rw [q] at h1; exact h1 h.rown
    · exact h1 (h.oown g q)
  refine ⟨⟨?_, ?_, ?_, ?_, ?_, ?_, ?_⟩, old, ?_⟩
  · show w'.heap[r]? = some (.cells (rdCs v' vd vm (s.opens.length + 1)) _ _)
    rw [hn]; exact hr
  · rw [old r (lt_of_block h.rd) (by rw [h.rown]; decide)]; exact h.rown
  · show w'.ownsRow 0 _ 1 v' (s.opens ++ [p]).length (List.zipWith partI (s.opens ++ [p]) (bs ++ [b]))
    rw [List.length_append, hn, List.zipWith_append (by rw [hn, hbn])]
    exact ho
  · intro g hg
    rcases Nat.lt_or_ge g w.heap.size with q | q
    · have h1 : own g = 1 := by
        rcases hv g hg with x | x
        · exact h.oown g x
        · omega
      rw [old g q (by omega)]; exact h1
    · unfold ownPush
      rw [if_neg (by omega), if_pos hg]
  · have dm := DefsV.mono (O' := fun g => g < w.heap.size ∧ own g = 1) h.defs (fun g hg q => ⟨hg, q⟩) (Nat.le_refl _)
    have df := dm.fine h.opens (by decide)
    have dr := df
    refine df.keeps2 (fun g q => by show ownPush own w A S n v' g = 1; rw [old g q.1.1 (by rw [q.1.2]; decide)]; exact q.1.2) (fun g hg q hgr => hF.block g hg (by
      rintro (x | x)
      · exact hgr x
      · exact q.2 x)) h.rd
  · show (bs ++ [b]).length = (s.opens ++ [p]).length
    rw [List.length_append, List.length_append, h.len]; rfl
  · intro i b' p' hb' hp'
    have hp' : (s.opens ++ [p])[i]? = some p' := hp'
    rcases Nat.lt_or_ge i n with hi | hi
    · rw [List.getElem?_append_left (by omega)] at hb' hp'
      obtain ⟨z1, vz, z2, z3⟩ := h.part i b' p' hb' hp'
      have hz : PartR w (fun g => g < w.heap.size ∧ own g = 2 * i + 2) (fun g => g < w.heap.size ∧ own g = 2 * i + 3) b' p' := ⟨⟨lt_of_block z2, z1⟩, vz, z2, partV_lt z3⟩
      exact hz.keeps (fun g q => by show ownPush own w A S n v' g = _; rw [old g q.1 (by have := q.2; omega)]; exact q.2) (fun g q => by show ownPush own w A S n v' g = _; rw [old g q.1 (by have := q.2; omega)]; exact q.2) (fun g hg q => hF.block g hg (notX g (by have := q.2; omega))) (fun g hg q => hF.block g hg (notX g (by have := q.2; omega)))
    · have hin : i = n := by
        have := (List.getElem?_eq_some_iff.1 hp').1
        rw [List.length_append, hn] at this
        simp at this
        omega
      subst hin
      rw [List.getElem?_append_right (by omega), hn, Nat.sub_self] at hp'
      rw [List.getElem?_append_right (by omega), hbn, Nat.sub_self] at hb'
      cases hp'
      cases hb'
      have hz : PartR w (fun g => g < w.heap.size ∧ A g) (fun g => g < w.heap.size ∧ S g) b p := ⟨⟨lt_of_block p1, pA⟩, vp, p1, partV_lt p2⟩
      exact hz.keeps (fun g q => by
          show ownPush own w A S i v' g = _
          unfold ownPush
          rw [if_pos q.1, if_neg (by rw [(fA g q.2).1]; decide), if_pos q.2]) (fun g q => by
          show ownPush own w A S i v' g = _
          unfold ownPush
          rw [if_pos q.1, if_neg (by rw [fS g q.2]; decide), if_neg (fun a => (fA g a).2 q.2), if_pos q.2]) (fun g hg q => hF.block g hg (notX g (by rw [(fA g q.2).1]; decide))) (fun g hg q => hF.block g hg (notX g (by rw [fS g q.2]; decide)))
  · intro g hg hA hS
    unfold ownPush
    rw [if_pos hg]
    by_cases h0 : own g = 0
    · rw [if_neg (by rw [h0]; decide), if_neg hA, if_neg hS, h0]
    · rw [if_pos h0]

end Go.Proofs.YtcbojffcnlkejaaGreatDoor

/- One more is open: walked. -/
namespace Go.Proofs.YtcbojffcnlkejaaGreatDoor
open Go.RowKit
open cur (cell_blk free_blk set_blk blk_below)

/-- The same as Step, but that what was X's may have become the reader's. -/
def StepX (w : World) (own : Nat → Nat) (X : Nat → Prop) (w' : World) (own' : Nat → Nat) : Prop := Fr (fun g => own g ≠ 0) w w' ∧ ∀ g, g < w.heap.size → own g = 0 → ¬ X g → own' g = 0
def LeftX (w : World) (r : Nat) (own : Nat → Nat) (X : Nat → Prop) (B : Nat) (s' : St) (w' : World) : Prop := ∃ own', Good w' r own' B s' ∧ StepX w own X w' own'
theorem StepX.after {a b c : World} {o p q : Nat → Nat} {X : Nat → Prop} (h : Step a o b p) (k : StepX b p X c q) : StepX a o X c q :=
  ⟨h.1.trans' k.1 (fun i hi hp ho => hp (h.2 i hi ho)), fun g hg ho hx => k.2 g (Nat.lt_of_lt_of_le hg h.1.size) (h.2 g hg ho) hx⟩
theorem LeftX.after {a b c : World} {r : Nat} {o p : Nat → Nat} {X : Nat → Prop} {B : Nat} {s : St} (h : Step a o b p) (k : LeftX b r p X B s c) : LeftX a r o X B s c := by
  obtain ⟨q, k1, k2⟩ := k
  exact ⟨q, k1, StepX.after h k2⟩
/-- What was made since is nobody's that was there. -/
theorem LeftX.left {a b c : World} {r : Nat} {o : Nat → Nat} {X : Nat → Prop} {B : Nat} {s : St} (hb : Fr (fun g => o g ≠ 0) a b) (k : LeftX b r o X B s c) (hX : ∀ g, X g → a.heap.size ≤ g) : Left a r o B s c := by
  obtain ⟨q, k1, k2⟩ := k
  exact ⟨q, k1, hb.trans k2.1, fun g hg h0 => k2.2 g (Nat.lt_of_lt_of_le hg hb.size) h0 (fun x => by have := hX g x; omega)⟩

theorem push_wf {B N : Nat} {s : St} (h : Wf B N s) {p : Part} (hc : ∀ q, s.opens.getLast? = some q → q.isC = true ∧ (q.isList = true → p.isItem = true)) (he : p.ext.1 ≤ B ∧ p.ext.2 ≤ B ∧ p.indOk) : Wf (B + p.mass) N (s.push p) := by
  obtain ⟨n, q, hn, hq, hl⟩ := h.last
  have hat : ∀ (i : Nat) (a : Part), (s.push p).opens[i]? = some a → (i < n + 1 ∧ s.opens[i]? = some a) ∨ (i = n + 1 ∧ a = p) := by
    intro i a ha
    have ha : (s.opens ++ [p])[i]? = some a := ha
    rcases Nat.lt_or_ge i (n + 1) with hi | hi
    · rw [List.getElem?_append_left (by omega)] at ha
      exact .inl ⟨hi, ha⟩
    · have hin : i = n + 1 := by
        have := (List.getElem?_eq_some_iff.1 ha).1
        rw [List.length_append, hn] at this
        simp at this
        omega
      subst hin
      rw [List.getElem?_append_right (by omega), hn, Nat.sub_self] at ha
      exact .inr ⟨rfl, (Option.some.inj ha).symm⟩
  have hlen : (s.push p).opens.length = n + 2 := by show (s.opens ++ [p]).length = _; rw [List.length_append, hn]; rfl
  refine ⟨?_, ?_, ?_, ?_, ?_, ?_⟩
  · obtain ⟨x, hx⟩ := h.doc
    refine ⟨x, ?_⟩
    show (s.opens ++ [p])[0]? = _
    rw [List.getElem?_append_left (by omega)]
    exact hx
  · intro i a ha hi
    rcases hat i a ha with ⟨h1, h2⟩ | ⟨h1, _⟩
    · rcases Nat.lt_or_ge (i + 1) s.opens.length with x | x
      · exact h.cont i a h2 x
      · have : i = n := by omega
        subst this
        rw [hq] at h2
        cases h2
        exact (hc _ hl).1
    · omega
  · intro i a b ha hb hal
    rcases hat (i + 1) b hb with ⟨h1, h2⟩ | ⟨h1, rfl⟩
    · rcases hat i a ha with ⟨h3, h4⟩ | ⟨h3, _⟩
      · exact h.list i a b h4 h2 hal
      · omega
    · rcases hat i a ha with ⟨h3, h4⟩ | ⟨h3, _⟩
      · have : i = n := by omega
        subst this
        rw [hq] at h4
        cases h4
        exact (hc _ hl).2 hal
      · omega
  · intro i a ha
    rcases hat i a ha with ⟨h1, h2⟩ | ⟨h1, rfl⟩
    · have := h.ext i a h2
      exact ⟨by omega, by omega, this.2.2⟩
    · exact ⟨by omega, by omega, he.2.2⟩
  · have hm := h.mass
    unfold St.mass at hm ⊢
    show massL (s.opens ++ [p]) + s.defs.length + N ≤ _
    rw [massL_append]
    simp only [massL]
    omega
  · rw [hlen]
    show s.opens.length + 1 ≤ _
    omega

set_option maxHeartbeats 2000000 in
theorem bpush_any {w : World} {r : Nat} {own : Nat → Nat} {B : Nat} {s : St} (h : Good w r own B s) (hB : B ≤ 549755813888) {A S : Nat → Prop} {b : Nat} {p : Part} (hf : Fresh w own A S b p) (hc : ∀ q, s.opens.getLast? = some q → q.isC = true ∧ (q.isList = true → p.isItem = true)) (he : p.ext.1 ≤ B ∧ p.ext.2 ≤ B ∧ p.indOk) :
    Calls Tryz.prog 70 #[ptrV r, partI p b] w fun e w' => e = .returned (.tuple #[]) ∧ LeftX w r own (fun g => A g ∨ S g) (B + p.mass) (s.push p) w' := by
  obtain ⟨N, ⟨bs, vo, vd, vm, hR⟩, hW⟩ := h
  have hlen := hW.len
  obtain ⟨a, c, rfl, hcap⟩ := hR.row
  have c0 := cell_blk hR.rd (i := 0) rfl
  have a0 := fun o => alc c0 o
  simp only [List.getElem_toArray, List.getElem_cons_zero] at c0 a0
  have hrow := hR.opens
  have hrn : (Value.slice a s.opens.length c).ownBlock ≠ some r := fun e => by
    obtain ⟨cu, q⟩ := row_block hR.opens e
    rw [hR.rd] at q
    cases q
  have hrlt := lt_of_block hR.rd
  obtain ⟨i0, hi, hz0, hz1, hz2⟩ := info_parts infoP
  have HR := (show Hid (RepR w r own N bs (.slice a s.opens.length c) vd vm s) from hR)
  have HW := (show Hid (Wf B N s) from hW)
  have HF := (show Hid (Fresh w own A S b p) from hf)
  have HP := (show Hid _ from push_wf hW hc he)
  clear hR hW hf hc he
  simp only [partI]
  generalize hT : partP p = T at *
  generalize hn : s.opens.length = n at *
  go_enter Tryz.func70, Tryz.ntmps70
  go_wp2_with (at_builtin; refine wpList_append_own_at _ rfl _ _ 53 rfl 0 66 i0 .nilIface 1 16 Tryz.underlying53 hi hz0 hz1 hz2 rfl (by decide) _ _ _ rfl (World.ownsRow.alloc hrow _) ⟨w.heap.size, 0, none⟩ 1 1 [.iface T (ptrV b)] rfl rfl (lit_cells _ _ _) ?c2 ?c3 ?c4 ?c5 ?_)
  case c2 => intro u hu; simp at hu; subst hu; rfl
  case c3 => unfold maxLen; omega
  case c4 => omega
  case c5 => exact Nat.zero_le _
  intro v' w2 hown' hgrow _ hat
  obtain ⟨g, c', rfl⟩ : ∃ g c', v' = .slice (some ⟨g, 0, none⟩) (n + 1) c' := by
    rcases hown'.2 with ⟨_, q⟩ | ⟨g, cap, cur, rfl, _⟩
    · omega
    · exact ⟨g, cap, rfl⟩
  have hr2 : w2.heap[r]? = some (.cells (rdCs (.slice a n c) vd vm s.on) 58 (0, 0)) := (hgrow.block r (by simp; omega) (fun e => hrn e.symm)).trans (blk_below HR.out.rd ((Below.refl _ _).alloc (Nat.le_refl _) _))
  have d0 := cell_blk hr2 (i := 0) rfl
  have d1 := cell_blk hr2 (i := 1) rfl
  have g0 := free_blk hr2 0
  have g1 := free_blk hr2 1
  simp only [List.getElem_toArray, List.getElem_cons_zero, List.getElem_cons_succ] at d0 d1
  have HO' := (show Hid (w2.ownsRow 0 66 1 (.slice (some ⟨g, 0, none⟩) (n + 1) c') (n + 1) (List.zipWith partI s.opens bs ++ [.iface T (ptrV b)])) from hown')
  have HG' := (show Hid _ from hgrow)
  have HAT := (show Hid _ from hat)
  have HR2 := (show Hid _ from hr2)
  clear hown' hgrow hat hr2 hrow
  go_wp2
  go_end0
  refine ⟨rfl, ?_⟩
  have hgr : g ≠ r := by
    intro e
    rcases HAT.out with q | q
    · exact hrn (by rw [← q, e]; rfl)
    · cases q; simp at e; omega
  have F1 : Fr (fun k => k = r ∨ (Value.slice a n c).ownBlock = some k) w w2 := (((Fr.refl _ w).alloc _).trans (fr_grown HG'.out)).mono (fun k q => .inr q)
  have F2 := (F1.set (b := r) (.inl rfl) 0 (.slice (some ⟨g, 0, none⟩) (n + 1) c')).set (b := r) (.inl rfl) 1 (.int .i64 ((n : Int) + 1))
  have hR3 : ((w2.setCell ⟨r, 0, none⟩ (.slice (some ⟨g, 0, none⟩) (n + 1) c')).setCell ⟨r, 1, none⟩ (.int .i64 ((n : Int) + 1))).heap[r]? = some (.cells (rdCs (.slice (some ⟨g, 0, none⟩) (n + 1) c') vd vm (n + 1)) 58 (0, 0)) := set_blk (set_blk HR2.out 0 _) 1 _
  have hO3 : ((w2.setCell ⟨r, 0, none⟩ (.slice (some ⟨g, 0, none⟩) (n + 1) c')).setCell ⟨r, 1, none⟩ (.int .i64 ((n : Int) + 1))).ownsRow 0 66 1 (.slice (some ⟨g, 0, none⟩) (n + 1) c') (n + 1) (List.zipWith partI s.opens bs ++ [partI p b]) := by
    simp only [partI, hT]
    exact row_keeps HO'.out (fun k hk => by cases hk; exact (Below.heap_setCell _ _ _ _ (by simpa using hgr)).trans (Below.heap_setCell _ _ _ _ (by simpa using hgr)))
  obtain ⟨y1, y2, y3⟩ := push_rep HR.out HF.out hn hR3 hO3 (fun k hk => by
    cases hk
    rcases HAT.out with q | q
    · exact .inl q.symm
    · cases q; right; simp) F2
  refine ⟨_, ⟨N, ⟨_, _, _, _, y1⟩, HP.out⟩, F2.mono (fun k q => ?_), fun k hk h0 hx => ?_⟩
  · show own k ≠ 0
    rcases q with q | q
    · rw [q, HR.out.rown]; decide
    · rw [HR.out.oown k q]; decide
  · rw [y3 k hk (fun q => hx (.inl q)) (fun q => hx (.inr q))]
    exact h0

end Go.Proofs.YtcbojffcnlkejaaGreatDoor

/- What is no Item begins where it may stand. -/
namespace Go.Proofs.YtcbojffcnlkejaaGreatDoor
open Go.RowKit
open cur (cell_blk free_blk set_blk blk_below)

theorem close_last {B N : Nat} {s : St} (h : Wf B N s) (h2 : 2 ≤ s.opens.length) : ∃ N', Wf B N' s.close ∧ (∀ q, s.close.opens.getLast? = some q → q.isC = true) ∧ s.close.opens.length = s.opens.length - 1 ∧ s.close.on = min s.on (s.opens.length - 1) ∧
    (∀ q, s.close.opens.getLast? = some q → q.isList = true → ∀ p, s.opens.getLast? = some p → p.isItem = true) := by
  obtain ⟨n, hn⟩ : ∃ n, s.opens.length = n + 2 := ⟨s.opens.length - 2, by omega⟩
  obtain ⟨p, hp⟩ : ∃ p, s.opens[n + 1]? = some p := ⟨_, List.getElem?_eq_getElem (by omega)⟩
  obtain ⟨c, hc⟩ : ∃ c, s.opens[n]? = some c := ⟨_, List.getElem?_eq_getElem (by omega)⟩
  obtain ⟨q1, q2, q3⟩ := close_wf h hn hp hc
  have hl : ∀ q, s.close.opens.getLast? = some q → q = c.hold (St.takeOff p s.defs).1 := by
    intro q hq
    rw [List.getLast?_eq_getElem?, q2, show n + 1 - 1 = n by omega, close_eq hn hp hc] at hq
    have hq : (((s.opens.set (n + 1) (St.takeOff p s.defs).1).take (n + 1)).set n (c.hold (St.takeOff p s.defs).1))[n]? = some q := hq
    rw [List.getElem?_set_self (by rw [List.length_take, List.length_set, hn]; omega)] at hq
    exact (Option.some.inj hq).symm
  refine ⟨_, q1, ?_, by rw [q2, hn]; rfl, by rw [q3, hn]; rfl, ?_⟩
  · intro q hq
    rw [hl q hq, hold_C]
    exact h.cont n c hc (by omega)
  · intro q hq hL p' hp'
    rw [List.getLast?_eq_getElem?, hn, show n + 2 - 1 = n + 1 by omega, hp] at hp'
    cases hp'
    rw [hl q hq] at hL
    refine h.list n c p hc hp ?_
    cases c <;> first | exact hL | cases hL

theorem leave_last : ∀ (k B N : Nat) (s : St), s.opens.length = k → Wf B N s → 1 ≤ s.on → s.on < s.opens.length → ∀ q, s.leave.opens.getLast? = some q → q.isC = true := by
  intro k
  induction k with
  | zero => intro B N s hk h h1 h2; omega
  | succ k ih =>
    intro B N s hk h h1 h2 q hq
    obtain ⟨N', w1, w2, w3, w4, _⟩ := close_last h (by omega)
    rw [leave_next h2 w3] at hq
    rcases Nat.lt_or_ge s.close.on s.close.opens.length with x | x
    · exact ih B N' s.close (by omega) w1 (by rw [w4]; omega) x q hq
    · rw [leave_stop (by omega)] at hq
      exact w2 q hq

/-- A leaf that is open and no paragraph is left. -/
def LeafLeft (s : St) : Prop := ∀ q, s.opens.getLast? = some q → q.isC = true ∨ q.isPara = true ∨ s.on < s.opens.length

theorem leave_cont {B N : Nat} {s : St} (h : Wf B N s) (h1 : 1 ≤ s.on) (hl : LeafLeft s) : ∀ q, s.leave.opens.getLast? = some q → q.isC = true ∨ q.isPara = true := by
  intro q hq
  rcases Nat.lt_or_ge s.on s.opens.length with x | x
  · exact .inl (leave_last _ B N s rfl h h1 x q hq)
  · rw [leave_stop (by omega)] at hq
    rcases hl q hq with y | y | y
    · exact .inl y
    · exact .inr y
    · omega

theorem leave_wf : ∀ (k B N : Nat) (s : St), s.opens.length = k → Wf B N s → 1 ≤ s.on → ∃ N', Wf B N' s.leave ∧ 1 ≤ s.leave.on := by
  intro k
  induction k with
  | zero => intro B N s hk h h1; have := h.on; omega
  | succ k ih =>
    intro B N s hk h h1
    rcases Nat.lt_or_ge s.on s.opens.length with x | x
    · obtain ⟨N', w1, w2, w3, w4, _⟩ := close_last h (by omega)
      rw [leave_next x w3]
      exact ih B N' s.close (by omega) w1 (by rw [w4]; omega)
    · rw [leave_stop (by omega)]
      exact ⟨N, h, h1⟩

theorem clear_cont {B N : Nat} {s : St} (h : Wf B N s) (h1 : 1 ≤ s.on) (hl : LeafLeft s) : ∀ q, s.clear.opens.getLast? = some q → q.isC = true := by
  intro q hq
  unfold St.clear at hq
  obtain ⟨N', w1, _⟩ := leave_wf _ B N s rfl h h1
  cases hp : s.leave.hasPara
  · rw [hp] at hq
    simp only [Bool.false_eq_true, if_false] at hq
    rcases leave_cont h h1 hl q hq with x | x
    · exact x
    · unfold St.hasPara at hp
      rw [hq] at hp
      simp only at hp
      rw [x] at hp
      cases hp
  · rw [hp] at hq
    simp only [if_true] at hq
    obtain ⟨_, _, w2, _⟩ := close_last w1 (para_two w1 hp)
    exact w2 q hq

theorem not_item {q : Part} (h : q.isList = true) : ¬ q.isItem = true := by
  cases q <;> first | cases h | (intro h'; cases h')
  intro h'
  cases h'
theorem list_two {B N : Nat} {s : St} (h : Wf B N s) (hp : s.inList = true) : 2 ≤ s.opens.length := by
  obtain ⟨n, p, _, _, hl⟩ := h.last
  unfold St.inList at hp
  rw [hl] at hp
  refine h.two hl ?_
  cases p <;> first | rfl | cases hp

theorem Fresh.step {w u : World} {own own1 : Nat → Nat} {A S : Nat → Prop} {b : Nat} {p : Part} (h : Fresh w own A S b p) (st : Step w own u own1) : Fresh u own1 A S b p := by
  obtain ⟨h1, h2, h3, h4⟩ := h
  refine ⟨h1.keeps (fun _ q => q) (fun _ q => q) (fun g hg q => st.1.block g hg (by rw [(h2 g q).1]; decide)) (fun g hg q => st.1.block g hg (by rw [h3 g q]; decide)), fun g q => ⟨st.2 g (h4 g (.inl q)) (h2 g q).1, (h2 g q).2⟩, fun g q => st.2 g (h4 g (.inr q)) (h3 g q), fun g q => Nat.lt_of_lt_of_le (h4 g q) st.1.size⟩
theorem Step.drewN {w : World} {own : Nat → Nat} (m : Nat) : Step w own (w.drewN m) own := ⟨(Fr.refl _ w).drewN m, fun _ _ q => q⟩

theorem binner_good {w : World} {r : Nat} {own : Nat → Nat} {B : Nat} {s : St} (h : Good w r own B s) (hB : B ≤ 549755813888) : ∃ q bq, s.opens.getLast? = some q ∧ Calls Tryz.prog 23 #[ptrV r] w fun e w' => e = .returned (.iface (partP q) (ptrV bq)) ∧ ∃ m, w' = w.drewN m := by
  obtain ⟨N, ⟨bs, vo, vd, vm, hR⟩, hW⟩ := h
  obtain ⟨n, p, hn, hp, hl⟩ := hW.last
  obtain ⟨b, hb, _⟩ := hR.at hp
  have := hW.len
  exact ⟨p, b, hl, binner_any hR hn hp hb (by omega)⟩

set_option maxHeartbeats 2000000 in
theorem bstand_any {w : World} {r : Nat} {own : Nat → Nat} {B : Nat} {s : St} (h : Good w r own B s) (hB : B ≤ 549755813888) (hon : 1 ≤ s.on) (hl : LeafLeft s) {A S : Nat → Prop} {b : Nat} {p : Part} (hf : Fresh w own A S b p) (hi : p.isItem = false) (he : p.ext.1 ≤ B ∧ p.ext.2 ≤ B ∧ p.indOk) :
    Calls Tryz.prog 43 #[ptrV r, partI p b] w fun e w' => e = .returned (.tuple #[]) ∧ LeftX w r own (fun g => A g ∨ S g) (B + p.mass) (s.stand p) w' := by
  have HC : Hid (Calls Tryz.prog 55 #[ptrV r] w fun e w' => e = .returned (.tuple #[]) ∧ Left w r own B s.clear w') := bclear_any h hB hon
  have HCo : Hid (∀ q, s.clear.opens.getLast? = some q → q.isC = true) := by
    obtain ⟨N, _, hW⟩ := h
    exact clear_cont hW hon hl
  have HF : Hid (Fresh w own A S b p) := hf
  have HE : Hid (p.ext.1 ≤ B ∧ p.ext.2 ≤ B ∧ p.indOk) := he
  clear h hf he hl
  unfold St.stand
  have HPu : Hid (∀ (u : World) (own1 : Nat → Nat) (s1 : St), Good u r own1 B s1 → Step w own u own1 → (∀ q, s1.opens.getLast? = some q → q.isC = true ∧ q.isList = false) → Calls Tryz.prog 70 #[ptrV r, partI p b] u fun e w' => e = .returned (.tuple #[]) ∧ LeftX w r own (fun g => A g ∨ S g) (B + p.mass) (s1.push p) w') := by
    intro u own1 s1 g1 st1 hq
    refine (bpush_any g1 hB (HF.out.step st1) (fun q x => ⟨(hq q x).1, fun y => by rw [(hq q x).2] at y; cases y⟩) HE.out).mono ?_
    rintro e w' ⟨rfl, k⟩
    exact ⟨rfl, LeftX.after st1 k⟩
  simp only [partI] at HPu ⊢
  generalize partP p = T at *
  cases hil : s.clear.inList
  · go_enter Tryz.func43, Tryz.ntmps43
    go_wp2_with (first
      | (go_at_call 55; refine HC.out.mono ?_; rintro e u ⟨rfl, own1, g1, st1⟩; obtain ⟨q, bq, hq, hI⟩ := binner_good g1 hB; have HI : Hid (Calls Tryz.prog 23 #[ptrV r] u fun e w' => e = .returned (.iface (partP q) (ptrV bq)) ∧ ∃ m, w' = u.drewN m) := hI; have hqL : q.isList = false := (by unfold St.inList at hil; rw [hq] at hil; exact hil); have ta := (fun w => as_list q bq w); rw [hqL] at ta; generalize partP q = TQ at *; have HG1 : Hid (Good u r own1 B s.clear) := g1; have HS1 : Hid (Step w own u own1) := st1; have HQ : Hid (∀ q, s.clear.opens.getLast? = some q → q.isC = true ∧ q.isList = false) := (fun q' h' => ⟨HCo.out q' h', by rw [hq] at h'; cases h'; exact hqL⟩); clear g1 st1 hq hqL hI)
      | (go_at_call 23; refine HI.out.mono ?_; rintro e u2 ⟨rfl, m, rfl⟩)
      | (go_at_call 70; refine (HPu.out (u.drewN m) own1 s.clear (Good.drewN HG1.out m) (HS1.out.trans (Step.drewN m)) HQ.out).mono ?_; rintro e u3 ⟨rfl, hu3⟩))
    go_end0
    exact ⟨rfl, hu3⟩
  · go_enter Tryz.func43, Tryz.ntmps43
    go_wp2_with (first
      | (go_at_call 55; refine HC.out.mono ?_; rintro e u ⟨rfl, own1, g1, st1⟩; obtain ⟨q, bq, hq, hI⟩ := binner_good g1 hB; have HI : Hid (Calls Tryz.prog 23 #[ptrV r] u fun e w' => e = .returned (.iface (partP q) (ptrV bq)) ∧ ∃ m, w' = u.drewN m) := hI; have hqL : q.isList = true := (by unfold St.inList at hil; rw [hq] at hil; exact hil); have ta := (fun w => as_list q bq w); rw [hqL] at ta; generalize partP q = TQ at *; have HG1 : Hid (Good u r own1 B s.clear) := g1; have HS1 : Hid (Step w own u own1) := st1; have HQ : Hid (2 ≤ s.clear.opens.length ∧ ∀ q, s.clear.close.opens.getLast? = some q → q.isC = true ∧ q.isList = false) := (by obtain ⟨N, _, hW⟩ := g1; have h2 := list_two hW hil; obtain ⟨_, _, w2, _, _, w5⟩ := close_last hW h2; exact ⟨h2, fun q' h' => ⟨w2 q' h', by cases hx : q'.isList; rfl; exact absurd (w5 q' h' hx q hq) (not_item hqL)⟩⟩); clear g1 st1 hq hqL hI)
      | (go_at_call 23; refine HI.out.mono ?_; rintro e u2 ⟨rfl, m, rfl⟩)
      | (go_at_call 30; refine (bclose_good (Good.drewN HG1.out m) hB HQ.out.1).mono ?_; rintro e u3 ⟨rfl, own3, g3, st3⟩; have HG3 : Hid (Good u3 r own3 B s.clear.close) := g3; have HS3 : Hid (Step w own u3 own3) := (HS1.out.trans (Step.drewN m)).trans st3; clear g3 st3)
      | (go_at_call 70; refine (HPu.out u3 own3 s.clear.close HG3.out HS3.out HQ.out.2).mono ?_; rintro e u4 ⟨rfl, hu4⟩))
    go_end0
    exact ⟨rfl, hu4⟩

end Go.Proofs.YtcbojffcnlkejaaGreatDoor

/- A line is handed on; what begins on it; a row more. -/
namespace Go.Proofs.YtcbojffcnlkejaaGreatDoor
open Go.RowKit
open cur (cell_blk free_blk set_blk blk_below Cur cptr)

/-- A place in a line, and the line's number. -/
abbrev lnV (c n : Nat) : Value := .agg #[cptr c, .int .i64 (n : Int)]

theorem bext_any (c n : Nat) (w : World) : Calls Tryz.prog 62 #[lnV c n] w fun e w' => e = .returned (.agg #[.int .i64 (n : Int), .int .i64 (n : Int)]) ∧ Below w.heap.size w w' := by
  go_enter Tryz.func62, Tryz.ntmps62
  go_wp2
  refine bodyPost_ret (v := .agg #[.int .i64 (n : Int), .int .i64 (n : Int)]) ?_ rfl ⟨rfl, ?_⟩
  · rw [results_cell1 rfl]
    go_simp
  · have b1 := (Below.refl w.heap.size w).alloc (Nat.le_refl _) (.cells #[cptr c, .int .i64 (n : Int)] 63)
    exact b1.alloc b1.size _

/-- The line's own block, as a function that is handed it lays it. -/
theorem line_blk (c n : Nat) (w : World) : (w.alloc (.cells #[cptr c, .int .i64 (n : Int)] 63)).heap[w.heap.size]? = some (.cells #[cptr c, .int .i64 (n : Int)] 63 (0, 0)) := new_blk w _ _

set_option maxHeartbeats 1000000 in
theorem bbody_any (c n : Nat) (w : World) : Calls Tryz.prog 44 #[lnV c n] w fun e w' => e = .returned (.agg #[.int .i64 (n : Int), .int .i64 (n : Int), .slice none 0 0]) ∧ Below w.heap.size w w' := by
  have HE := (show Hid _ from fun w => bext_any c n w)
  have hl := line_blk c n w
  have HB1 : Hid (Below w.heap.size w (w.alloc (.cells #[cptr c, .int .i64 (n : Int)] 63))) := (Below.refl _ _).alloc (Nat.le_refl _) _
  generalize hW : w.alloc (.cells #[cptr c, .int .i64 (n : Int)] 63) = W1 at hl HB1
  have hb2 := blk_below hl ((Below.refl _ _).alloc (Nat.le_refl _) (.cells #[.int .i64 0, .int .i64 0, .slice none 0 0] 100))
  have l0 := cell_blk hb2 (i := 0) rfl
  have l1 := cell_blk hb2 (i := 1) rfl
  have hnb := new_blk W1 #[.int .i64 0, .int .i64 0, .slice none 0 0] 100
  have HB2 : Hid (Below W1.heap.size W1 (W1.alloc (.cells #[.int .i64 0, .int .i64 0, .slice none 0 0] 100))) := (Below.refl _ _).alloc (Nat.le_refl _) _
  generalize hW2 : W1.alloc (.cells #[.int .i64 0, .int .i64 0, .slice none 0 0] 100) = W2 at hnb HB2 l0 l1
  simp only [List.getElem_toArray, List.getElem_cons_zero, List.getElem_cons_succ] at l0 l1
  have HNB := (show Hid _ from hnb)
  clear hl hb2 hnb
  generalize hlb : w.heap.size = lb at *
  generalize hbb : W1.heap.size = bb at *
  go_enter Tryz.func44, Tryz.ntmps44
  go_wp2_with (go_at_call 62; refine (HE.out _).mono ?_; rintro e u ⟨rfl, hu⟩; have hb := blk_below HNB.out hu; have c0 := cell_blk hb (i := 0) rfl; have c1 := cell_blk hb (i := 1) rfl; have c2 := cell_blk hb (i := 2) rfl; have f0 := free_blk hb 0; have f1 := free_blk hb 1; have f2 := free_blk hb 2; have HB := (show Hid _ from hb); have HU := (show Hid _ from hu); clear hb hu)
  have h3 : (((u.setCell ⟨bb, 0, none⟩ (.int .i64 (n : Int))).setCell ⟨bb, 1, none⟩ (.int .i64 (n : Int))).setCell ⟨bb, 2, none⟩ (.slice none 0 0)).heap[bb]? = some (.cells #[.int .i64 (n : Int), .int .i64 (n : Int), .slice none 0 0] 100 (0, 0)) := set_blk (set_blk (set_blk HB.out 0 _) 1 _) 2 _
  have d0 := cell_blk h3 (i := 0) rfl
  have d1 := cell_blk h3 (i := 1) rfl
  have d2 := cell_blk h3 (i := 2) rfl
  have hle : lb ≤ bb := by rw [← hlb, ← hbb]; exact hlb ▸ HB1.out.size
  refine bodyPost_ret (v := .agg #[.int .i64 (n : Int), .int .i64 (n : Int), .slice none 0 0]) ?_ rfl ⟨rfl, ?_⟩
  · rw [results_cell1 rfl]
    go_simp
  · have x1 : Below lb w u := by
      have y1 := HB1.out
      have y2 := HB2.out.mono hle
      have hs : bb ≤ W2.heap.size := by rw [← hbb]; exact HB2.out.size
      exact (y1.trans y2).trans (HU.out.mono (by omega))
    exact below_set (below_set (below_set x1 hle) hle) hle

end Go.Proofs.YtcbojffcnlkejaaGreatDoor

/- Containers that go on. -/
namespace Go.Proofs.YtcbojffcnlkejaaGreatDoor
open Go.RowKit
open cur (cell_blk free_blk set_blk blk_below Cur cptr Oth)

theorem oth_blk {c b : Nat} {w w' : World} {o : Obj} (h : Oth c w w') (hb : w.heap[b]? = some o) (hn : b ≠ c) : w'.heap[b]? = some o := (h.block hn).trans hb

set_option maxHeartbeats 1000000 in
theorem bpass_any {c n : Nat} {σ : Pl} {w : World} (hC : Cur w c σ) : Calls Tryz.prog 63 #[lnV c n] w fun e w' => e = .returned (.tuple #[]) ∧ Cur w' c (skipR 1 (moveR 1 σ)) ∧ Fr (fun g => g = c) w w' := by
  have hl := line_blk c n w
  have HB1 : Hid (Below w.heap.size w (w.alloc (.cells #[cptr c, .int .i64 (n : Int)] 63))) := (Below.refl _ _).alloc (Nat.le_refl _) _
  generalize hW : w.alloc (.cells #[cptr c, .int .i64 (n : Int)] 63) = W1 at hl HB1
  have hC1 := hC.below HB1.out
  have hlc : w.heap.size ≠ c := by have := hC.lt; omega
  have l0 := cell_blk hl (i := 0) rfl
  simp only [List.getElem_toArray, List.getElem_cons_zero] at l0
  have HL := (show Hid _ from hl)
  have HF1 : Hid (Fr (fun g => g = c) w W1) := Fr.of_below HB1.out
  have HM : Hid (Calls Tryz.prog 82 #[cptr c, .int .i64 1] W1 fun e w' => e = .returned (.tuple #[]) ∧ Cur w' c (moveR 1 σ) ∧ Oth c W1 w') := cur.move_any hC1 1 (by decide)
  clear hl hC hC1 HB1
  generalize hlbe : w.heap.size = lb at *
  go_enter Tryz.func63, Tryz.ntmps63
  go_wp2_with (first
    | (go_at_call 82; (refine HM.out.mono ?_; rintro e u ⟨rfl, hcu, hou⟩; have hl2 := oth_blk hou HL.out hlc; have l02 := cell_blk hl2 (i := 0) rfl; simp only [List.getElem_toArray, List.getElem_cons_zero] at l02; have HS : Hid (Calls Tryz.prog 87 #[cptr c, .int .i64 1] u fun e w' => e = .returned (.int .i64 (((skipR 1 (moveR 1 σ)).2.2 : Int) - ((moveR 1 σ).2.2 : Int))) ∧ Cur w' c (skipR 1 (moveR 1 σ)) ∧ Oth c u w') := cur.skip_any hcu 1 (by decide); have HO := (show Hid (Oth c W1 u) from hou); clear hl2 hcu hou))
    | (go_at_call 87; (refine HS.out.mono ?_; rintro e u2 ⟨rfl, hcu2, hou2⟩)))
  go_end0
  exact ⟨rfl, hcu2, (HF1.out.trans (Fr.of_oth HO.out rfl)).trans (Fr.of_oth hou2 rfl)⟩

/-- What goesOn leaves of a part, and of the place. -/
def GoesW (w : World) (b c : Nat) (p' : Part) (v : Value) (σ' : Pl) (w' : World) : Prop := w'.heap[b]? = some (.cells (partCs p' v).toArray (partT p') (0, 0)) ∧ Cur w' c σ' ∧ Fr (fun g => g = b ∨ g = c) w w'

set_option maxHeartbeats 2000000 in
theorem bgoes_quote {b c n : Nat} {σ : Pl} {w : World} {x : Box} {v : Value} {f : Bool} (h : w.heap[b]? = some (.cells (partCs (.quote x) v).toArray 124 (0, 0))) (hC : Cur w c σ) (hbc : b ≠ c) :
    Calls Tryz.prog 236 #[ptrV b, lnV c n, .bool f] w fun e w' => e = .returned (.bool (Part.goesOn n f σ (.quote x)).1) ∧ GoesW w b c (Part.goesOn n f σ (.quote x)).2.1 v (Part.goesOn n f σ (.quote x)).2.2 w' := by
  have hl := line_blk c n w
  have HB1 : Hid (Below w.heap.size w (w.alloc (.cells #[cptr c, .int .i64 (n : Int)] 63))) := (Below.refl _ _).alloc (Nat.le_refl _) _
  generalize hW : w.alloc (.cells #[cptr c, .int .i64 (n : Int)] 63) = W1 at hl HB1
  have hC1 := hC.below HB1.out
  have hb1 := blk_below h HB1.out
  have hlc : w.heap.size ≠ c := by have := hC.lt; omega
  have hlb : w.heap.size ≠ b := by have := lt_of_block h; omega
  have l0 := cell_blk hl (i := 0) rfl
  have l1 := cell_blk hl (i := 1) rfl
  simp only [List.getElem_toArray, List.getElem_cons_zero, List.getElem_cons_succ] at l0 l1
  have HI : Hid (Calls Tryz.prog 34 #[cptr c] W1 fun e w' => e = .returned (.int .i64 (indR σ : Int)) ∧ w' = W1) := cur.indent_any hC1
  have HN : Hid (Calls Tryz.prog 36 #[cptr c] W1 fun e w' => e = .returned (.int .u8 (((beh σ.1).headD 0).toNat : Int)) ∧ w' = W1) := cur.next_any hC1
  have HP : Hid (Calls Tryz.prog 63 #[lnV c n] W1 fun e w' => e = .returned (.tuple #[]) ∧ Cur w' c (skipR 1 (moveR 1 σ)) ∧ Fr (fun g => g = c) W1 w') := bpass_any hC1
  have HL := (show Hid _ from hl)
  have HBb := (show Hid _ from hb1)
  have HC1 : Hid (Cur W1 c σ) := hC1
  clear hl h hC hb1 hC1
  have hng : Part.goesOn n f σ (.quote x) = if 3 < indR σ ∨ nextB σ ≠ 62 then (false, .quote x, σ) else (true, .quote { x with last := n }, skipR 1 (moveR 1 σ)) := rfl
  rw [hng]
  generalize hlbe : w.heap.size = lb at *
  have hnx : nextB σ = (beh σ.1).headD 0 := rfl
  rw [hnx]
  generalize (beh σ.1).headD 0 = nb at *
  by_cases h3 : 3 < indR σ
  · have h3' : (3 : Int) < (indR σ : Int) := by omega
    rw [if_pos (.inl h3)]
    clear hng
    generalize indR σ = ind at *
    go_enter Tryz.func236, Tryz.ntmps236
    go_wp2_with (first
      | (go_at_call 34; refine HI.out.mono ?_; rintro e u ⟨rfl, hu⟩; subst u))
    go_ret
    exact ⟨rfl, HBb.out, HC1.out, Fr.of_below (hlbe ▸ HB1.out)⟩
  · have h3' : ¬ (3 : Int) < (indR σ : Int) := by omega
    by_cases h6 : nb = 62
    · have h6' : (nb.toNat : Int) = 62 := by rw [h6]; rfl
      have h6b : ((nb.toNat : Int) != 62) = false := by rw [h6']; rfl
      rw [if_neg (by rintro (q | q); exact h3 q; exact q h6)]
      clear hng
      generalize indR σ = ind at *
      go_enter Tryz.func236, Tryz.ntmps236
      go_wp2_with (first
        | (go_at_call 34; refine HI.out.mono ?_; rintro e u ⟨rfl, hu⟩; subst u)
        | (go_at_call 36; refine HN.out.mono ?_; rintro e u ⟨rfl, hu⟩; subst u)
        | (go_at_call 63; (refine HP.out.mono ?_; rintro e u ⟨rfl, hcu, hfu⟩; have hb2 := hfu.keeps HBb.out hbc; have c1 := cell_blk hb2 (i := 1) rfl; have f1 := free_blk hb2 1; have hl2 := hfu.keeps HL.out hlc; have l12 := cell_blk hl2 (i := 1) rfl; simp only [partCs, List.getElem_toArray, List.getElem_cons_zero, List.getElem_cons_succ] at c1 l12; have HB2 := (show Hid _ from hb2); have HF2 := (show Hid _ from hfu); have HCU : Hid (Cur u c (skipR 1 (moveR 1 σ))) := hcu; clear hb2 hl2 hfu hcu)))
      go_ret
      refine ⟨rfl, set_blk HB2.out 1 _, ?_, ?_⟩
      · exact HCU.out.oth ((Oth.refl b u).set 1 _) (Ne.symm hbc)
      · exact (((Fr.of_below (hlbe ▸ HB1.out)).trans (HF2.out.mono (fun k q => .inr q))).set (.inl rfl) 1 _)
    · have h6' : ¬ (nb.toNat : Int) = 62 := fun q => h6 (UInt8.toNat_inj.1 (by show nb.toNat = 62; omega))
      have h6b : ((nb.toNat : Int) != 62) = true := by simpa using h6'
      rw [if_pos (.inr h6)]
      clear hng
      generalize indR σ = ind at *
      go_enter Tryz.func236, Tryz.ntmps236
      go_wp2_with (first
        | (go_at_call 34; refine HI.out.mono ?_; rintro e u ⟨rfl, hu⟩; subst u)
        | (go_at_call 36; refine HN.out.mono ?_; rintro e u ⟨rfl, hu⟩; subst u))
      go_ret
      exact ⟨rfl, HBb.out, HC1.out, Fr.of_below (hlbe ▸ HB1.out)⟩

end Go.Proofs.YtcbojffcnlkejaaGreatDoor

/- An Item that goes on; the document and a List. -/
namespace Go.Proofs.YtcbojffcnlkejaaGreatDoor
open Go.RowKit
open cur (cell_blk free_blk set_blk blk_below Cur cptr Oth)

theorem region_class2 {P : Program} {id : Nat} {Q : Exit → Act → World → Prop} {a : Act} {w : World} {l : List Oper} (C : World → Prop) (hm : P.follows .mixedOrders = true) (hB : Region.lexB .any l.toArray = true) (hC : C w.drew)
    (h : wpQuiet P l.toArray C (fun a' => ∀ w', C w' → Q .normal a' w') l a) : (Code.region id l.toArray true).wp P Q a w :=
  wp_region_quiet (C := C) hm hB hC (by simpa using h)

theorem BwW.drew {w0 : World} (u : BwW w0) : ∃ u' : BwW w0, u.wo.drew = u'.wo := ⟨BwW.of (w := u.wo.drew) (u.is.trans ⟨rfl, rfl, rfl, Nat.le_refl _, fun _ _ => rfl⟩), rfl⟩

set_option maxHeartbeats 4000000 in
theorem bgoes_item {b c n : Nat} {σ : Pl} {w : World} {x : Box} {wd : Nat} {v : Value} {A S : Nat → Prop} {f : Bool} (h : w.heap[b]? = some (.cells (partCs (.item x wd) v).toArray 145 (0, 0))) (hk : KidsV w A S v x.kids) (hC : Cur w c σ) (hbc : b ≠ c) :
    Calls Tryz.prog 238 #[ptrV b, lnV c n, .bool f] w fun e w' => e = .returned (.bool (Part.goesOn n f σ (.item x wd)).1) ∧ GoesW w b c (Part.goesOn n f σ (.item x wd)).2.1 v (Part.goesOn n f σ (.item x wd)).2.2 w' := by
  obtain ⟨xs, hrow, _, _⟩ := hk
  obtain ⟨av, cv, rfl, _⟩ := row_slice hrow
  have hl := line_blk c n w
  have HB1 : Hid (Below w.heap.size w (w.alloc (.cells #[cptr c, .int .i64 (n : Int)] 63))) := (Below.refl _ _).alloc (Nat.le_refl _) _
  generalize hW : w.alloc (.cells #[cptr c, .int .i64 (n : Int)] 63) = W1 at hl HB1
  have hC1 := hC.below HB1.out
  have hb1 := blk_below h HB1.out
  have hlc : w.heap.size ≠ c := by have := hC.lt; omega
  have HI : Hid (∀ u : BwW W1, Calls Tryz.prog 34 #[cptr c] u.wo fun e w' => e = .returned (.int .i64 (indR σ : Int)) ∧ ∃ u' : BwW W1, w' = u'.wo) := fun u => (cur.indent_any (hC1.below u.is)).mono fun _ w' q => ⟨q.1, u, q.2⟩
  have HBl : Hid (∀ u : BwW W1, Calls Tryz.prog 54 #[cptr c] u.wo fun e w' => e = .returned (.bool (beh σ.1).isEmpty) ∧ ∃ u' : BwW W1, w' = u'.wo) := fun u => (cur.blank_any (hC1.below u.is)).mono fun _ w' q => ⟨q.1, by obtain ⟨m, e⟩ := q.2; exact ⟨BwW.of (w := u.wo.drewN m) (u.is.trans ⟨rfl, rfl, rfl, Nat.le_refl _, fun _ _ => rfl⟩), e⟩⟩
  have HS : Hid (∀ (u : BwW W1) (k : Nat), k ≤ 1152921504606846976 → Calls Tryz.prog 87 #[cptr c, .int .i64 (k : Int)] u.wo fun e w' => (∃ z, e = .returned (.int .i64 z)) ∧ GoesW w b c (.item x wd) (.slice av x.kids.len cv) (skipR k σ) w') := fun u k hk => (cur.skip_any (hC1.below u.is) (k : Int) (by omega)).mono fun e w' q => by
    refine ⟨⟨_, q.1⟩, oth_blk q.2.2 (u.blk hb1) hbc, by simpa using q.2.1, ?_⟩
    exact (Fr.of_below (X := fun g => g = b ∨ g = c) (HB1.out.trans (u.is.mono HB1.out.size))).trans (Fr.of_oth q.2.2 (.inr rfl))
  have HDone : Hid (∀ u : BwW W1, GoesW w b c (.item x wd) (.slice av x.kids.len cv) σ u.wo) := fun u => ⟨u.blk hb1, hC1.below u.is, Fr.of_below (HB1.out.trans (u.is.mono HB1.out.size))⟩
  have l0 := fun u : BwW W1 => cell_blk (u.blk hl) (i := 0) rfl
  have l1 := fun u : BwW W1 => cell_blk (u.blk hl) (i := 1) rfl
  have c2 := fun u : BwW W1 => cell_blk (u.blk hb1) (i := 2) rfl
  have c5 := fun u : BwW W1 => cell_blk (u.blk hb1) (i := 5) rfl
  simp only [partCs, List.getElem_toArray, List.getElem_cons_zero, List.getElem_cons_succ] at l0 l1 c2 c5
  have hind : indR σ ≤ 1152921504606846976 := by have := (ind_le σ).2; have := hC.wt; unfold wt at this; omega
  have HR : Hid (Part.goesOn n f σ (.item x wd) = if wd ≤ indR σ then (true, .item x wd, skipR wd σ) else if (beh σ.1).isEmpty = false ∨ (f = false ∧ x.kids.len = 0) then (false, .item x wd, σ) else (true, .item x wd, skipR (indR σ) σ)) := rfl
  generalize Part.goesOn n f σ (.item x wd) = R at *
  clear hl h hC hb1 hC1 hrow
  generalize hlbe : w.heap.size = lb at *
  generalize (beh σ.1).isEmpty = bl at *
  go_enter Tryz.func238, Tryz.ntmps238
  go_wp2
  refine region_class2 (fun w' => ∃ u : BwW W1, w' = u.wo) (by kernel_rfl) (by kernel_rfl) (BwW.first W1) ?_
  haveI := BwW.some W1
  repeat (go_big_quiet_step ((go_at_call 34; exact HI.out _)))
  refine wpQuiet_nil ?_
  intro _ hw'
  obtain ⟨u, hu⟩ := hw'
  subst hu
  by_cases hw : wd ≤ indR σ
  · replace HR : Hid (R = (true, .item x wd, skipR wd σ)) := by show _ = _; rw [HR.out, if_pos hw]
    go_wp2
    refine region_tail (fun w' => ∃ u : BwW W1, w' = u.wo) 6 (by kernel_rfl) (by kernel_rfl) (BwW.drew u) ?_
    simp only [List.take_succ_cons, List.take_zero]
    repeat (go_big_quiet_step (fail))
    refine wpQuiet_nil ?_
    intro _ hw'
    obtain ⟨u5, hu5⟩ := hw'
    subst hu5
    simp only [List.drop_succ_cons, List.drop_zero]
    go_wp2_with (go_at_call 87; refine (HS.out u5 wd (Nat.le_trans hw hind)).mono ?_; rintro e w5 ⟨⟨z, rfl⟩, hg5⟩)
    go_ret
    rw [HR.out]
    exact ⟨rfl, hg5⟩
  · cases bl
    · replace HR : Hid (R = (false, .item x wd, σ)) := by show _ = _; rw [HR.out, if_neg hw, if_pos (.inl rfl)]
      go_wp2_with (go_at_call 54; refine (HBl.out u).mono ?_; rintro e u2 ⟨rfl, u3, rfl⟩)
      go_ret
      rw [HR.out]
      exact ⟨rfl, HDone.out u3⟩
    · cases f
      · by_cases hk0 : x.kids.len = 0
        · have hk0' : (x.kids.len : Int) = 0 := by omega
          replace HR : Hid (R = (false, .item x wd, σ)) := by show _ = _; rw [HR.out, if_neg hw, if_pos (.inr ⟨rfl, hk0⟩)]
          go_wp2_with (go_at_call 54; refine (HBl.out u).mono ?_; rintro e u2 ⟨rfl, u3, rfl⟩)
          go_ret
          rw [HR.out]
          exact ⟨rfl, HDone.out u3⟩
        · have hk0' : ¬ (x.kids.len : Int) = 0 := by omega
          have hk0b : ((x.kids.len : Int) == 0) = false := by simpa using hk0'
          replace HR : Hid (R = (true, .item x wd, skipR (indR σ) σ)) := by show _ = _; rw [HR.out, if_neg hw, if_neg (by rintro (q | ⟨_, q⟩); cases q; exact hk0 q)]
          go_wp2_with (go_at_call 54; refine (HBl.out u).mono ?_; rintro e u2 ⟨rfl, u3, rfl⟩)
          refine region_tail (fun w' => ∃ u : BwW W1, w' = u.wo) 5 (by kernel_rfl) (by kernel_rfl) (BwW.drew u3) ?_
          simp only [List.take_succ_cons, List.take_zero]
          repeat (go_big_quiet_step ((go_at_call 34; exact HI.out _)))
          refine wpQuiet_nil ?_
          intro _ hw'
          obtain ⟨u5, hu5⟩ := hw'
          subst hu5
          simp only [List.drop_succ_cons, List.drop_zero]
          go_wp2_with (go_at_call 87; refine (HS.out u5 (indR σ) hind).mono ?_; rintro e w5 ⟨⟨z, rfl⟩, hg5⟩)
          go_ret
          rw [HR.out]
          exact ⟨rfl, hg5⟩
      · replace HR : Hid (R = (true, .item x wd, skipR (indR σ) σ)) := by show _ = _; rw [HR.out, if_neg hw, if_neg (by rintro (q | ⟨q, _⟩) <;> cases q)]
        go_wp2_with (go_at_call 54; refine (HBl.out u).mono ?_; rintro e u2 ⟨rfl, u3, rfl⟩)
        refine region_tail (fun w' => ∃ u : BwW W1, w' = u.wo) 5 (by kernel_rfl) (by kernel_rfl) (BwW.drew u3) ?_
        simp only [List.take_succ_cons, List.take_zero]
        repeat (go_big_quiet_step ((go_at_call 34; exact HI.out _)))
        refine wpQuiet_nil ?_
        intro _ hw'
        obtain ⟨u5, hu5⟩ := hw'
        subst hu5
        simp only [List.drop_succ_cons, List.drop_zero]
        go_wp2_with (go_at_call 87; refine (HS.out u5 (indR σ) hind).mono ?_; rintro e w5 ⟨⟨z, rfl⟩, hg5⟩)
        go_ret
        rw [HR.out]
        exact ⟨rfl, hg5⟩

theorem bgoes_doc {b c n : Nat} {σ : Pl} {w : World} {f : Bool} : Calls Tryz.prog 224 #[ptrV b, lnV c n, .bool f] w fun e w' => e = .returned (.bool true) ∧ Below w.heap.size w w' := by
  go_enter Tryz.func224, Tryz.ntmps224
  go_wp2
  go_ret
  exact ⟨rfl, (Below.refl _ _).alloc (Nat.le_refl _) _⟩
theorem bgoes_list {b c n : Nat} {σ : Pl} {w : World} {f : Bool} : Calls Tryz.prog 241 #[ptrV b, lnV c n, .bool f] w fun e w' => e = .returned (.bool true) ∧ Below w.heap.size w w' := by
  go_enter Tryz.func241, Tryz.ntmps241
  go_wp2
  go_ret
  exact ⟨rfl, (Below.refl _ _).alloc (Nat.le_refl _) _⟩

end Go.Proofs.YtcbojffcnlkejaaGreatDoor
