/- same: what two disks that are alike tell; walked. -/
import Derived.Test.YtmkgaegodemglaaDRef8b
import Derived.Test.YtmkgaegodemglaaDRef9
import Derived.Test.YtmkgaegodemglaaDRef10
set_option linter.unusedVariables false
namespace Go.Proofs.Ytmkgaegodemglaa
open Go.RowKit

abbrev upNames (d : Dk) : List Nm := if d.up = true then d.files.map (·.1) else []
abbrev OwnS (w : World) (B : Nat) (v : Value) (l : List Nm) : Prop := w.ownsRow B 9 1 v l.length (nmCells l)

set_option maxHeartbeats 1000000 in
theorem files_any {w : World} {b m : Nat} {S : Nat → Prop} {sl : Nm → Value} {ex : Option Nm} {d : Dk} (h : DkW w b m S sl ex d) :
    Calls Try.prog 35 #[dptr b] w fun e w' => ∃ v, e = .returned v ∧ OwnS w' w.heap.size v (upNames d) ∧ Below w.heap.size w w' := by
  have c3 := h.c3
  have hN := names_any h
  clear h
  unfold upNames
  cases hu : d.up with
  | false =>
    rw [hu] at c3
    rw [if_neg (by decide)]
    clear hN
    go_enter Try.func35, Try.ntmps35
    go_wp2
    go_ret
    exact ⟨_, rfl, ⟨rfl, .inl ⟨rfl, rfl⟩⟩, Below.refl _ _⟩
  | true =>
    rw [hu] at c3
    rw [if_pos rfl]
    have HN : Hid (Calls Try.prog 50 #[dptr b] w fun e w' => ∃ v, e = .returned v ∧ OwnS w' w.heap.size v (d.files.map (·.1)) ∧ Below w.heap.size w w') := hN.mono fun e w' ⟨v, h1, h2, h3⟩ => ⟨v, h1, by show w'.ownsRow _ _ _ _ (d.files.map (·.1)).length _; rw [List.length_map]; exact h2, h3⟩
    clear hN
    go_enter Try.func35, Try.ntmps35
    go_wp2_with (fail)
    refine HN.out.mono ?_
    intro e w1 hq
    obtain ⟨v, rfl, h1, h2⟩ := hq
    have H1 : Hid (OwnS w1 w.heap.size v (d.files.map (·.1))) := h1
    clear h1
    go_wp2_with (fail)
    go_ret
    refine ⟨_, rfl, ?_, h2⟩
    have := H1.out
    simpa [nmCells] using this

theorem OwnS.shape {w : World} {B : Nat} {v : Value} {l : List Nm} (h : OwnS w B v l) : ∃ a c, v = .slice a l.length c := by
  rcases h.2 with ⟨rfl, h0⟩ | ⟨g, cap, cur, rfl, _⟩
  · exact ⟨none, 0, by rw [h0]⟩
  · exact ⟨_, _, rfl⟩
theorem OwnS.at {w : World} {B : Nat} {a : Option Addr} {n c : Nat} {l : List Nm} (h : OwnS w B (.slice a n c) l) {i : Nat} {x : Nm} (hi : l[i]? = some x) : ∃ g, a = some ⟨g, 0, none⟩ ∧ B ≤ g ∧ w.cell? ⟨g, i, none⟩ = some (strN x) ∧ w.frozen? ⟨g, i, none⟩ = false := by
  have hlt := (List.getElem?_eq_some_iff.1 hi).1
  rcases h.2 with ⟨h1, h0⟩ | ⟨g, cap, cur, h1, hB, hg, hnc, hcm, hcs, hx⟩
  · omega
  · have e3 : a = some ⟨g, 0, none⟩ := congrArg (fun v => match v with | Value.slice a _ _ => a | _ => none) h1
    refine ⟨g, e3, hB, ?_, free_blk hg i⟩
    have e1 : n = l.length := congrArg (fun v => match v with | Value.slice _ n _ => n | _ => 0) h1
    subst e3 e1
    have := h.cells (g := g) rfl i (strN x) (by simp [nmCells, encStr, hi])
    rwa [show (⟨g, 0, none⟩ : Addr).add i = ⟨g, i, none⟩ from by unfold Addr.add; split <;> simp_all] at this
theorem OwnS.keep {w w' : World} {B : Nat} {v : Value} {l : List Nm} (h : OwnS w B v l) (hk : ∀ g, v.ownBlock = some g → w'.heap[g]? = w.heap[g]?) : OwnS w' B v l := row_keep h hk
theorem OwnS.below {w w' : World} {B : Nat} {v : Value} {l : List Nm} (h : OwnS w B v l) (hb : Below w.heap.size w w') : OwnS w' B v l := own_below h hb
theorem OwnS.lt {w : World} {B : Nat} {v : Value} {l : List Nm} (h : OwnS w B v l) {g : Nat} (hg : v.ownBlock = some g) : B ≤ g ∧ g < w.heap.size := by
  rcases h.2 with ⟨rfl, _⟩ | ⟨g', cap, cur, rfl, hB, hgg, _⟩
  · cases hg
  · simp [Value.ownBlock] at hg
    subst hg
    exact ⟨hB, lt_blk hgg⟩

/-- A disk, and the document's, alike. -/
structure PrD (w : World) (b m c : Nat) (S1 S2 : Nat → Prop) (d : Dk) : Prop where
  code : ∃ sl, DkW w b m S1 sl none d
  doc : ∃ fs l, RkW w c S2 fs l d
  apart : ∀ k, S1 k → ¬ S2 k
theorem PrD.below {w w' : World} {b m c : Nat} {S1 S2 : Nat → Prop} {d : Dk} (h : PrD w b m c S1 S2 d) (hb : Below w.heap.size w w') : PrD w' b m c S1 S2 d := by
  obtain ⟨sl, h1⟩ := h.code
  obtain ⟨fs, l, h2⟩ := h.doc
  exact ⟨⟨sl, h1.below hb⟩, ⟨fs, l, h2.below hb⟩, h.apart⟩

abbrev nNo : Nm := [110, 111, 32, 115, 117, 99, 104, 32, 102, 105, 108, 101]

set_option maxHeartbeats 4000000 in
set_option maxRecDepth 20000 in
theorem same_any {w : World} {b m c : Nat} {S1 S2 : Nat → Prop} {d : Dk} (h : PrD w b m c S1 S2 d) :
    Calls Try.prog 13 #[dptr b, dptr c] w fun e w' => e = .returned (.bool true) ∧ Below w.heap.size w w' := by
  have HP : Hid (PrD w b m c S1 S2 d) := h
  have hfew : (upNames d).length ≤ 1048576 := by
    obtain ⟨sl, h1⟩ := h.code
    have := h1.ok.few
    unfold upNames
    split
    · rw [List.length_map]; exact this
    · exact Nat.zero_le _
  have HNL : Hid (∀ n ∈ upNames d, n.length ≤ 140737488355328) := by
    obtain ⟨sl, h1⟩ := h.code
    intro n hn
    unfold upNames at hn
    split at hn
    · obtain ⟨p, hp, rfl⟩ := List.mem_map.1 hn
      exact h1.names p hp
    · cases hn
  clear h
  obtain ⟨L, hL⟩ : ∃ L, L = (upNames d).length := ⟨_, rfl⟩
  have HL : Hid (L = (upNames d).length) := hL
  rw [← hL] at hfew
  clear hL
  go_enter Try.func13, Try.ntmps13
  go_wp2_with (fail)
  obtain ⟨sl, hcode⟩ := HP.out.code
  refine (files_any hcode).mono ?_
  intro e w1 hq
  obtain ⟨vl, rfl, hq1, hq2⟩ := hq
  have H1 : Hid (OwnS w1 w.heap.size vl (upNames d)) := hq1
  have B1 : Hid (Below w.heap.size w w1) := hq2
  clear hq1 hq2 hcode
  go_wp2_with (fail)
  obtain ⟨fs, fl, hdoc⟩ := (HP.out.below B1.out).doc
  refine (rnames_any hdoc).mono ?_
  intro e w2 hq
  obtain ⟨vm, rfl, hq1, hq2⟩ := hq
  have H2 : Hid (OwnS w2 w1.heap.size vm (upNames d)) := hq1
  have H1b : Hid (OwnS w2 w.heap.size vl (upNames d)) := H1.out.below hq2
  have B2 : Hid (Below w.heap.size w w2) := B1.out.trans (hq2.mono B1.out.size)
  have HAp : Hid (∀ g, vl.ownBlock = some g → vm.ownBlock ≠ some g) := fun g hg hg2 => by
    have := (H1.out.lt hg).2
    have := (H2.out.lt hg2).1
    omega
  obtain ⟨al, cl, hvl⟩ := H1.out.shape
  obtain ⟨am, cm, hvm⟩ := H2.out.shape
  rw [← HL.out] at hvl hvm
  subst hvl hvm
  have HP2 : Hid (PrD w2 b m c S1 S2 d) := HP.out.below B2.out
  clear hq1 hq2 hdoc H1
  obtain ⟨sl2, hcode2⟩ := HP2.out.code
  obtain ⟨fs2, fl2, hdoc2⟩ := HP2.out.doc
  have g2 : ∀ j, (w2.drewN j).cell? ⟨c, 2, none⟩ = some (.bool d.up) := fun j => hdoc2.c2
  have g5 : ∀ j, (w2.drewN j).cell? ⟨c, 5, none⟩ = some (.int .i64 d.falls) := fun j => hdoc2.c5
  have QU : Hid (∀ j, Calls Try.prog 26 #[dptr b] (w2.drewN j) fun e w' => e = .returned (.bool d.up) ∧ ∃ m, w' = w2.drewN m) := fun j => (up_any (hcode2.drewN j)).mono fun e w' q => ⟨q.1, j, q.2⟩
  have QF : Hid (∀ j, Calls Try.prog 20 #[dptr b] (w2.drewN j) fun e w' => e = .returned (.int .i64 d.falls) ∧ ∃ m, w' = w2.drewN m) := fun j => (falls_any (hcode2.drewN j)).mono fun e w' q => ⟨q.1, j, q.2⟩
  obtain ⟨UU, hUU⟩ : ∃ UU : Int, (if d.up = true then (usedL d.files : Int) else 0) = UU := ⟨_, rfl⟩
  have QS : Hid (∀ j, Calls Try.prog 24 #[dptr b] (w2.drewN j) fun e w' => e = .returned (.int .i64 UU) ∧ ∃ m, w' = w2.drewN m) := fun j => (used_any (hcode2.drewN j)).mono fun e w' q => ⟨by rw [q.1, hUU], j, q.2⟩
  have QR : Hid (∀ j, Calls Try.prog 37 #[dptr c] (w2.drewN j) fun e w' => e = .returned (.int .i64 UU) ∧ ∃ m, w' = w2.drewN m) := fun j => (rused_any (hdoc2.drewN j)).mono fun e w' q => ⟨by rw [q.1, hUU], j, q.2⟩
  clear hcode2 hdoc2 hUU
  go_wp2_with (fail)
  go_quiet (first | (go_at_call 26; exact QU.out _) | (go_at_call 20; exact QF.out _) | (go_at_call 24; exact QS.out _) | (go_at_call 37; exact QR.out _))
  clear QU QF QS QR g2 g5
  go_wp2_with (fail)
  go_loopw [7] (fun i wr => ∃ (k : Nat) (done : List Nm), i = .int .i64 (k : Int) ∧ k ≤ L ∧ Hid (OwnS wr w.heap.size (.slice al L cl) (done ++ (upNames d).drop k) ∧ done.length = k) ∧ Hid (OwnS wr w1.heap.size (.slice am L cm) (upNames d)) ∧ Hid (Below w.heap.size w wr)) (fun i _ => L - (intOf i).toNat)
  case atStart => exact ⟨0, [], rfl, Nat.zero_le _, ⟨by rw [List.nil_append, List.drop_zero]; exact H1b.out, rfl⟩, H2.out, below_drewN B2.out _⟩
  case round =>
    obtain ⟨k, done, rfl, hk, HO1, HO2, HB⟩ := hrel
    obtain ⟨wo, hwo⟩ : ∃ wo, wo = wr := ⟨_, rfl⟩
    subst hwo
    obtain ⟨slr, hcr⟩ := (HP.out.below HB.out).code
    obtain ⟨fsr, flr, hdr⟩ := (HP.out.below HB.out).doc
    have HCr : Hid (DkW wo b m S1 slr none d) := hcr
    have HDr : Hid (RkW wo c S2 fsr flr d) := hdr
    clear hcr hdr
    by_cases hlt : k < L
    · have dlt : decide ((k : Int) < (L : Int)) = true := by simpa using hlt
      have hlt' : (k : Int) < (L : Int) := by omega
      obtain ⟨nm, hnm⟩ : ∃ nm, (upNames d)[k]? = some nm := ⟨_, List.getElem?_eq_getElem (by rw [← HL.out]; exact hlt)⟩
      have hnm1 : (done ++ (upNames d).drop k)[k]? = some nm := by
        rw [List.getElem?_append_right (by rw [HO1.out.2]; exact Nat.le_refl _), HO1.out.2, List.getElem?_drop]
        simpa using hnm
      obtain ⟨gl, hal, hglB, l0, lf⟩ := HO1.out.1.at hnm1
      obtain ⟨gm, ham, hgmB, m0, _⟩ := HO2.out.at hnm
      subst hal ham
      have hne : gl ≠ gm := fun e => HAp.out gl rfl (by rw [e]; rfl)
      have HNm : Hid (nm.length ≤ 140737488355328) := HNL.out nm (List.mem_of_getElem? hnm)
      have HGL : Hid (gl ≠ gm ∧ w.heap.size ≤ gl ∧ gl < wo.heap.size ∧ gm < wo.heap.size) := ⟨hne, hglB, (HO1.out.1.lt rfl).2, (HO2.out.lt rfl).2⟩
      have HNk : Hid ((upNames d)[k]? = some nm) := hnm
      clear hnm hnm1 hne hglB hgmB
      go_wp2_with (fail)
      refine (read_any HCr.out nm HNm.out).mono ?_
      intro e w4 hq
      obtain ⟨vb, rfl, hq1, hq2⟩ := hq
      obtain ⟨BS, hBS⟩ : ∃ BS, (theF d nm).bs = BS := ⟨_, rfl⟩
      rw [hBS] at hq1
      obtain ⟨ab, cb, hvb⟩ := own_slice hq1
      obtain ⟨BL, hBL⟩ : ∃ BL, BL = BS.length := ⟨_, rfl⟩
      rw [← hBL] at hvb
      subst hvb
      have H4 : Hid (OwnB w4 wo.heap.size (.slice ab BL cb) BS) := hq1
      have HBL : Hid (BL = BS.length) := hBL
      have B4 : Hid (Below wo.heap.size wo w4) := hq2
      have HD4 : Hid (RkW w4 c S2 fsr flr d) := HDr.out.below hq2
      have jbl : (BL : Int) ≤ 140737488355328 := by
        have : (theF d nm).bs.length ≤ 140737488355328 := by
          obtain ⟨a', c', _, _, _, _, q⟩ := HCr.out.found nm
          exact q
        rw [hBS] at this
        omega
      have m4 : w4.cell? ⟨gm, k, none⟩ = some (strN nm) := (hq2.cell (p := ⟨gm, k, none⟩) HGL.out.2.2.2).trans m0
      have l4 : w4.cell? ⟨gl, k, none⟩ = some (strN nm) := (hq2.cell (p := ⟨gl, k, none⟩) HGL.out.2.2.1).trans l0
      have e4 : ∀ j, (convert 29 9 (.slice ab BL cb)).run Try.prog (w4.drewN j) = .ok (.string ⟨BS.toArray⟩) (w4.drewN j) := fun j => own_string (w := w4.drewN j) (B := wo.heap.size) (l := BS) hq1
      have m4q : ∀ j, (w4.drewN j).cell? ⟨gm, k, none⟩ = some (strN nm) := fun j => m4
      have l4q : ∀ j, (w4.drewN j).cell? ⟨gl, k, none⟩ = some (strN nm) := fun j => l4
      have HRd : Hid (Calls Try.prog 38 #[dptr c, strN nm] w4 fun e w' => e = .returned (.tuple #[.string ⟨BS.toArray⟩, .int .i64 (findV d nm : Int)]) ∧ w' = w4) := by have := rread_any HD4.out nm; rw [hBS] at this; exact this
      generalize findV d nm = E4 at *
      clear hq1 hq2 hBL hBS m0 l0 lf
      go_wp2_with (fail)
      refine HRd.out.mono ?_
      rintro e w5 ⟨rfl, hw⟩
      subst w5
      go_wp2_with (fail)
      go_quiet (fail)
      clear m4q l4q e4 m4 l4
      go_wp2_with (fail)
      go_loopw [12] (fun i wr => ∃ (j : Nat) (lst : List UInt8), i = .int .i64 (j : Int) ∧ j ≤ BL ∧ Hid (lst.length = BL ∧ OwnB wr wo.heap.size (.slice ab BL cb) lst) ∧ Hid (Below wo.heap.size wo wr)) (fun i _ => BL - (intOf i).toNat)
      case atStart => exact ⟨0, BS, rfl, Nat.zero_le _, ⟨HBL.out.symm, H4.out⟩, below_drewN B4.out _⟩
      case round =>
        obtain ⟨j, lst, rfl, hj, HOb, HBj⟩ := hrel
        by_cases hjl : j < BL
        · have dj : decide ((j : Int) < (BL : Int)) = true := by simpa using hjl
          have hjl' : (j : Int) < (BL : Int) := by omega
          obtain ⟨gb, hab, hgB, hcell, hfz⟩ : ∃ gb, ab = some ⟨gb, 0, none⟩ ∧ wo.heap.size ≤ gb ∧ (∃ u, wr.cell? ⟨gb, j, none⟩ = some u) ∧ wr.frozen? ⟨gb, j, none⟩ = false := by
            have h1 := HOb.out.1
            have h2 := HOb.out.2
            rcases h2.2 with ⟨e, h0⟩ | ⟨g, cap, cur, e, hB, hg, hnc, hcm, hcs, hx⟩
            · omega
            · have e3 : ab = some ⟨g, 0, none⟩ := congrArg (fun v => match v with | Value.slice a _ _ => a | _ => none) e
              refine ⟨g, e3, hB, ⟨cur[j]'(by omega), cell_blk hg (Array.getElem?_eq_getElem (by omega))⟩, free_blk hg j⟩
          obtain ⟨u0, hcell⟩ := hcell
          subst hab
          have HNext : Hid ((lst.set j 9).length = BL ∧ OwnB (wr.setCell ⟨gb, j, none⟩ (.int .u8 9)) wo.heap.size (.slice (some ⟨gb, 0, none⟩) BL cb) (lst.set j 9)) := by
            refine ⟨by rw [List.length_set]; exact HOb.out.1, ?_⟩
            have h2 := HOb.out.2
            rw [← HOb.out.1] at h2
            have := (World.ownsRow.stored h2 j (.int .u8 9)).1
            rw [← HOb.out.1]
            show World.ownsRow _ _ _ _ _ (lst.set j 9).length _
            rw [List.length_set]
            have e : Lib.byteCells (lst.set j 9) = (Lib.byteCells lst).set j (.int .u8 9) := by simp [Lib.byteCells, List.map_set]
            rw [e]
            exact this
          have HBn : Hid (Below wo.heap.size wo (wr.setCell ⟨gb, j, none⟩ (.int .u8 9))) := by
            refine ⟨HBj.out.os, HBj.out.tape, HBj.out.output, by rw [set_size]; exact HBj.out.size, fun q hq => ?_⟩
            rw [set_other _ (by omega)]
            exact HBj.out.block q hq
          clear HOb HBj
          go_wp2_with (fail)
          go_roundw
          case rel => exact ⟨j + 1, lst.set j 9, by go_num, by omega, HNext, HBn⟩
          case measure => simp [intOf]; omega
        · have dj : decide ((j : Int) < (BL : Int)) = false := by simpa using hjl
          have hjl' : ¬ (j : Int) < (BL : Int) := by omega
          have HO1r : Hid (OwnS wr w.heap.size (.slice (some ⟨gl, 0, none⟩) L cl) (done ++ (upNames d).drop k)) := HO1.out.1.below HBj.out
          have HO2r : Hid (OwnS wr w1.heap.size (.slice (some ⟨gm, 0, none⟩) L cm) (upNames d)) := HO2.out.below HBj.out
          have hnm1 : (done ++ (upNames d).drop k)[k]? = some nm := by
            rw [List.getElem?_append_right (by rw [HO1.out.2]; exact Nat.le_refl _), HO1.out.2, List.getElem?_drop]
            simpa using HNk.out
          obtain ⟨g', ha', _, lq, lf⟩ := HO1r.out.at hnm1
          have eg : gl = g' := by have := Option.some.inj ha'; exact congrArg Addr.block this
          subst eg
          have HN1 : Hid (OwnS (wr.setCell ⟨gl, k, none⟩ (strN [63])) w.heap.size (.slice (some ⟨gl, 0, none⟩) L cl) ((done ++ [[63]]) ++ (upNames d).drop (k + 1)) ∧ (done ++ [[63]]).length = k + 1) := by
            refine ⟨?_, by rw [List.length_append, HO1.out.2]; rfl⟩
            have hdl := HO1.out.2
            have hdk : (upNames d).drop k = nm :: (upNames d).drop (k + 1) := by
              obtain ⟨hx, he⟩ := List.getElem?_eq_some_iff.1 HNk.out
              rw [List.drop_eq_getElem_cons hx, he]
            have e1 : (done ++ [[63]]) ++ (upNames d).drop (k + 1) = (done ++ (upNames d).drop k).set k [63] := by
              rw [hdk, List.set_append_right _ _ (by omega), hdl, Nat.sub_self, List.set_cons_zero, List.append_assoc]
              rfl
            rw [e1]
            have hlen : (done ++ (upNames d).drop k).length = L := by rw [List.length_append, List.length_drop, hdl, HL.out]; have := HL.out; omega
            have h2 : wr.ownsRow w.heap.size 9 1 (.slice (some ⟨gl, 0, none⟩) L cl) L (nmCells (done ++ (upNames d).drop k)) := by have := HO1r.out; unfold OwnS at this; rw [hlen] at this; exact this
            have := (World.ownsRow.stored h2 k (strN [63])).1
            show World.ownsRow _ _ _ _ _ ((done ++ (upNames d).drop k).set k [63]).length _
            rw [List.length_set, hlen]
            have e : nmCells ((done ++ (upNames d).drop k).set k [63]) = (nmCells (done ++ (upNames d).drop k)).set k (strN [63]) := by simp [nmCells, encStr, List.map_set]
            rw [e]
            exact this
          have HN2 : Hid (OwnS (wr.setCell ⟨gl, k, none⟩ (strN [63])) w1.heap.size (.slice (some ⟨gm, 0, none⟩) L cm) (upNames d)) := HO2r.out.keep (fun q hq => set_other _ (by simp [Value.ownBlock] at hq; subst hq; exact Ne.symm HGL.out.1))
          have HN3 : Hid (Below w.heap.size w (wr.setCell ⟨gl, k, none⟩ (strN [63]))) := by
            have q := HB.out.trans (HBj.out.mono HB.out.size)
            refine ⟨q.os, q.tape, q.output, by rw [set_size]; exact q.size, fun x hx => ?_⟩
            rw [set_other _ (by have := HGL.out.2.1; omega)]
            exact q.block x hx
          clear HOb HBj ha' hnm1 HO1r HO2r HO1 HO2 HB HCr HDr HD4 B4 H4
          go_wp2_with (fail)
          go_roundw
          case rel => exact ⟨k + 1, done ++ [[63]], by go_num, by omega, HN1, HN2, HN3⟩
          case measure => simp [intOf]; omega
    · have dlt : decide ((k : Int) < (L : Int)) = false := by simpa using hlt
      have hlt' : ¬ (k : Int) < (L : Int) := by omega
      go_wp2_with (fail)
      refine (read_any HCr.out nNo (by decide)).mono ?_
      intro e w4 hq
      obtain ⟨vb, rfl, hq1, hq2⟩ := hq
      have B4 : Hid (Below w.heap.size w w4) := HB.out.trans (hq2.mono HB.out.size)
      have HD4 : Hid (RkW w4 c S2 fsr flr d) := HDr.out.below hq2
      clear hq1 hq2
      go_wp2_with (fail)
      refine (rread_any HD4.out nNo).mono ?_
      rintro e w5 ⟨rfl, hw⟩
      subst w5
      generalize findV d nNo = E9
      go_wp2_with (fail)
      go_ret
      exact ⟨by first | rfl | (refine ret_bool ?_; simp), B4.out⟩
end Go.Proofs.Ytmkgaegodemglaa
