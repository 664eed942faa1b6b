/- Several texts in one. -/
import Derived.Test.YtcbojffcnlkejaaGreatDoorG45
set_option linter.unusedVariables false
/- What becomes of a line on which nothing began. -/
namespace Go.Proofs.YtcbojffcnlkejaaGreatDoor
open Go.RowKit
open cur (cell_blk free_blk set_blk blk_below Cur cptr Oth)

theorem bulk_append : ∀ a b : List Str, bulkL (a ++ b) = bulkL a + bulkL b
  | [], b => by simp [bulkL]
  | x :: a, b => by simp only [List.cons_append, bulkL, bulk_append a b]; omega

/-- What a Para of one line weighs. -/
abbrev rowM (t : Str) : Nat := 3 * (t.length + 1) + 1

set_option maxHeartbeats 4000000 in
theorem btext_blank {w : World} {r c n : Nat} {own : Nat → Nat} {B : Nat} {s : St} {σ : Pl} (h : Good w r own B s) (hB : B ≤ 549755813888) (hon : 1 ≤ s.on) (hC : Cur w c σ) (hc : own c = 0) (hbl : blankB σ = true) :
    Calls Tryz.prog 29 #[ptrV r, lnV c n] w fun e w' => e = .returned (.tuple #[]) ∧ LeftC w r own c (B + rowM (beh σ.1)) s.clear σ w' := by
  have hli := line_blk c n w
  have HB1 : Hid (Below w.heap.size w (w.alloc (.cells #[cptr c, .int .i64 (n : Int)] 63))) := (Below.refl _ _).alloc (Nat.le_refl _) _
  generalize hW : w.alloc (.cells #[cptr c, .int .i64 (n : Int)] 63) = W1 at hli HB1
  have hC1 := hC.below HB1.out
  have l0 := cell_blk hli (i := 0) rfl
  simp only [List.getElem_toArray, List.getElem_cons_zero] at l0
  have HBl : Hid (Calls Tryz.prog 54 #[cptr c] W1 fun e w' => e = .returned (.bool (blankB σ)) ∧ ∃ k, w' = W1.drewN k) := cur.blank_any hC1
  have HCl : Hid (∀ m, Calls Tryz.prog 55 #[ptrV r] (W1.drewN m) fun e w' => e = .returned (.tuple #[]) ∧ LeftC w r own c (B + rowM (beh σ.1)) s.clear σ w') := fun m => (bclear_any ((h.clip).below (cur.below_drewN HB1.out m)) hB hon).mono fun _ w' q => ⟨q.1, by
    obtain ⟨own', q1, q2, q3⟩ := LeftC.of (cur.below_drewN HB1.out m) q.2 hC hc
    exact ⟨own', q1.more (Nat.le_add_right _ _), q2, q3⟩⟩
  rw [hbl] at HBl
  clear hli h hC hC1
  generalize hlbe : w.heap.size = lb at *
  go_enter Tryz.func29, Tryz.ntmps29
  go_wp2_with (first
    | (go_at_call 54; refine HBl.out.mono ?_; rintro e u ⟨rfl, m, rfl⟩)
    | (go_at_call 55; refine (HCl.out m).mono ?_; rintro e u2 ⟨rfl, hL⟩))
  (try simp only [Exit.inBlock, Exit.then]); refine bodyPost_ret (results_none rfl _ _ _) rfl ?_
  exact ⟨rfl, hL⟩

set_option maxHeartbeats 4000000 in
theorem btext_para {w : World} {r c n : Nat} {own : Nat → Nat} {B : Nat} {s : St} {σ : Pl} (h : Good w r own B s) (hB : B ≤ 549755813888) (hC : Cur w c σ) (hc : own c = 0) (hn : n ≤ B) (hbl : blankB σ = false) {x : Body} {lv : Nat} (hlast : s.opens.getLast? = some (.para x lv)) :
    Calls Tryz.prog 29 #[ptrV r, lnV c n] w fun e w' => e = .returned (.tuple #[]) ∧ LeftC w r own c (B + rowM (beh σ.1)) { s with opens := s.opens.dropLast ++ [.para (x.add n (beh σ.1)) lv] } σ w' := by
  have hli := line_blk c n w
  have HB1 : Hid (Below w.heap.size w (w.alloc (.cells #[cptr c, .int .i64 (n : Int)] 63))) := (Below.refl _ _).alloc (Nat.le_refl _) _
  generalize hW : w.alloc (.cells #[cptr c, .int .i64 (n : Int)] 63) = W1 at hli HB1
  have hC1 := hC.below HB1.out
  have l0 := cell_blk hli (i := 0) rfl
  have l02 := fun u : BwW W1 => cell_blk (u.blk hli) (i := 0) rfl
  have l12 := fun u : BwW W1 => cell_blk (u.blk hli) (i := 1) rfl
  simp only [List.getElem_toArray, List.getElem_cons_zero, List.getElem_cons_succ] at l0 l02 l12
  have HBl : Hid (Calls Tryz.prog 54 #[cptr c] W1 fun e w' => e = .returned (.bool (blankB σ)) ∧ ∃ k, w' = W1.drewN k) := cur.blank_any hC1
  have HBe : Hid (∀ u : BwW W1, Calls Tryz.prog 39 #[cptr c] u.wo fun e w' => e = .returned (.string ⟨(beh σ.1).toArray⟩) ∧ ∃ u' : BwW W1, w' = u'.wo) := fun u => (cur.behind_any (hC1.below u.is)).mono fun _ w' q => ⟨q.1, by obtain ⟨m, e⟩ := q.2; exact ⟨BwW.of (w := u.wo.drewN m) (u.is.trans ⟨rfl, rfl, rfl, Nat.le_refl _, fun _ _ => rfl⟩), e⟩⟩
  obtain ⟨N, ⟨bs, vo, vd, vm, hR⟩, hWf⟩ := h
  obtain ⟨k, p, hk, hp, hl'⟩ := hWf.last
  rw [hlast] at hl'
  cases hl'
  obtain ⟨b, hb, hPo, v, hPb, hPv⟩ := hR.at hp
  have hlen := hWf.len
  have HI : Hid (∀ m, Calls Tryz.prog 23 #[ptrV r] (W1.drewN m) fun e w' => e = .returned (.iface 111 (ptrV b)) ∧ ∃ k, w' = W1.drewN k) := fun m => (binner_any (p := .para x lv) (hR.keeps (fun g hg _ => (cur.below_drewN HB1.out m).block g hg)) hk hp hb (by omega)).mono fun _ w' ⟨q, k, e⟩ => ⟨q, m + k, by rw [e, drew_add]⟩
  have ta : ∀ w, (Instr.typeAssert (.iface 111 (ptrV b)) 66 111 true).run Tryz.prog w = .ok (.tuple #[ptrV b, .bool true]) w := fun w => as_para (.para x lv) b w
  have hbc : b ≠ c := fun e => by rw [e] at hPo; have : own c = 2 * k + 2 := hPo; omega
  have hgc : ∀ g, v.ownBlock = some g → g ≠ c := fun g hg e => by have : own g = 2 * k + 2 := hPv.2 g hg; rw [e, hc] at this; omega
  have hz : x.rows.length ≤ 549755813888 := by have h1 := (hWf.okp hp).2.2.1; have h2 := rows_len x.rows; have h3 : bulkL x.rows ≤ B := h1; omega
  have HAd : Hid (∀ u : BwW W1, Calls Tryz.prog 56 #[ptrV b, lnV c n, strV (beh σ.1)] u.wo fun e w' => e = .returned (.tuple #[]) ∧ LeftC w r own c (B + rowM (beh σ.1)) { s with opens := s.opens.dropLast ++ [.para (x.add n (beh σ.1)) lv] } σ w') := fun u => by
    have hbu : Below w.heap.size w u.wo := HB1.out.trans (u.is.mono HB1.out.size)
    refine (brow_any (x := x) (v := v) (ex := [.int .i64 (lv : Int)]) (t := 115) (blk_below hPb hbu) (row_below hPv.1 hbu) (by decide) (by omega) (beh σ.1)).mono ?_
    rintro e w' ⟨rfl, v', y1, y2, y3, y4⟩
    have hF : Fr (fun g => g = b ∨ v.ownBlock = some g ∨ g = c) w w' := (Fr.of_below hbu).trans (y4.mono (fun k q => q.elim .inl (fun q => .inr (.inl q))))
    obtain ⟨own', q1, q2⟩ := rows_rep (c := c) (p' := .para (x.add n (beh σ.1)) lv) hR hp hb rfl (v := v) (v' := v') hPo (lt_of_block hPb) (fun g hg => hPv.2 g hg) hc y1 (fun A S q => ⟨y2, q⟩) (fun g hg => (y3 g hg).imp id (fun q => Nat.le_trans hbu.size q)) hF
    have hW2 := wf_set (k := rowM (beh σ.1)) (p' := .para (x.add n (beh σ.1)) lv) hWf hp (by have := hWf.two hlast rfl; omega) rfl rfl rfl ⟨by have := (hWf.ext _ _ hp).1; have : x.first ≤ B := this; show x.first ≤ _; omega, by show n ≤ _; omega, trivial⟩ (by
      show 3 * bulkL (x.rows ++ [beh σ.1]) + 0 + 1 ≤ 3 * bulkL x.rows + 0 + 1 + _
      rw [bulk_append]
      show 3 * (bulkL x.rows + ((beh σ.1).length + 1 + 0)) + 0 + 1 ≤ 3 * bulkL x.rows + 0 + 1 + (3 * ((beh σ.1).length + 1) + 1)
      omega)
    rw [set_last hk] at q1 hW2
    refine ⟨rfl, own', ⟨N, ⟨bs, vo, vd, vm, q1⟩, hW2⟩, cur_fr (hC.below hbu) y4 ?_, q2⟩
    rintro (q | q)
    · exact hbc q.symm
    · exact hgc c q rfl
  rw [hbl] at HBl
  clear hli hC hC1 hR hWf hp hb hPo hPb hPv hlen hbc hgc hz hlast hk
  generalize hlbe : w.heap.size = lb at *
  go_enter Tryz.func29, Tryz.ntmps29
  go_wp2_with (first
    | (go_at_call 54; refine HBl.out.mono ?_; rintro e u ⟨rfl, m, rfl⟩)
    | (go_at_call 23; refine (HI.out m).mono ?_; rintro e u2 ⟨rfl, k2, rfl⟩))
  refine region_tail (fun w' => ∃ uu : BwW W1, w' = uu.wo) 7 (by kernel_rfl) (by kernel_rfl) ⟨BwW.of (w := (W1.drewN k2).drew) ⟨rfl, rfl, rfl, Nat.le_refl _, fun _ _ => rfl⟩, rfl⟩ ?_
  haveI := BwW.some W1
  simp only [List.take_succ_cons, List.take_zero]
  repeat (go_big_quiet_step ((go_at_call 39; exact HBe.out _)))
  refine wpQuiet_nil ?_
  intro _ hw'
  obtain ⟨u5, hu5⟩ := hw'
  subst hu5
  simp only [List.drop_succ_cons, List.drop_zero]
  go_wp2_with (go_at_call 56; refine (HAd.out u5).mono ?_; rintro e w5 ⟨rfl, hL⟩)
  (try simp only [Exit.inBlock, Exit.then]); refine bodyPost_ret (results_none rfl _ _ _) rfl ?_
  exact ⟨rfl, hL⟩

theorem binner_goodB {w : World} {r : Nat} {own : Nat → Nat} {B : Nat} {s : St} (h : Good w r own B s) (hB : B ≤ 549755813888) : ∃ q bq, s.opens.getLast? = some q ∧ ∀ u, Below w.heap.size w u → Calls Tryz.prog 23 #[ptrV r] u fun e w' => e = .returned (.iface (partP q) (ptrV bq)) ∧ ∃ m, w' = u.drewN m := by
  obtain ⟨N, ⟨bs, vo, vd, vm, hR⟩, hW⟩ := h
  obtain ⟨n, p, hn, hp, hl⟩ := hW.last
  obtain ⟨b, hb, _⟩ := hR.at hp
  have := hW.len
  exact ⟨p, b, hl, fun u hu => binner_any (hR.keeps fun g hg _ => hu.block g hg) hn hp hb (by omega)⟩

set_option maxHeartbeats 4000000 in
theorem btext_new {w : World} {r c n : Nat} {own : Nat → Nat} {B : Nat} {s : St} {σ : Pl} (h : Good w r own B s) (hB : B ≤ 549755813888) (hon : 1 ≤ s.on) (hl : LeafLeft s) (hC : Cur w c σ) (hc : own c = 0) (hn : n ≤ B) (hbl : blankB σ = false) (hpa : s.hasPara = false) :
    Calls Tryz.prog 29 #[ptrV r, lnV c n] w fun e w' => e = .returned (.tuple #[]) ∧ LeftC w r own c (B + rowM (beh σ.1)) (s.stand (.para (Body.add { first := n, last := n } n (beh σ.1)) 0)) σ w' := by
  have hli := line_blk c n w
  have HB1 : Hid (Below w.heap.size w (w.alloc (.cells #[cptr c, .int .i64 (n : Int)] 63))) := (Below.refl _ _).alloc (Nat.le_refl _) _
  generalize hW : w.alloc (.cells #[cptr c, .int .i64 (n : Int)] 63) = W1 at hli HB1
  have hC1 := hC.below HB1.out
  have l0 := cell_blk hli (i := 0) rfl
  have l02 := fun m : Nat => cell_blk (w := W1.drewN m) hli (i := 0) rfl
  have l12 := fun m : Nat => cell_blk (w := W1.drewN m) hli (i := 1) rfl
  simp only [List.getElem_toArray, List.getElem_cons_zero, List.getElem_cons_succ] at l0 l02 l12
  have HBl : Hid (Calls Tryz.prog 54 #[cptr c] W1 fun e w' => e = .returned (.bool (blankB σ)) ∧ ∃ k, w' = W1.drewN k) := cur.blank_any hC1
  obtain ⟨q, bq, hq, hI⟩ := binner_goodB h hB
  have hqP : q.isPara = false := by
    unfold St.hasPara at hpa
    rw [hq] at hpa
    exact hpa
  have HI : Hid (∀ m, Calls Tryz.prog 23 #[ptrV r] (W1.drewN m) fun e w' => e = .returned (.iface (partP q) (ptrV bq)) ∧ ∃ k, w' = W1.drewN k) := fun m => (hI _ (cur.below_drewN HB1.out m)).mono fun _ w' ⟨q, k, e⟩ => ⟨q, m + k, by rw [e, drew_add]⟩
  have ta : ∀ w, (Instr.typeAssert (.iface (partP q) (ptrV bq)) 66 111 true).run Tryz.prog w = .ok (.tuple #[.pointer none, .bool false]) w := fun w => by
    have := as_para q bq w
    rw [hqP] at this
    exact this
  have HBd : Hid (∀ m, Calls Tryz.prog 44 #[lnV c n] (W1.drewN m) fun e w' => e = .returned (.agg #[.int .i64 (n : Int), .int .i64 (n : Int), .slice none 0 0]) ∧ Below w.heap.size w w' ∧ w'.heap[w.heap.size]? = some (.cells #[cptr c, .int .i64 (n : Int)] 63 (0, 0))) := fun m => (bbody_any c n (W1.drewN m)).mono fun _ u ⟨q, hu⟩ => ⟨q, (cur.below_drewN HB1.out m).trans (hu.mono HB1.out.size), blk_below (w := W1.drewN m) hli hu⟩
  have HBe : Hid (∀ (W : World), Below w.heap.size w W → ∀ u : BwW W, Calls Tryz.prog 39 #[cptr c] u.wo fun e w' => e = .returned (.string ⟨(beh σ.1).toArray⟩) ∧ ∃ u' : BwW W, w' = u'.wo) := fun W hW u => (cur.behind_any (hC.below (hW.trans (u.is.mono hW.size)))).mono fun _ w' q => ⟨q.1, by obtain ⟨m, e⟩ := q.2; exact ⟨BwW.of (w := u.wo.drewN m) (u.is.trans ⟨rfl, rfl, rfl, Nat.le_refl _, fun _ _ => rfl⟩), e⟩⟩
  have HAd : Hid (∀ u, Below w.heap.size w u → ∀ uu : BwW (u.alloc (.cells #[.int .i64 (n : Int), .int .i64 (n : Int), .slice none 0 0, .int .i64 0] 115)), Calls Tryz.prog 56 #[ptrV u.heap.size, lnV c n, strV (beh σ.1)] uu.wo fun e w' => e = .returned (.tuple #[]) ∧ Calls Tryz.prog 43 #[ptrV r, .iface 111 (ptrV u.heap.size)] w' fun e w' => e = .returned (.tuple #[]) ∧ LeftC w r own c (B + rowM (beh σ.1)) (s.stand (.para (Body.add { first := n, last := n } n (beh σ.1)) 0)) σ w') := fun u hu uu => by
    have hb2 := hu.alloc hu.size (.cells #[.int .i64 (n : Int), .int .i64 (n : Int), .slice none 0 0, .int .i64 0] 115)
    have hb3 := hb2.trans (uu.is.mono hb2.size)
    have hne : u.heap.size ≠ c := by have := hC.lt; have := hu.size; omega
    refine (brow_any (x := { first := n, last := n }) (v := .slice none 0 0) (ex := [.int .i64 0]) (t := 115) (uu.blk (new_blk u _ _)) (World.ownsRow_nil _ _ _ _) (by decide) (Nat.zero_le _) (beh σ.1)).mono ?_
    rintro e w' ⟨rfl, v', q1, q2, q3, q4⟩
    refine ⟨rfl, ?_⟩
    have hF : Fr (fun g => g = c) w w' := (Fr.of_below hb3).trans' q4 (fun i hi q => by
      rcases q with q | q
      · have := hu.size
        omega
      · cases q)
    have hC' : Cur w' c σ := cur_fr (hC.below hb3) q4 (by
      rintro (q | q)
      · exact hne q.symm
      · cases q)
    refine bstand_body (v := v') (p := .para (Body.add { first := n, last := n } n (beh σ.1)) 0) h hB hon hl hF hc hC' q1 hu.size (fun g hg => ⟨?_, (World.ownsRow.lt q2 g hg).2⟩) ⟨q2, fun g hg => .inr hg⟩ rfl ⟨hn, hn, trivial⟩
    rcases q3 g hg with q | q
    · cases q
    · have := hb3.size
      omega
  rw [hbl] at HBl
  clear hli h hl hC hC1 hq hI hqP hpa
  generalize partP q = TQ at *
  generalize hlbe : w.heap.size = lb at *
  go_enter Tryz.func29, Tryz.ntmps29
  go_wp2_with (first
    | (go_at_call 54; refine HBl.out.mono ?_; rintro e u ⟨rfl, m, rfl⟩)
    | (go_at_call 23; refine (HI.out m).mono ?_; rintro e u2 ⟨rfl, k2, rfl⟩)
    | (go_at_call 44; refine (HBd.out k2).mono ?_; rintro e u ⟨rfl, hu, hlu⟩))
  have HU : Hid (Below lb w u) := hu
  have hlu2 := blk_below hlu ((Below.refl u.heap.size u).alloc (Nat.le_refl _) (.cells #[.int .i64 (n : Int), .int .i64 (n : Int), .slice none 0 0, .int .i64 0] 115))
  have HBU : Hid (Below lb w (u.alloc (.cells #[.int .i64 (n : Int), .int .i64 (n : Int), .slice none 0 0, .int .i64 0] 115))) := hu.alloc (hlbe ▸ hu.size) _
  have HA := (show Hid _ from HAd.out u hu)
  clear HAd
  generalize hUb : u.heap.size = ub at *
  generalize hUU : u.alloc (.cells #[.int .i64 (n : Int), .int .i64 (n : Int), .slice none 0 0, .int .i64 0] 115) = U at *
  have m0 := fun uu : BwW U => cell_blk (uu.blk hlu2) (i := 0) rfl
  have m1 := fun uu : BwW U => cell_blk (uu.blk hlu2) (i := 1) rfl
  simp only [List.getElem_toArray, List.getElem_cons_zero, List.getElem_cons_succ] at m0 m1
  have HBE := (show Hid _ from HBe.out U HBU.out)
  clear hu hlu hlu2
  refine region_tail (fun w' => ∃ uu : BwW U, w' = uu.wo) 7 (by kernel_rfl) (by kernel_rfl) (BwW.first U) ?_
  haveI := BwW.some U
  simp only [List.take_succ_cons, List.take_zero]
  repeat (go_big_quiet_step ((go_at_call 39; exact HBE.out _)))
  refine wpQuiet_nil ?_
  intro _ hw'
  obtain ⟨u5, hu5⟩ := hw'
  subst hu5
  simp only [List.drop_succ_cons, List.drop_zero]
  go_wp2_with (first
    | (go_at_call 56; refine Calls.mono (HA.out u5) ?_; rintro e w5 ⟨rfl, hS⟩; have HS := (show Hid _ from hS); clear hS)
    | (go_at_call 43; refine Calls.mono HS.out ?_; rintro e w6 ⟨rfl, hL⟩))
  go_end0
  exact ⟨rfl, hL⟩

theorem btext_any {w : World} {r c n : Nat} {own : Nat → Nat} {B : Nat} {s : St} {σ : Pl} (h : Good w r own B s) (hB : B ≤ 549755813888) (hon : 1 ≤ s.on) (hl : LeafLeft s) (hC : Cur w c σ) (hc : own c = 0) (hn : n ≤ B) :
    Calls Tryz.prog 29 #[ptrV r, lnV c n] w fun e w' => e = .returned (.tuple #[]) ∧ LeftC w r own c (B + rowM (beh σ.1)) (s.text n σ) σ w' := by
  unfold St.text
  cases hbl : blankB σ
  · rw [if_neg (by decide)]
    split
    · rename_i b l hlast
      exact btext_para h hB hC hc hn hbl hlast
    · rename_i hno
      refine btext_new h hB hon hl hC hc hn hbl ?_
      unfold St.hasPara
      cases hq : s.opens.getLast? with
      | none => rfl
      | some p => cases p <;> first | rfl | exact absurd hq (hno _ _)
  · rw [if_pos rfl]
    exact btext_blank h hB hon hC hc hbl

end Go.Proofs.YtcbojffcnlkejaaGreatDoor

/- What begins where it may stand, and where it lies then. -/
namespace Go.Proofs.YtcbojffcnlkejaaGreatDoor
open Go.RowKit
open cur (cell_blk free_blk set_blk blk_below Cur cptr Oth)

/-- Good, and the innermost part is block b. -/
def GoodA (w : World) (r : Nat) (own : Nat → Nat) (B b : Nat) (s : St) : Prop := ∃ N, (∃ bs vo vd vm, RepR w r own N bs vo vd vm s ∧ bs.getLast? = some b) ∧ Wf B N s
theorem GoodA.good {w : World} {r : Nat} {own : Nat → Nat} {B b : Nat} {s : St} (h : GoodA w r own B b s) : Good w r own B s := by
  obtain ⟨N, ⟨bs, vo, vd, vm, h1, _⟩, h2⟩ := h
  exact ⟨N, ⟨bs, vo, vd, vm, h1⟩, h2⟩
def LeftXA (w : World) (r : Nat) (own : Nat → Nat) (X : Nat → Prop) (B b : Nat) (s' : St) (w' : World) : Prop := ∃ own', GoodA w' r own' B b s' ∧ StepX w own X w' own'
theorem LeftXA.after {a b c : World} {r : Nat} {o p : Nat → Nat} {X : Nat → Prop} {B k : Nat} {s : St} (h : Step a o b p) (q : LeftXA b r p X B k s c) : LeftXA a r o X B k s c := by
  obtain ⟨o', k1, k2⟩ := q
  exact ⟨o', k1, StepX.after h k2⟩

set_option maxHeartbeats 2000000 in
theorem bpush_at {w : World} {r : Nat} {own : Nat → Nat} {B : Nat} {s : St} (h : Good w r own B s) (hB : B ≤ 549755813888) {A S : Nat → Prop} {b : Nat} {p : Part} (hf : Fresh w own A S b p) (hc : ∀ q, s.opens.getLast? = some q → q.isC = true ∧ (q.isList = true → p.isItem = true)) (he : p.ext.1 ≤ B ∧ p.ext.2 ≤ B ∧ p.indOk) :
    Calls Tryz.prog 70 #[ptrV r, partI p b] w fun e w' => e = .returned (.tuple #[]) ∧ LeftXA w r own (fun g => A g ∨ S g) (B + p.mass) b (s.push p) w' := by
  obtain ⟨N, ⟨bs, vo, vd, vm, hR⟩, hW⟩ := h
  have hlen := hW.len
  obtain ⟨a, c, rfl, hcap⟩ := hR.row
  have c0 := cell_blk hR.rd (i := 0) rfl
  have a0 := fun o => alc c0 o
  simp only [List.getElem_toArray, List.getElem_cons_zero] at c0 a0
  have hrow := hR.opens
  have hrn : (Value.slice a s.opens.length c).ownBlock ≠ some r := fun e => by
    obtain ⟨cu, q⟩ := row_block hR.opens e
    rw [hR.rd] at q
    cases q
  have hrlt := lt_of_block hR.rd
  obtain ⟨i0, hi, hz0, hz1, hz2⟩ := info_parts infoP
  have HR := (show Hid (RepR w r own N bs (.slice a s.opens.length c) vd vm s) from hR)
  have HW := (show Hid (Wf B N s) from hW)
  have HF := (show Hid (Fresh w own A S b p) from hf)
  have HP := (show Hid _ from push_wf hW hc he)
  clear hR hW hf hc he
  simp only [partI]
  generalize hT : partP p = T at *
  generalize hn : s.opens.length = n at *
  go_enter Tryz.func70, Tryz.ntmps70
  go_wp2_with (at_builtin; refine wpList_append_own_at _ rfl _ _ 53 rfl 0 66 i0 .nilIface 1 16 Tryz.underlying53 hi hz0 hz1 hz2 rfl (by decide) _ _ _ rfl (World.ownsRow.alloc hrow _) ⟨w.heap.size, 0, none⟩ 1 1 [.iface T (ptrV b)] rfl rfl (lit_cells _ _ _) ?c2 ?c3 ?c4 ?c5 ?_)
  case c2 => intro u hu; simp at hu; subst hu; rfl
  case c3 => unfold maxLen; omega
  case c4 => omega
  case c5 => exact Nat.zero_le _
  intro v' w2 hown' hgrow _ hat
  obtain ⟨g, c', rfl⟩ : ∃ g c', v' = .slice (some ⟨g, 0, none⟩) (n + 1) c' := by
    rcases hown'.2 with ⟨_, q⟩ | ⟨g, cap, cur, rfl, _⟩
    · omega
    · exact ⟨g, cap, rfl⟩
  have hr2 : w2.heap[r]? = some (.cells (rdCs (.slice a n c) vd vm s.on) 58 (0, 0)) := (hgrow.block r (by simp; omega) (fun e => hrn e.symm)).trans (blk_below HR.out.rd ((Below.refl _ _).alloc (Nat.le_refl _) _))
  have d0 := cell_blk hr2 (i := 0) rfl
  have d1 := cell_blk hr2 (i := 1) rfl
  have g0 := free_blk hr2 0
  have g1 := free_blk hr2 1
  simp only [List.getElem_toArray, List.getElem_cons_zero, List.getElem_cons_succ] at d0 d1
  have HO' := (show Hid (w2.ownsRow 0 66 1 (.slice (some ⟨g, 0, none⟩) (n + 1) c') (n + 1) (List.zipWith partI s.opens bs ++ [.iface T (ptrV b)])) from hown')
  have HG' := (show Hid _ from hgrow)
  have HAT := (show Hid _ from hat)
  have HR2 := (show Hid _ from hr2)
  clear hown' hgrow hat hr2 hrow
  go_wp2
  go_end0
  refine ⟨rfl, ?_⟩
  have hgr : g ≠ r := by
    intro e
    rcases HAT.out with q | q
    · exact hrn (by rw [← q, e]; rfl)
    · cases q; simp at e; omega
  have F1 : Fr (fun k => k = r ∨ (Value.slice a n c).ownBlock = some k) w w2 := (((Fr.refl _ w).alloc _).trans (fr_grown HG'.out)).mono (fun k q => .inr q)
  have F2 := (F1.set (b := r) (.inl rfl) 0 (.slice (some ⟨g, 0, none⟩) (n + 1) c')).set (b := r) (.inl rfl) 1 (.int .i64 ((n : Int) + 1))
  have hR3 : ((w2.setCell ⟨r, 0, none⟩ (.slice (some ⟨g, 0, none⟩) (n + 1) c')).setCell ⟨r, 1, none⟩ (.int .i64 ((n : Int) + 1))).heap[r]? = some (.cells (rdCs (.slice (some ⟨g, 0, none⟩) (n + 1) c') vd vm (n + 1)) 58 (0, 0)) := set_blk (set_blk HR2.out 0 _) 1 _
  have hO3 : ((w2.setCell ⟨r, 0, none⟩ (.slice (some ⟨g, 0, none⟩) (n + 1) c')).setCell ⟨r, 1, none⟩ (.int .i64 ((n : Int) + 1))).ownsRow 0 66 1 (.slice (some ⟨g, 0, none⟩) (n + 1) c') (n + 1) (List.zipWith partI s.opens bs ++ [partI p b]) := by
    simp only [partI, hT]
    exact row_keeps HO'.out (fun k hk => by cases hk; exact (Below.heap_setCell _ _ _ _ (by simpa using hgr)).trans (Below.heap_setCell _ _ _ _ (by simpa using hgr)))
  obtain ⟨y1, y2, y3⟩ := push_rep HR.out HF.out hn hR3 hO3 (fun k hk => by
    cases hk
    rcases HAT.out with q | q
    · exact .inl q.symm
    · cases q; right; simp) F2
  refine ⟨_, ⟨N, ⟨_, _, _, _, y1, by simp⟩, HP.out⟩, F2.mono (fun k q => ?_), fun k hk h0 hx => ?_⟩
  · show own k ≠ 0
    rcases q with q | q
    · rw [q, HR.out.rown]; decide
    · rw [HR.out.oown k q]; decide
  · rw [y3 k hk (fun q => hx (.inl q)) (fun q => hx (.inr q))]
    exact h0

set_option maxHeartbeats 2000000 in
theorem bstand_at {w : World} {r : Nat} {own : Nat → Nat} {B : Nat} {s : St} (h : Good w r own B s) (hB : B ≤ 549755813888) (hon : 1 ≤ s.on) (hl : LeafLeft s) {A S : Nat → Prop} {b : Nat} {p : Part} (hf : Fresh w own A S b p) (hi : p.isItem = false) (he : p.ext.1 ≤ B ∧ p.ext.2 ≤ B ∧ p.indOk) :
    Calls Tryz.prog 43 #[ptrV r, partI p b] w fun e w' => e = .returned (.tuple #[]) ∧ LeftXA w r own (fun g => A g ∨ S g) (B + p.mass) b (s.stand p) w' := by
  have HC : Hid (Calls Tryz.prog 55 #[ptrV r] w fun e w' => e = .returned (.tuple #[]) ∧ Left w r own B s.clear w') := bclear_any h hB hon
  have HCo : Hid (∀ q, s.clear.opens.getLast? = some q → q.isC = true) := by
    obtain ⟨N, _, hW⟩ := h
    exact clear_cont hW hon hl
  have HF : Hid (Fresh w own A S b p) := hf
  have HE : Hid (p.ext.1 ≤ B ∧ p.ext.2 ≤ B ∧ p.indOk) := he
  clear h hf he hl
  unfold St.stand
  have HPu : Hid (∀ (u : World) (own1 : Nat → Nat) (s1 : St), Good u r own1 B s1 → Step w own u own1 → (∀ q, s1.opens.getLast? = some q → q.isC = true ∧ q.isList = false) → Calls Tryz.prog 70 #[ptrV r, partI p b] u fun e w' => e = .returned (.tuple #[]) ∧ LeftXA w r own (fun g => A g ∨ S g) (B + p.mass) b (s1.push p) w') := by
    intro u own1 s1 g1 st1 hq
    refine (bpush_at g1 hB (HF.out.step st1) (fun q x => ⟨(hq q x).1, fun y => by rw [(hq q x).2] at y; cases y⟩) HE.out).mono ?_
    rintro e w' ⟨rfl, k⟩
    exact ⟨rfl, LeftXA.after st1 k⟩
  simp only [partI] at HPu ⊢
  generalize partP p = T at *
  cases hil : s.clear.inList
  · go_enter Tryz.func43, Tryz.ntmps43
    go_wp2_with (first
      | (go_at_call 55; refine HC.out.mono ?_; rintro e u ⟨rfl, own1, g1, st1⟩; obtain ⟨q, bq, hq, hI⟩ := binner_good g1 hB; have HI : Hid (Calls Tryz.prog 23 #[ptrV r] u fun e w' => e = .returned (.iface (partP q) (ptrV bq)) ∧ ∃ m, w' = u.drewN m) := hI; have hqL : q.isList = false := (by unfold St.inList at hil; rw [hq] at hil; exact hil); have ta := (fun w => as_list q bq w); rw [hqL] at ta; generalize partP q = TQ at *; have HG1 : Hid (Good u r own1 B s.clear) := g1; have HS1 : Hid (Step w own u own1) := st1; have HQ : Hid (∀ q, s.clear.opens.getLast? = some q → q.isC = true ∧ q.isList = false) := (fun q' h' => ⟨HCo.out q' h', by rw [hq] at h'; cases h'; exact hqL⟩); clear g1 st1 hq hqL hI)
      | (go_at_call 23; refine HI.out.mono ?_; rintro e u2 ⟨rfl, m, rfl⟩)
      | (go_at_call 70; refine (HPu.out (u.drewN m) own1 s.clear (Good.drewN HG1.out m) (HS1.out.trans (Step.drewN m)) HQ.out).mono ?_; rintro e u3 ⟨rfl, hu3⟩))
    go_end0
    exact ⟨rfl, hu3⟩
  · go_enter Tryz.func43, Tryz.ntmps43
    go_wp2_with (first
      | (go_at_call 55; refine HC.out.mono ?_; rintro e u ⟨rfl, own1, g1, st1⟩; obtain ⟨q, bq, hq, hI⟩ := binner_good g1 hB; have HI : Hid (Calls Tryz.prog 23 #[ptrV r] u fun e w' => e = .returned (.iface (partP q) (ptrV bq)) ∧ ∃ m, w' = u.drewN m) := hI; have hqL : q.isList = true := (by unfold St.inList at hil; rw [hq] at hil; exact hil); have ta := (fun w => as_list q bq w); rw [hqL] at ta; generalize partP q = TQ at *; have HG1 : Hid (Good u r own1 B s.clear) := g1; have HS1 : Hid (Step w own u own1) := st1; have HQ : Hid (2 ≤ s.clear.opens.length ∧ ∀ q, s.clear.close.opens.getLast? = some q → q.isC = true ∧ q.isList = false) := (by obtain ⟨N, _, hW⟩ := g1; have h2 := list_two hW hil; obtain ⟨_, _, w2, _, _, w5⟩ := close_last hW h2; exact ⟨h2, fun q' h' => ⟨w2 q' h', by cases hx : q'.isList; rfl; exact absurd (w5 q' h' hx q hq) (not_item hqL)⟩⟩); clear g1 st1 hq hqL hI)
      | (go_at_call 23; refine HI.out.mono ?_; rintro e u2 ⟨rfl, m, rfl⟩)
      | (go_at_call 30; refine (bclose_good (Good.drewN HG1.out m) hB HQ.out.1).mono ?_; rintro e u3 ⟨rfl, own3, g3, st3⟩; have HG3 : Hid (Good u3 r own3 B s.clear.close) := g3; have HS3 : Hid (Step w own u3 own3) := (HS1.out.trans (Step.drewN m)).trans st3; clear g3 st3)
      | (go_at_call 70; refine (HPu.out u3 own3 s.clear.close HG3.out HS3.out HQ.out.2).mono ?_; rintro e u4 ⟨rfl, hu4⟩))
    go_end0
    exact ⟨rfl, hu4⟩


/-- What was just made stands, and lies where it lay. -/
theorem bstand_newA {u : World} {r : Nat} {own : Nat → Nat} {B : Nat} {s : St} (h : Good u r own B s) (hB : B ≤ 549755813888) (hon : 1 ≤ s.on) (hl : LeafLeft s) (ho : own u.heap.size = 0) {p : Part} (hk : toldK p = .nil) (hb : p.bulk = 0) (hi : p.isItem = false) (he : p.ext.1 ≤ B ∧ p.ext.2 ≤ B ∧ p.indOk) :
    Calls Tryz.prog 43 #[ptrV r, partI p u.heap.size] (u.alloc (.cells (partCs p (.slice none 0 0)).toArray (partT p))) fun e w' => e = .returned (.tuple #[]) ∧ ∃ own', GoodA w' r own' (B + p.mass) u.heap.size (s.stand p) ∧ Step u own w' own' := by
  have hb1 := (Below.refl u.heap.size u).alloc (Nat.le_refl _) (.cells (partCs p (.slice none 0 0)).toArray (partT p))
  refine (bstand_at (h.below hb1) hB hon hl (fresh_new ho (partV_none hk hb)) hi he).mono ?_
  rintro e w' ⟨rfl, own', q1, q2⟩
  refine ⟨rfl, own', q1, ((Fr.refl _ u).alloc _).trans q2.1, ?_⟩
  intro g hg h0
  exact q2.2 g (by simp; omega) h0 (fun q => by
    rcases q with q | q
    · have : g = u.heap.size := q
      omega
    · exact q)

end Go.Proofs.YtcbojffcnlkejaaGreatDoor

/- Whether HTML takes a line: as leaf.Ends tells. -/
namespace Go.Proofs.YtcbojffcnlkejaaGreatDoor
open Go.RowKit
open cur (cell_blk free_blk set_blk blk_below Cur cptr Oth)

set_option maxHeartbeats 8000000 in
theorem btakes_html {w : World} {b c n : Nat} {σ : Pl} {x : Body} {k : Nat} {v : Value} (h : w.heap[b]? = some (.cells (partCs (.html x k) v).toArray 135 (0, 0))) (hr : w.ownsRow 0 9 1 v x.rows.length (strCs x.rows)) (hz : x.rows.length ≤ 1099511627776) (hC : Cur w c σ) (hbc : b ≠ c) (en : Nat → Str → Bool)
    (hE : ∀ u, Fr (fun g => g = b ∨ v.ownBlock = some g) w u → Calls Tryz.prog 109 #[.int .i64 (k : Int), strV (restR σ)] u fun e w' => e = .returned (.bool (en k (restR σ))) ∧ Below u.heap.size u w') :
    Calls Tryz.prog 76 #[ptrV b, lnV c n] w fun e w' => e = .returned (fateV (Part.takes en n σ (.html x k)).1 (Part.takes en n σ (.html x k)).2.1) ∧ TakesW w b c v (Part.takes en n σ (.html x k)).2.2.1 (if 6 ≤ k ∧ blankB σ = true then x.rows else x.rows ++ [restR σ]) (Part.takes en n σ (.html x k)).2.2.2 w' := by
  have hl := line_blk c n w
  have HB1 : Hid (Below w.heap.size w (w.alloc (.cells #[cptr c, .int .i64 (n : Int)] 63))) := (Below.refl _ _).alloc (Nat.le_refl _) _
  generalize hW : w.alloc (.cells #[cptr c, .int .i64 (n : Int)] 63) = W1 at hl HB1
  have hC1 := hC.below HB1.out
  have hb1 := blk_below h HB1.out
  have hr1 := row_below hr HB1.out
  have hblt := lt_of_block h
  have hlc : w.heap.size ≠ c := by have := hC.lt; omega
  have hgc := cur_row hC hr (by decide)
  have hgl : ∀ g, v.ownBlock = some g → g < w.heap.size := fun g hg => (World.ownsRow.lt hr g hg).2
  have a0 := cell_blk hl (i := 0) rfl
  have a3 := cell_blk hb1 (i := 3) rfl
  have l0 := fun u : BwW W1 => cell_blk (u.blk hl) (i := 0) rfl
  have l1 := fun u : BwW W1 => cell_blk (u.blk hl) (i := 1) rfl
  simp only [partCs, List.getElem_toArray, List.getElem_cons_zero, List.getElem_cons_succ] at l0 l1 a0 a3
  have HBl : Hid (Calls Tryz.prog 54 #[cptr c] W1 fun e w' => e = .returned (.bool (blankB σ)) ∧ ∃ m, w' = W1.drewN m) := cur.blank_any hC1
  have HRe : Hid (∀ u : BwW W1, Calls Tryz.prog 88 #[cptr c] u.wo fun e w' => e = .returned (.string ⟨(restR σ).toArray⟩) ∧ ∃ u' : BwW W1, w' = u'.wo) := fun u => (cur.rest_any (hC1.below u.is)).mono fun _ w' q => ⟨q.1, by obtain ⟨m, e⟩ := q.2; exact ⟨BwW.of (w := u.wo.drewN m) (u.is.trans ⟨rfl, rfl, rfl, Nat.le_refl _, fun _ _ => rfl⟩), e⟩⟩
  have HAd : Hid (∀ u : BwW W1, Calls Tryz.prog 56 #[ptrV b, lnV c n, strV (restR σ)] u.wo fun e w' => e = .returned (.tuple #[]) ∧ (∀ uu : BwW w', uu.wo.cell? ⟨b, 3, none⟩ = some (.int .i64 (k : Int)) ∧ uu.wo.cell? ⟨w.heap.size, 0, none⟩ = some (cptr c) ∧
      (Calls Tryz.prog 88 #[cptr c] uu.wo fun e w2 => e = .returned (.string ⟨(restR σ).toArray⟩) ∧ ∃ u' : BwW w', w2 = u'.wo) ∧
      (Calls Tryz.prog 109 #[.int .i64 (k : Int), .string ⟨(restR σ).toArray⟩] uu.wo fun e w2 => e = .returned (.bool (en k (restR σ))) ∧ ∃ u' : BwW w', w2 = u'.wo) ∧
      TakesW w b c v (.html (x.add n (restR σ)) k) (x.rows ++ [restR σ]) σ uu.wo)) := fun u => by
    have hbu : Below w.heap.size w u.wo := HB1.out.trans (u.is.mono HB1.out.size)
    refine (brow_any (ex := [.int .i64 (k : Int)]) (t := 135) (u.blk hb1) (row_below hr1 u.is) (by decide) hz (restR σ)).mono ?_
    rintro e w' ⟨rfl, v', q1, q2, q3, q4⟩
    refine ⟨rfl, fun uu => ?_⟩
    have hc' : Cur w' c σ := cur_fr (hC1.below u.is) q4 (by
      rintro (y | y)
      · exact hbc y.symm
      · exact hgc c y rfl)
    have hl' := q4.keeps (u.blk hl) (by
      rintro (y | y)
      · omega
      · have := hgl _ y
        omega)
    have hf : Fr (fun g => g = b ∨ v.ownBlock = some g) w uu.wo := ((Fr.of_below hbu).trans q4).trans (Fr.of_below uu.is)
    refine ⟨?_, ?_, ?_, ?_, ?_⟩
    · have q := cell_blk (uu.blk q1) (i := 3) rfl
      simpa using q
    · have q := cell_blk (uu.blk hl') (i := 0) rfl
      simpa using q
    · exact (cur.rest_any (hc'.below uu.is)).mono fun _ w2 q => ⟨q.1, by obtain ⟨m, e⟩ := q.2; exact ⟨BwW.of (w := uu.wo.drewN m) (uu.is.trans ⟨rfl, rfl, rfl, Nat.le_refl _, fun _ _ => rfl⟩), e⟩⟩
    · exact (hE _ hf).mono fun _ w2 q => ⟨q.1, BwW.of (uu.is.trans (q.2.mono uu.is.size)), rfl⟩
    · refine ⟨v', uu.blk q1, row_below q2 uu.is, fun g hg => (q3 g hg).imp id (fun y => Nat.le_trans hbu.size y), hc'.below uu.is, hf.mono (fun a q => q.elim .inl (fun q => .inr (.inl q)))⟩
  have HN : Hid (∀ m, TakesW w b c v (.html x k) x.rows σ (W1.drewN m)) := fun m => takes_same h hr hC (cur.below_drewN HB1.out m)
  have HR : Hid (Part.takes en n σ (.html x k) = if 6 ≤ k ∧ blankB σ = true then (0, false, .html x k, σ) else (2, !en k (restR σ), .html (x.add n (restR σ)) k, σ)) := rfl
  generalize Part.takes en n σ (.html x k) = R at *
  clear hl h hC hC1 hr hb1 hr1 hgc hgl hblt hE
  generalize hlbe : w.heap.size = lb at *
  generalize en k (restR σ) = E at *
  generalize hRR : restR σ = RR at *
  by_cases hk : 6 ≤ k
  · have hk' : 6 ≤ (k : Int) := by omega
    cases hbl : blankB σ
    · rw [hbl] at HBl HR
      rw [if_neg (by rintro ⟨_, q⟩; cases q)]
      rw [if_neg (by rintro ⟨_, q⟩; cases q)] at HR
      go_enter Tryz.func76, Tryz.ntmps76
      go_wp2_with (go_at_call 54; refine HBl.out.mono ?_; rintro e u ⟨rfl, m, rfl⟩)
      refine region_tail (fun w' => ∃ u : BwW W1, w' = u.wo) 7 (by kernel_rfl) (by kernel_rfl) ⟨BwW.of (w := (W1.drewN m).drew) ⟨rfl, rfl, rfl, Nat.le_refl _, fun _ _ => rfl⟩, rfl⟩ ?_
      haveI := BwW.some W1
      simp only [List.take_succ_cons, List.take_zero]
      repeat (go_big_quiet_step ((go_at_call 88; exact HRe.out _)))
      refine wpQuiet_nil ?_
      intro _ hw'
      obtain ⟨u6, hu6⟩ := hw'
      subst hu6
      simp only [List.drop_succ_cons, List.drop_zero]
      go_wp2_with (go_at_call 56; refine (HAd.out u6).mono ?_; rintro e w6 ⟨rfl, hw6⟩)
      have d3 := fun uu : BwW w6 => (hw6 uu).1
      have d0 := fun uu : BwW w6 => (hw6 uu).2.1
      have HRe2 := (show Hid _ from fun uu : BwW w6 => (hw6 uu).2.2.1)
      have HEn2 := (show Hid _ from fun uu : BwW w6 => (hw6 uu).2.2.2.1)
      have HT2 := (show Hid _ from fun uu : BwW w6 => (hw6 uu).2.2.2.2)
      clear hw6
      refine region_class2 (fun w' => ∃ u : BwW w6, w' = u.wo) (by kernel_rfl) (by kernel_rfl) (BwW.first w6) ?_
      haveI := BwW.some w6
      repeat (go_big_quiet_step (first
        | (go_at_call 88; exact HRe2.out _)
        | (go_at_call 109; exact HEn2.out _)))
      refine wpQuiet_nil ?_
      intro _ hw'
      obtain ⟨u8, hu8⟩ := hw'
      subst hu8
      go_wp2
      go_ret2
      rw [HR.out]
      exact ⟨rfl, HT2.out u8⟩
    · rw [hbl] at HBl HR
      rw [if_pos ⟨hk, rfl⟩]
      rw [if_pos ⟨hk, rfl⟩] at HR
      go_enter Tryz.func76, Tryz.ntmps76
      go_wp2_with (go_at_call 54; refine HBl.out.mono ?_; rintro e u ⟨rfl, m, rfl⟩)
      go_ret2
      rw [HR.out]
      exact ⟨rfl, HN.out m⟩
  · have hk' : ¬ 6 ≤ (k : Int) := by omega
    rw [if_neg (fun q => hk q.1)]
    rw [if_neg (fun q => hk q.1)] at HR
    go_enter Tryz.func76, Tryz.ntmps76
    go_wp2
    refine region_tail (fun w' => ∃ u : BwW W1, w' = u.wo) 7 (by kernel_rfl) (by kernel_rfl) (BwW.first W1) ?_
    haveI := BwW.some W1
    simp only [List.take_succ_cons, List.take_zero]
    repeat (go_big_quiet_step ((go_at_call 88; exact HRe.out _)))
    refine wpQuiet_nil ?_
    intro _ hw'
    obtain ⟨u6, hu6⟩ := hw'
    subst hu6
    simp only [List.drop_succ_cons, List.drop_zero]
    go_wp2_with (go_at_call 56; refine (HAd.out u6).mono ?_; rintro e w6 ⟨rfl, hw6⟩)
    have d3 := fun uu : BwW w6 => (hw6 uu).1
    have d0 := fun uu : BwW w6 => (hw6 uu).2.1
    have HRe2 := (show Hid _ from fun uu : BwW w6 => (hw6 uu).2.2.1)
    have HEn2 := (show Hid _ from fun uu : BwW w6 => (hw6 uu).2.2.2.1)
    have HT2 := (show Hid _ from fun uu : BwW w6 => (hw6 uu).2.2.2.2)
    clear hw6
    refine region_class2 (fun w' => ∃ u : BwW w6, w' = u.wo) (by kernel_rfl) (by kernel_rfl) (BwW.first w6) ?_
    haveI := BwW.some w6
    repeat (go_big_quiet_step (first
      | (go_at_call 88; exact HRe2.out _)
      | (go_at_call 109; exact HEn2.out _)))
    refine wpQuiet_nil ?_
    intro _ hw'
    obtain ⟨u8, hu8⟩ := hw'
    subst hu8
    go_wp2
    go_ret2
    rw [HR.out]
    exact ⟨rfl, HT2.out u8⟩

end Go.Proofs.YtcbojffcnlkejaaGreatDoor

/- What begins: HTML, as leaf.Ends tells. -/
namespace Go.Proofs.YtcbojffcnlkejaaGreatDoor
open Go.RowKit
open cur (cell_blk free_blk set_blk blk_below Cur cptr Oth)

theorem stand_set (s : St) (p p' : Part) : ∃ k, (s.stand p).opens.length = k + 1 ∧ ({ s.stand p with opens := (s.stand p).opens.set k p' } : St) = s.stand p' := by
  have key : ∀ t : St, ∃ k, (t.push p).opens.length = k + 1 ∧ ({ t.push p with opens := (t.push p).opens.set k p' } : St) = t.push p' := by
    intro t
    refine ⟨t.opens.length, by show (t.opens ++ [p]).length = _; simp, ?_⟩
    show ({ t with opens := (t.opens ++ [p]).set t.opens.length p', on := t.opens.length + 1 } : St) = { t with opens := t.opens ++ [p'], on := t.opens.length + 1 }
    congr 1
    rw [set_last (by simp)]
    simp
  unfold St.stand
  split
  · exact key _
  · exact key _

/-- The innermost part is HTML in block b: it takes a line. -/
theorem html_in {u : World} {r c n b : Nat} {own : Nat → Nat} {B : Nat} {s : St} {σ : Pl} {x : Body} {k i : Nat} (h : GoodA u r own B b s) (hB : B ≤ 549755813888) (hC : Cur u c σ) (hc : own c = 0) (hn : n ≤ B) (hi : s.opens.length = i + 1) (hlast : s.opens[i]? = some (.html x k)) (hnb : blankB σ = false) (en : Nat → Str → Bool)
    (hE : ∀ u', (∀ g, g < u.heap.size → own g = 0 → u'.heap[g]? = u.heap[g]?) → Calls Tryz.prog 109 #[.int .i64 (k : Int), strV (restR σ)] u' fun e w' => e = .returned (.bool (en k (restR σ))) ∧ Below u'.heap.size u' w') :
    Calls Tryz.prog 76 #[ptrV b, lnV c n] u fun e w' => e = .returned (fateV 2 (!en k (restR σ))) ∧ LeftC u r own c (B + 3 * ((restR σ).length + 1)) { s with opens := s.opens.set i (.html (x.add n (restR σ)) k) } σ w' := by
  obtain ⟨N, ⟨bs, vo, vd, vm, hR, hbl⟩, hWf⟩ := h
  have hb : bs[i]? = some b := by
    rw [List.getLast?_eq_getElem?, hR.len, hi] at hbl
    exact hbl
  obtain ⟨hPo, v, hPb, hPv1, hPv2⟩ := hR.part i b _ hb hlast
  have hbo : own b = 2 * i + 2 := hPo
  have hbc : b ≠ c := fun e => by rw [e] at hbo; omega
  have hbk : bulkL x.rows ≤ B := (hWf.okp hlast).2.2.1
  have hz : x.rows.length ≤ 1099511627776 := by have := rows_len x.rows; omega
  have hi0 : 0 < i := by
    have q : s.opens.getLast? = some (.html x k) := by rw [List.getLast?_eq_getElem?, hi]; exact hlast
    have := hWf.two q rfl
    omega
  refine (btakes_html hPb hPv1 hz hC hbc en (fun u' hf => hE u' (fun g hg h0 => hf.block g hg (by
    rintro (q | q)
    · rw [q] at h0; omega
    · have : own g = 2 * i + 2 := hPv2 g q
      omega)))).mono ?_
  rintro e w' ⟨rfl, hT⟩
  have eT : Part.takes en n σ (.html x k) = (2, !en k (restR σ), .html (x.add n (restR σ)) k, σ) := by
    show (if 6 ≤ k ∧ blankB σ = true then _ else _) = _
    rw [if_neg (by rw [hnb]; rintro ⟨_, q⟩; cases q)]
  rw [eT, if_neg (by rw [hnb]; rintro ⟨_, q⟩; cases q)] at hT
  rw [eT]
  obtain ⟨v', q1, q2, q3, q4, q5⟩ := hT
  obtain ⟨own', y1, y2⟩ := rows_rep (c := c) (p' := .html (x.add n (restR σ)) k) hR hlast hb rfl (v := v) (v' := v') hPo (lt_of_block hPb) hPv2 hc q1 (fun A S q => ⟨q2, q⟩) q3 q5
  have hW2 := wf_set (k := 3 * ((restR σ).length + 1)) (p' := .html (x.add n (restR σ)) k) hWf hlast hi0 rfl rfl rfl ⟨by have := (hWf.ext _ _ hlast).1; have : x.first ≤ B := this; show x.first ≤ _; omega, by show n ≤ _; omega, trivial⟩ (by
    show 3 * bulkL (x.rows ++ [restR σ]) + 0 + 1 ≤ 3 * bulkL x.rows + 0 + 1 + _
    rw [bulk_append]
    show 3 * (bulkL x.rows + ((restR σ).length + 1 + 0)) + 0 + 1 ≤ 3 * bulkL x.rows + 0 + 1 + 3 * ((restR σ).length + 1)
    omega)
  exact ⟨rfl, own', ⟨N, ⟨bs, vo, vd, vm, y1⟩, hW2⟩, q4, y2⟩

end Go.Proofs.YtcbojffcnlkejaaGreatDoor

/- What begins: HTML; the walk. -/
namespace Go.Proofs.YtcbojffcnlkejaaGreatDoor
open Go.RowKit
open cur (cell_blk free_blk set_blk blk_below Cur cptr Oth)

theorem StepC.of {w u w' : World} {own own' : Nat → Nat} {c : Nat} (hb : Below w.heap.size w u) (h : Step u (clip own w) w' own') : StepC w own c w' own' :=
  ⟨(Fr.of_below hb).trans' (h.1.mono (fun g q => (q : clip own w g ≠ 0))) (fun i hi q => .inl (by rw [clip_old hi] at q; exact q)), fun g hg h0 => h.2 g (Nat.lt_of_lt_of_le hg hb.size) (by rw [clip_old hg]; exact h0)⟩

set_option maxHeartbeats 8000000 in
theorem bbeginHtml_any {w : World} {r c n k : Nat} {own : Nat → Nat} {B : Nat} {s : St} {σ : Pl} (h : Good w r own B s) (hB : B + rowM (restR σ) ≤ 549755813888) (hon : 1 ≤ s.on) (hl : LeafLeft s) (hC : Cur w c σ) (hc : own c = 0) (hn : n ≤ B) (hnb : blankB σ = false) (en : Nat → Str → Bool)
    (hE : ∀ u', (∀ g, g < w.heap.size → own g = 0 → g ≠ c → u'.heap[g]? = w.heap[g]?) → Calls Tryz.prog 109 #[.int .i64 (k : Int), strV (restR σ)] u' fun e w' => e = .returned (.bool (en k (restR σ))) ∧ Below u'.heap.size u' w') :
    Calls Tryz.prog 47 #[ptrV r, lnV c n, .int .i64 (k : Int)] w fun e w' => e = .returned (.int .i64 2) ∧ LeftC w r own c (B + rowM (restR σ)) (s.beginHtml en n σ k) σ w' := by
  have hli := line_blk c n w
  have HB1 : Hid (Below w.heap.size w (w.alloc (.cells #[cptr c, .int .i64 (n : Int)] 63))) := (Below.refl _ _).alloc (Nat.le_refl _) _
  generalize hW : w.alloc (.cells #[cptr c, .int .i64 (n : Int)] 63) = W1 at hli HB1
  have l0 := cell_blk hli (i := 0) rfl
  have l1 := cell_blk hli (i := 1) rfl
  simp only [List.getElem_toArray, List.getElem_cons_zero, List.getElem_cons_succ] at l0 l1
  have HBd : Hid (Calls Tryz.prog 44 #[lnV c n] W1 fun e w' => e = .returned (.agg #[.int .i64 (n : Int), .int .i64 (n : Int), .slice none 0 0]) ∧ Below w.heap.size w w' ∧ w'.heap[w.heap.size]? = some (.cells #[cptr c, .int .i64 (n : Int)] 63 (0, 0))) := (bbody_any c n W1).mono fun _ u ⟨q, hu⟩ => ⟨q, HB1.out.trans (hu.mono HB1.out.size), blk_below hli hu⟩
  have HSt : Hid (∀ u, Below w.heap.size w u → u.heap[w.heap.size]? = some (.cells #[cptr c, .int .i64 (n : Int)] 63 (0, 0)) → Calls Tryz.prog 43 #[ptrV r, .iface 133 (ptrV u.heap.size)] (u.alloc (.cells #[.int .i64 (n : Int), .int .i64 (n : Int), .slice none 0 0, .int .i64 (k : Int)] 135)) fun e w' => e = .returned (.tuple #[]) ∧ w'.heap[w.heap.size]? = some (.cells #[cptr c, .int .i64 (n : Int)] 63 (0, 0)) ∧
      Calls Tryz.prog 76 #[ptrV u.heap.size, lnV c n] w' fun e w3 => e = .returned (fateV 2 (!en k (restR σ))) ∧ LeftC w r own c (B + rowM (restR σ)) (s.stand (.html (Body.add { first := n, last := n } n (restR σ)) k)) σ w3) := by
    intro u hu hlu
    refine (bstand_newA (p := .html { first := n, last := n } k) ((h.clip).below hu) (by omega) hon hl (clip_new hu.size) rfl rfl rfl ⟨hn, hn, trivial⟩).mono ?_
    rintro e w' ⟨rfl, own2, g2, st2⟩
    have sc : StepC w own c w' own2 := StepC.of hu st2
    have hc2 : own2 c = 0 := sc.2 c hC.lt hc
    have hcu : Cur w' c σ := cur_fr (hC.below hu) st2.1 (by rw [clip_old hC.lt, hc]; decide)
    refine ⟨rfl, st2.1.keeps hlu (by rw [clip_new (Nat.le_refl _)]; decide), ?_⟩
    obtain ⟨i, hi, hs⟩ := stand_set s (.html { first := n, last := n } k) (.html (Body.add { first := n, last := n } n (restR σ)) k)
    have hla : (s.stand (.html { first := n, last := n } k)).opens[i]? = some (.html { first := n, last := n } k) := by
      have := (stand_last s (.html { first := n, last := n } k)).1
      rw [List.getLast?_eq_getElem?, hi] at this
      exact this
    refine (html_in (B := B + 1) g2 (by have e : rowM (restR σ) = 3 * ((restR σ).length + 1) + 1 := rfl; omega) hcu hc2 (by omega) hi hla hnb en (fun u' hu' => hE u' (fun g hg h0 hgc => ?_))).mono ?_
    · rw [hu' g (Nat.lt_of_lt_of_le hg sc.1.size) (sc.2 g hg h0)]
      exact sc.1.block g hg (by
        rintro (q | q)
        · exact q h0
        · exact hgc q)
    · rintro e w3 ⟨rfl, own3, g3, c3, st3⟩
      rw [hs] at g3
      exact ⟨rfl, own3, g3.more (by show B + 1 + 3 * ((restR σ).length + 1) ≤ B + (3 * ((restR σ).length + 1) + 1); omega), c3, sc.trans st3⟩
  have HCl : Hid (∀ u, LeftC w r own c (B + rowM (restR σ)) (s.stand (.html (Body.add { first := n, last := n } n (restR σ)) k)) σ u → Calls Tryz.prog 30 #[ptrV r] u fun e w' => e = .returned (.tuple #[]) ∧ LeftC w r own c (B + rowM (restR σ)) (s.stand (.html (Body.add { first := n, last := n } n (restR σ)) k)).close σ w') := by
    intro u hu
    obtain ⟨own2, g2, c2, st2⟩ := hu
    have hc2 : own2 c = 0 := st2.2 c hC.lt hc
    obtain ⟨N, hW2⟩ := g2.wf
    refine (bclose_good g2 (by omega) (hW2.two (stand_last s _).1 rfl)).mono ?_
    rintro e w' ⟨rfl, own3, g3, st3⟩
    exact ⟨rfl, own3, g3, cur_fr c2 st3.1 (by rw [hc2]; decide), st2.trans (st3.toC c)⟩
  have HR : Hid (s.beginHtml en n σ k = if (!en k (restR σ)) = true then s.stand (.html (Body.add { first := n, last := n } n (restR σ)) k) else (s.stand (.html (Body.add { first := n, last := n } n (restR σ)) k)).close) := by
    show _ = _
    unfold St.beginHtml
    have eT : Part.takes en n σ (.html { first := n, last := n } k) = (2, !en k (restR σ), .html (Body.add { first := n, last := n } n (restR σ)) k, σ) := by
      show (if 6 ≤ k ∧ blankB σ = true then _ else _) = _
      rw [if_neg (by rw [hnb]; rintro ⟨_, q⟩; cases q)]
    rw [eT]
  generalize s.beginHtml en n σ k = R at *
  clear hli h hl hC hE
  generalize hlbe : w.heap.size = lb at *
  generalize en k (restR σ) = E at *
  cases E
  · rw [if_pos (by decide)] at HR
    go_enter Tryz.func47, Tryz.ntmps47
    go_wp2_with (first
      | (go_at_call 44; refine HBd.out.mono ?_; rintro e u ⟨rfl, hu, hlu⟩; have HS := (show Hid _ from HSt.out u hu hlu); clear hu hlu)
      | (go_at_call 43; refine Calls.mono HS.out ?_; rintro e u2 ⟨rfl, hl2, hT⟩; have HT := (show Hid _ from hT); have m0 := cell_blk hl2 (i := 0) rfl; have m1 := cell_blk hl2 (i := 1) rfl; simp only [List.getElem_toArray, List.getElem_cons_zero, List.getElem_cons_succ] at m0 m1; clear hl2 hT)
      | (go_at_call 76; refine Calls.mono HT.out ?_; rintro e u3 ⟨rfl, hL⟩))
    go_ret
    rw [HR.out]
    exact ⟨rfl, hL⟩
  · rw [if_neg (by decide)] at HR
    go_enter Tryz.func47, Tryz.ntmps47
    go_wp2_with (first
      | (go_at_call 44; refine HBd.out.mono ?_; rintro e u ⟨rfl, hu, hlu⟩; have HS := (show Hid _ from HSt.out u hu hlu); clear hu hlu)
      | (go_at_call 43; refine Calls.mono HS.out ?_; rintro e u2 ⟨rfl, hl2, hT⟩; have HT := (show Hid _ from hT); have m0 := cell_blk hl2 (i := 0) rfl; have m1 := cell_blk hl2 (i := 1) rfl; simp only [List.getElem_toArray, List.getElem_cons_zero, List.getElem_cons_succ] at m0 m1; clear hl2 hT)
      | (go_at_call 76; refine Calls.mono HT.out ?_; rintro e u3 ⟨rfl, hL⟩; have HL := (show Hid _ from hL); clear hL)
      | (go_at_call 30; refine (HCl.out u3 HL.out).mono ?_; rintro e u4 ⟨rfl, hL4⟩))
    go_ret
    rw [HR.out]
    exact ⟨rfl, hL4⟩

end Go.Proofs.YtcbojffcnlkejaaGreatDoor

/- What begins: an Item; what its steps leave. -/
namespace Go.Proofs.YtcbojffcnlkejaaGreatDoor
open Go.RowKit
open cur (cell_blk free_blk set_blk blk_below Cur cptr Oth)

theorem clear_on {B N : Nat} {s : St} (h : Wf B N s) (h1 : 1 ≤ s.on) : 1 ≤ s.clear.on := by
  unfold St.clear
  obtain ⟨N', w1, w2⟩ := leave_wf _ B N s rfl h h1
  cases hp : s.leave.hasPara
  · rw [if_neg (by decide)]
    exact w2
  · rw [if_pos rfl]
    have h2 := para_two w1 hp
    obtain ⟨_, _, _, _, h4, _⟩ := close_last w1 h2
    rw [h4]
    omega

/-- What was just made is pushed. -/
theorem bpush_new {u : World} {r : Nat} {own : Nat → Nat} {B : Nat} {s : St} (h : Good u r own B s) (hB : B ≤ 549755813888) (ho : own u.heap.size = 0) {p : Part} (hk : toldK p = .nil) (hb : p.bulk = 0) (hc : ∀ q, s.opens.getLast? = some q → q.isC = true ∧ (q.isList = true → p.isItem = true)) (he : p.ext.1 ≤ B ∧ p.ext.2 ≤ B ∧ p.indOk) :
    Calls Tryz.prog 70 #[ptrV r, partI p u.heap.size] (u.alloc (.cells (partCs p (.slice none 0 0)).toArray (partT p))) fun e w' => e = .returned (.tuple #[]) ∧ Left u r own (B + p.mass) (s.push p) w' := by
  have hb1 := (Below.refl u.heap.size u).alloc (Nat.le_refl _) (.cells (partCs p (.slice none 0 0)).toArray (partT p))
  refine (bpush_any (h.below hb1) hB (fresh_new ho (partV_none hk hb)) hc he).mono ?_
  rintro e w' ⟨rfl, own', q1, q2⟩
  refine ⟨rfl, own', q1, ((Fr.refl _ u).alloc _).trans q2.1, ?_⟩
  intro g hg h0
  exact q2.2 g (by simp; omega) h0 (fun q => by
    rcases q with q | q
    · have : g = u.heap.size := q
      omega
    · exact q)

/-- What stands when an Item begins, step by step: line and marker lie where they lay. -/
def ItemAt (w : World) (r c n : Nat) (m : Mk) (own : Nat → Nat) (lb mb : Nat) (B : Nat) (s : St) (σ : Pl) (u : World) : Prop :=
  ∃ own', Good u r own' B s ∧ Cur u c σ ∧ StepC w own c u own' ∧ own' c = 0 ∧ u.heap[lb]? = some (.cells #[cptr c, .int .i64 (n : Int)] 63 (0, 0)) ∧ own' lb = 0 ∧ lb ≠ c ∧ u.heap[mb]? = some (.cells #[.int .u8 (m.sign.toNat : Int), .int .i64 (m.size : Int), .int .i64 (m.number : Int), .bool m.parts] 108 (0, 0)) ∧ own' mb = 0 ∧ mb ≠ c

theorem ItemAt.next {w u : World} {r c n : Nat} {m : Mk} {own : Nat → Nat} {lb mb B B2 : Nat} {s s2 : St} {σ : Pl} (h : ItemAt w r c n m own lb mb B s σ u) {f : FuncId} {args : Array Value} {a u2 : World} (hb : Below u.heap.size u u2) (k : ∀ own', Good u2 r (clip own' u) B s → Calls Tryz.prog f args a fun e w' => e = .returned (.tuple #[]) ∧ Left u2 r (clip own' u) B2 s2 w') :
    Calls Tryz.prog f args a fun e w' => e = .returned (.tuple #[]) ∧ ItemAt w r c n m own lb mb B2 s2 σ w' := by
  obtain ⟨own', h1, h2, h3, h4, h5, h6, h7, h8, h9, h10⟩ := h
  refine (k own' ((h1.clip).below hb)).mono ?_
  rintro e w' ⟨rfl, hL⟩
  obtain ⟨own3, g1, g2, g3⟩ := LeftC.of hb hL h2 h4
  refine ⟨rfl, own3, g1, g2, h3.trans g3, g3.2 c h2.lt h4, g3.1.keeps h5 ?_, g3.2 lb (lt_of_block h5) h6, h7, g3.1.keeps h8 ?_, g3.2 mb (lt_of_block h8) h9, h10⟩
  · rintro (q | q)
    · exact q h6
    · exact h7 q
  · rintro (q | q)
    · exact q h9
    · exact h10 q

theorem item_clear {w u : World} {r c n : Nat} {m : Mk} {own : Nat → Nat} {lb mb B : Nat} {s : St} {σ : Pl} (h : ItemAt w r c n m own lb mb B s σ u) (hB : B ≤ 549755813888) (hon : 1 ≤ s.on) :
    Calls Tryz.prog 55 #[ptrV r] u fun e w' => e = .returned (.tuple #[]) ∧ ItemAt w r c n m own lb mb B s.clear σ w' := h.next (Below.refl _ _) (fun own' g => bclear_any g hB hon)

theorem item_stand {w u u2 : World} {r c n : Nat} {m : Mk} {own : Nat → Nat} {lb mb B : Nat} {s : St} {σ : Pl} (h : ItemAt w r c n m own lb mb B s σ u) (hB : B ≤ 549755813888) (hon : 1 ≤ s.on) (hl : LeafLeft s) (hn : n ≤ B) (hb : Below u.heap.size u u2) :
    Calls Tryz.prog 43 #[ptrV r, .iface 131 (ptrV u2.heap.size)] (u2.alloc (.cells #[.int .i64 (n : Int), .int .i64 (n : Int), .slice none 0 0, .bool false, .bool false, .int .u8 (m.sign.toNat : Int), .int .i64 (m.size : Int), .int .i64 (m.number : Int), .bool m.parts] 143)) fun e w' => e = .returned (.tuple #[]) ∧ ItemAt w r c n m own lb mb (B + 1) (s.stand (.list { first := n, last := n } m)) σ w' :=
  h.next hb (fun own' g => bstand_new (p := .list { first := n, last := n } m) g hB hon hl (clip_new hb.size) rfl rfl rfl ⟨hn, hn, trivial⟩)

theorem item_push {w u u2 : World} {r c n wd : Nat} {m : Mk} {own : Nat → Nat} {lb mb B : Nat} {s : St} {σ : Pl} (h : ItemAt w r c n m own lb mb B s σ u) (hB : B ≤ 549755813888) (hc : ∀ q, s.opens.getLast? = some q → q.isC = true) (hn : n ≤ B) (hb : Below u.heap.size u u2) :
    Calls Tryz.prog 70 #[ptrV r, .iface 122 (ptrV u2.heap.size)] (u2.alloc (.cells #[.int .i64 (n : Int), .int .i64 (n : Int), .slice none 0 0, .bool false, .bool false, .int .i64 (wd : Int)] 145)) fun e w' => e = .returned (.tuple #[]) ∧ ItemAt w r c n m own lb mb (B + 1) (s.push (.item { first := n, last := n } wd)) σ w' :=
  h.next hb (fun own' g => bpush_new (p := .item { first := n, last := n } wd) g hB (clip_new hb.size) rfl rfl (fun q hq => ⟨hc q hq, fun _ => rfl⟩) ⟨hn, hn, trivial⟩)

/-- The innermost part, and where it lies. -/
theorem binner_blk {w : World} {r : Nat} {own : Nat → Nat} {B : Nat} {s : St} (h : Good w r own B s) (hB : B ≤ 549755813888) : ∃ q bq, s.opens.getLast? = some q ∧ (Calls Tryz.prog 23 #[ptrV r] w fun e w' => e = .returned (.iface (partP q) (ptrV bq)) ∧ ∃ m, w' = w.drewN m) ∧ ∃ v, w.heap[bq]? = some (.cells (partCs q v).toArray (partT q) (0, 0)) := by
  obtain ⟨N, ⟨bs, vo, vd, vm, hR⟩, hW⟩ := h
  obtain ⟨n, p, hn, hp, hl⟩ := hW.last
  obtain ⟨b, hb, _, v, hv, _⟩ := hR.at hp
  have := hW.len
  exact ⟨p, b, hl, binner_any hR hn hp hb (by omega), v, hv⟩

end Go.Proofs.YtcbojffcnlkejaaGreatDoor

/- What begins: an Item. -/
namespace Go.Proofs.YtcbojffcnlkejaaGreatDoor
open Go.RowKit
open cur (cell_blk free_blk set_blk blk_below Cur cptr Oth)

set_option maxHeartbeats 8000000 in
theorem bitem_same {w : World} {r c n : Nat} {m : Mk} {own : Nat → Nat} {B : Nat} {s : St} {σ : Pl} (h : Good w r own B s) (hB : B + 1 ≤ 549755813888) (hon : 1 ≤ s.on) (hl : LeafLeft s) (hC : Cur w c σ) (hc : own c = 0) (hn : n ≤ B) (hms : m.size ≤ 549755813888) (hsame : s.clear.opens.getLast?.bind St.listSign = some m.sign) :
    Calls Tryz.prog 53 #[ptrV r, lnV c n, mkV m] w fun e w' => e = .returned (.int .i64 0) ∧ ItemAt w r c n m own w.heap.size (w.alloc (.cells #[cptr c, .int .i64 (n : Int)] 63)).heap.size (B + 1) (s.clear.push (.item { first := n, last := n } (indR σ + m.size + (St.padding (moveR m.size σ)).1))) (St.padding (moveR m.size σ)).2 w' := by
  have hli := line_blk c n w
  have HB1 : Hid (Below w.heap.size w (w.alloc (.cells #[cptr c, .int .i64 (n : Int)] 63))) := (Below.refl _ _).alloc (Nat.le_refl _) _
  generalize hW : w.alloc (.cells #[cptr c, .int .i64 (n : Int)] 63) = W1 at hli HB1
  have hmk := new_blk W1 #[.int .u8 (m.sign.toNat : Int), .int .i64 (m.size : Int), .int .i64 (m.number : Int), .bool m.parts] 108
  have hl2 := blk_below hli ((Below.refl _ _).alloc (Nat.le_refl _) (.cells #[.int .u8 (m.sign.toNat : Int), .int .i64 (m.size : Int), .int .i64 (m.number : Int), .bool m.parts] 108))
  have HB2 : Hid (Below w.heap.size w (W1.alloc (.cells #[.int .u8 (m.sign.toNat : Int), .int .i64 (m.size : Int), .int .i64 (m.number : Int), .bool m.parts] 108))) := HB1.out.alloc HB1.out.size _
  have hmw : w.heap.size ≤ W1.heap.size := HB1.out.size
  generalize hW2 : W1.alloc (.cells #[.int .u8 (m.sign.toNat : Int), .int .i64 (m.size : Int), .int .i64 (m.number : Int), .bool m.parts] 108) = W2 at hmk hl2 HB2
  have l0 := fun u : BwW W2 => cell_blk (u.blk hl2) (i := 0) rfl
  have k1 := fun u : BwW W2 => cell_blk (u.blk hmk) (i := 1) rfl
  simp only [List.getElem_toArray, List.getElem_cons_zero, List.getElem_cons_succ] at l0 k1
  have hclt := hC.lt
  have HI : Hid (∀ u : BwW W2, Calls Tryz.prog 34 #[cptr c] u.wo fun e w' => e = .returned (.int .i64 (indR σ : Int)) ∧ ∃ u' : BwW W2, w' = u'.wo) := fun u => (cur.indent_any ((hC.below HB2.out).below u.is)).mono fun _ w' q => ⟨q.1, u, q.2⟩
  have HMv : Hid (∀ u : BwW W2, Calls Tryz.prog 82 #[cptr c, .int .i64 (m.size : Int)] u.wo fun e w' => e = .returned (.tuple #[]) ∧ w'.heap[w.heap.size]? = some (.cells #[cptr c, .int .i64 (n : Int)] 63 (0, 0)) ∧ Calls Tryz.prog 83 #[lnV c n] w' fun e w' => e = .returned (.int .i64 ((St.padding (moveR m.size σ)).1 : Int)) ∧ ItemAt w r c n m own w.heap.size W1.heap.size B s (St.padding (moveR m.size σ)).2 w') := fun u => (cur.move_any ((hC.below HB2.out).below u.is) (m.size : Int) (by omega)).mono fun e w' q => by
    obtain ⟨q0, q1, q2⟩ := q
    have q1 : Cur w' c (moveR m.size σ) := q1
    have b1 := oth_blk q2 (u.blk hl2) (by omega)
    have b2 := oth_blk q2 (u.blk hmk) (by omega)
    have f1 : Fr (fun g => g = c) w w' := (Fr.of_below (HB2.out.trans (u.is.mono HB2.out.size))).trans (Fr.of_oth q2 rfl)
    refine ⟨q0, b1, (bpad_any q1).mono ?_⟩
    rintro e w2 ⟨rfl, p1, p2⟩
    have f2 := f1.trans p2
    have hcc : clip own w c = 0 := by rw [clip_old hclt]; exact hc
    exact ⟨rfl, clip own w, (h.clip).fr f2 (fun g q e => q (by rw [show g = c from e]; exact hcc)), p1, ⟨f2.mono (fun _ q => .inr q), fun g hg h0 => by rw [clip_old hg]; exact h0⟩, hcc, p2.keeps b1 (by omega), clip_new (Nat.le_refl _), by omega, p2.keeps b2 (by omega), clip_new hmw, by omega⟩
  have HCl : Hid (∀ u, ItemAt w r c n m own w.heap.size W1.heap.size B s (St.padding (moveR m.size σ)).2 u → Calls Tryz.prog 55 #[ptrV r] u fun e w' => e = .returned (.tuple #[]) ∧ ItemAt w r c n m own w.heap.size W1.heap.size B s.clear (St.padding (moveR m.size σ)).2 w') := fun u q => item_clear q (by omega) hon
  have HWf : Hid (1 ≤ s.clear.on ∧ ∀ q, s.clear.opens.getLast? = some q → q.isC = true) := by
    obtain ⟨N, hN⟩ := h.wf
    exact ⟨clear_on hN hon, clear_cont hN hon hl⟩
  have HE : Hid (∀ w, Calls Tryz.prog 62 #[lnV c n] w fun e w' => e = .returned (.agg #[.int .i64 (n : Int), .int .i64 (n : Int)]) ∧ Below w.heap.size w w') := fun w => bext_any c n w
  have hind : indR σ ≤ 1152921504606846976 := by have := (ind_le σ).2; have := hC.wt; unfold wt at this; omega
  have hpd : (St.padding (moveR m.size σ)).1 ≤ 4 := by
    unfold St.padding
    split
    · show 1 ≤ 4
      decide
    · split
      · assumption
      · show 1 ≤ 4
        decide
  generalize hp1 : (St.padding (moveR m.size σ)).1 = pd at *
  generalize hp2 : (St.padding (moveR m.size σ)).2 = σ2 at *
  generalize hid : indR σ = ind at *
  clear hli h hl hC hl2 hmk
  generalize hlbe : w.heap.size = lb at *
  generalize hmbe : W1.heap.size = mb at *
  generalize hsz : m.size = sz at *
  generalize hnb : m.number = nu at *
  generalize hpa : m.parts = pa at *
  generalize hsg : m.sign.toNat = sg at *
  have HQ : Hid (∀ q, s.clear.opens.getLast? = some q → ∃ x mk, q = .list x mk ∧ mk.sign.toNat = sg) := by
    intro q hq
    rw [hq] at hsame
    cases q with
    | list x mk => exact ⟨x, mk, rfl, by have : some mk.sign = some m.sign := hsame; rw [Option.some.inj this]; exact hsg⟩
    | _ => cases hsame
  clear hsame
  have HPu : Hid (∀ u u2, ItemAt w r c n m own lb mb B s.clear σ2 u → Below u.heap.size u u2 → Calls Tryz.prog 70 #[ptrV r, .iface 122 (ptrV u2.heap.size)] (u2.alloc (.cells #[.int .i64 (n : Int), .int .i64 (n : Int), .slice none 0 0, .bool false, .bool false, .int .i64 ((ind + sz + pd : Nat) : Int)] 145)) fun e w' => e = .returned (.tuple #[]) ∧ ItemAt w r c n m own lb mb (B + 1) (s.clear.push (.item { first := n, last := n } (ind + sz + pd))) σ2 w') := fun u u2 q hb => item_push q (by omega) HWf.out.2 hn hb
  go_enter Tryz.func53, Tryz.ntmps53
  go_wp2
  refine region_class2 (fun w' => ∃ u : BwW W2, w' = u.wo) (by kernel_rfl) (by kernel_rfl) (BwW.first W2) ?_
  haveI := BwW.some W2
  repeat (go_big_quiet_step ((go_at_call 34; exact HI.out _)))
  refine wpQuiet_nil ?_
  intro _ hw'
  obtain ⟨u, hu⟩ := hw'
  subst hu
  go_wp2_with (first
    | (go_at_call 82; refine Calls.mono (HMv.out u) ?_; rintro e a ⟨rfl, hla, hpd⟩; have HPd := (show Hid _ from hpd); have a0 := cell_blk hla (i := 0) rfl; have a1 := cell_blk hla (i := 1) rfl; simp only [List.getElem_toArray, List.getElem_cons_zero, List.getElem_cons_succ] at a0 a1; clear hpd hla)
    | (go_at_call 83; refine Calls.mono HPd.out ?_; rintro e a2 ⟨rfl, hia⟩; have HA : Hid (ItemAt w r c n m own lb mb B s σ2 a2) := hia; clear hia)
    | (go_at_call 55; refine Calls.mono (HCl.out a2 HA.out) ?_; rintro e a3 ⟨rfl, hia⟩; have HA3 : Hid (ItemAt w r c n m own lb mb B s.clear σ2 a3) := hia; obtain ⟨own3, g1, g2, g3, g4, g5, g6, g7, g8, g9, g10⟩ := hia; obtain ⟨q, bq, hq, hI, v, hv⟩ := binner_blk g1 (by omega); obtain ⟨x, mk, rfl, hmks⟩ := HQ.out q hq; have ta : (∀ w, (Instr.typeAssert (.iface 131 (ptrV bq)) 66 131 true).run Tryz.prog w = .ok (.tuple #[ptrV bq, .bool true]) w) := (fun w => as_list (.list x mk) bq w); have HIn : Hid (Calls Tryz.prog 23 #[ptrV r] a3 fun e w' => e = .returned (.iface 131 (ptrV bq)) ∧ ∃ m, w' = a3.drewN m) := hI; have s5 := (fun uu : BwW a3 => cell_blk (uu.blk hv) (i := 5) rfl); have b0 := (fun uu : BwW a3 => cell_blk (uu.blk g5) (i := 0) rfl); have b1 := (fun uu : BwW a3 => cell_blk (uu.blk g5) (i := 1) rfl); have n0 := (fun uu : BwW a3 => cell_blk (uu.blk g8) (i := 0) rfl); simp only [partCs, List.getElem_toArray, List.getElem_cons_zero, List.getElem_cons_succ] at s5 b0 b1 n0; rw [hmks] at s5; rw [hsg] at n0; clear hI hv hq hmks g1 g2 g3 g4 g5 g6 g7 g8 g9 g10)
    | (go_at_call 23; refine HIn.out.mono ?_; rintro e a4 ⟨rfl, k3, rfl⟩))
  refine region_class2 (fun w' => ∃ u : BwW a3, w' = u.wo) (by kernel_rfl) (by kernel_rfl) ⟨BwW.of (w := (a3.drewN k3).drew) ⟨rfl, rfl, rfl, Nat.le_refl _, fun _ _ => rfl⟩, rfl⟩ ?_
  haveI := BwW.some a3
  repeat (go_big_quiet_step (fail))
  refine wpQuiet_nil ?_
  intro _ hw'
  obtain ⟨u5, hu5⟩ := hw'
  subst hu5
  go_wp2_with (first
    | (go_at_call 62; refine (HE.out _).mono ?_; rintro e a6 ⟨rfl, hb6⟩; have HB6 : Hid (Below a3.heap.size a3 a6) := u5.is.trans (hb6.mono u5.is.size); clear hb6)
    | (go_at_call 70; refine (HPu.out a3 a6 HA3.out HB6.out).mono ?_; rintro e a7 ⟨rfl, hL⟩))
  go_ret
  exact ⟨rfl, hL⟩

end Go.Proofs.YtcbojffcnlkejaaGreatDoor

/- What begins: an Item, and its List. -/
namespace Go.Proofs.YtcbojffcnlkejaaGreatDoor
open Go.RowKit
open cur (cell_blk free_blk set_blk blk_below Cur cptr Oth)

theorem zer4 {w : World} {b : Nat} {a0 a1 a2 a3 : Value} {t : TypeId} (h : w.heap[b]? = some (.cells #[a0, a1, a2, a3] t (0, 0))) : w.cell? ⟨b, 0, none⟩ = some a0 ∧ w.cell? ⟨b, 1, none⟩ = some a1 ∧ w.cell? ⟨b, 2, none⟩ = some a2 ∧ w.cell? ⟨b, 3, none⟩ = some a3 :=
  ⟨cell_blk h (i := 0) rfl, cell_blk h (i := 1) rfl, cell_blk h (i := 2) rfl, cell_blk h (i := 3) rfl⟩
theorem zer2 {w : World} {b : Nat} {a0 a1 : Value} {t : TypeId} (h : w.heap[b]? = some (.cells #[a0, a1] t (0, 0))) : w.cell? ⟨b, 0, none⟩ = some a0 ∧ w.cell? ⟨b, 1, none⟩ = some a1 :=
  ⟨cell_blk h (i := 0) rfl, cell_blk h (i := 1) rfl⟩

set_option maxHeartbeats 8000000 in
theorem bitem_none {w : World} {r c n : Nat} {m : Mk} {own : Nat → Nat} {B : Nat} {s : St} {σ : Pl} (h : Good w r own B s) (hB : B + 1 ≤ 549755813888) (hon : 1 ≤ s.on) (hl : LeafLeft s) (hC : Cur w c σ) (hc : own c = 0) (hn : n ≤ B) (hms : m.size ≤ 549755813888) (hsame : s.clear.opens.getLast?.bind St.listSign = none) :
    Calls Tryz.prog 53 #[ptrV r, lnV c n, mkV m] w fun e w' => e = .returned (.int .i64 0) ∧ ItemAt w r c n m own w.heap.size (w.alloc (.cells #[cptr c, .int .i64 (n : Int)] 63)).heap.size (B + 2) ((s.clear.stand (.list { first := n, last := n } m)).push (.item { first := n, last := n } (indR σ + m.size + (St.padding (moveR m.size σ)).1))) (St.padding (moveR m.size σ)).2 w' := by
  have hli := line_blk c n w
  have HB1 : Hid (Below w.heap.size w (w.alloc (.cells #[cptr c, .int .i64 (n : Int)] 63))) := (Below.refl _ _).alloc (Nat.le_refl _) _
  generalize hW : w.alloc (.cells #[cptr c, .int .i64 (n : Int)] 63) = W1 at hli HB1
  have hmk := new_blk W1 #[.int .u8 (m.sign.toNat : Int), .int .i64 (m.size : Int), .int .i64 (m.number : Int), .bool m.parts] 108
  have hl2 := blk_below hli ((Below.refl _ _).alloc (Nat.le_refl _) (.cells #[.int .u8 (m.sign.toNat : Int), .int .i64 (m.size : Int), .int .i64 (m.number : Int), .bool m.parts] 108))
  have HB2 : Hid (Below w.heap.size w (W1.alloc (.cells #[.int .u8 (m.sign.toNat : Int), .int .i64 (m.size : Int), .int .i64 (m.number : Int), .bool m.parts] 108))) := HB1.out.alloc HB1.out.size _
  have hmw : w.heap.size ≤ W1.heap.size := HB1.out.size
  generalize hW2 : W1.alloc (.cells #[.int .u8 (m.sign.toNat : Int), .int .i64 (m.size : Int), .int .i64 (m.number : Int), .bool m.parts] 108) = W2 at hmk hl2 HB2
  have l0 := fun u : BwW W2 => cell_blk (u.blk hl2) (i := 0) rfl
  have k1 := fun u : BwW W2 => cell_blk (u.blk hmk) (i := 1) rfl
  simp only [List.getElem_toArray, List.getElem_cons_zero, List.getElem_cons_succ] at l0 k1
  have hclt := hC.lt
  have HI : Hid (∀ u : BwW W2, Calls Tryz.prog 34 #[cptr c] u.wo fun e w' => e = .returned (.int .i64 (indR σ : Int)) ∧ ∃ u' : BwW W2, w' = u'.wo) := fun u => (cur.indent_any ((hC.below HB2.out).below u.is)).mono fun _ w' q => ⟨q.1, u, q.2⟩
  have HMv : Hid (∀ u : BwW W2, Calls Tryz.prog 82 #[cptr c, .int .i64 (m.size : Int)] u.wo fun e w' => e = .returned (.tuple #[]) ∧ w'.heap[w.heap.size]? = some (.cells #[cptr c, .int .i64 (n : Int)] 63 (0, 0)) ∧ Calls Tryz.prog 83 #[lnV c n] w' fun e w' => e = .returned (.int .i64 ((St.padding (moveR m.size σ)).1 : Int)) ∧ ItemAt w r c n m own w.heap.size W1.heap.size B s (St.padding (moveR m.size σ)).2 w') := fun u => (cur.move_any ((hC.below HB2.out).below u.is) (m.size : Int) (by omega)).mono fun e w' q => by
    obtain ⟨q0, q1, q2⟩ := q
    have q1 : Cur w' c (moveR m.size σ) := q1
    have b1 := oth_blk q2 (u.blk hl2) (by omega)
    have b2 := oth_blk q2 (u.blk hmk) (by omega)
    have f1 : Fr (fun g => g = c) w w' := (Fr.of_below (HB2.out.trans (u.is.mono HB2.out.size))).trans (Fr.of_oth q2 rfl)
    refine ⟨q0, b1, (bpad_any q1).mono ?_⟩
    rintro e w2 ⟨rfl, p1, p2⟩
    have f2 := f1.trans p2
    have hcc : clip own w c = 0 := by rw [clip_old hclt]; exact hc
    exact ⟨rfl, clip own w, (h.clip).fr f2 (fun g q e => q (by rw [show g = c from e]; exact hcc)), p1, ⟨f2.mono (fun _ q => .inr q), fun g hg h0 => by rw [clip_old hg]; exact h0⟩, hcc, p2.keeps b1 (by omega), clip_new (Nat.le_refl _), by omega, p2.keeps b2 (by omega), clip_new hmw, by omega⟩
  have HCl : Hid (∀ u, ItemAt w r c n m own w.heap.size W1.heap.size B s (St.padding (moveR m.size σ)).2 u → Calls Tryz.prog 55 #[ptrV r] u fun e w' => e = .returned (.tuple #[]) ∧ ItemAt w r c n m own w.heap.size W1.heap.size B s.clear (St.padding (moveR m.size σ)).2 w') := fun u q => item_clear q (by omega) hon
  have HWf : Hid (1 ≤ s.clear.on ∧ ∀ q, s.clear.opens.getLast? = some q → q.isC = true) := by
    obtain ⟨N, hN⟩ := h.wf
    exact ⟨clear_on hN hon, clear_cont hN hon hl⟩
  have HE : Hid (∀ w, Calls Tryz.prog 62 #[lnV c n] w fun e w' => e = .returned (.agg #[.int .i64 (n : Int), .int .i64 (n : Int)]) ∧ Below w.heap.size w w') := fun w => bext_any c n w
  have hind : indR σ ≤ 1152921504606846976 := by have := (ind_le σ).2; have := hC.wt; unfold wt at this; omega
  have hpd : (St.padding (moveR m.size σ)).1 ≤ 4 := by
    unfold St.padding
    split
    · show 1 ≤ 4
      decide
    · split
      · assumption
      · show 1 ≤ 4
        decide
  generalize hp1 : (St.padding (moveR m.size σ)).1 = pd at *
  generalize hp2 : (St.padding (moveR m.size σ)).2 = σ2 at *
  generalize hid : indR σ = ind at *
  clear hli h hl hC hl2 hmk
  generalize hlbe : w.heap.size = lb at *
  generalize hmbe : W1.heap.size = mb at *
  generalize hsz : m.size = sz at *
  generalize hnb : m.number = nu at *
  generalize hpa : m.parts = pa at *
  generalize hsg : m.sign.toNat = sg at *
  have HQ : Hid (∀ q, s.clear.opens.getLast? = some q → q.isList = false) := by
    intro q hq
    rw [hq] at hsame
    cases q <;> first | rfl | cases hsame
  clear hsame
  have HPu : Hid (∀ u u2, ItemAt w r c n m own lb mb (B + 1) (s.clear.stand (.list { first := n, last := n } m)) σ2 u → Below u.heap.size u u2 → Calls Tryz.prog 70 #[ptrV r, .iface 122 (ptrV u2.heap.size)] (u2.alloc (.cells #[.int .i64 (n : Int), .int .i64 (n : Int), .slice none 0 0, .bool false, .bool false, .int .i64 ((ind + sz + pd : Nat) : Int)] 145)) fun e w' => e = .returned (.tuple #[]) ∧ ItemAt w r c n m own lb mb (B + 2) ((s.clear.stand (.list { first := n, last := n } m)).push (.item { first := n, last := n } (ind + sz + pd))) σ2 w') := fun u u2 q hb => item_push q (by omega) (fun q hq => by rw [(stand_last _ _).1] at hq; cases hq; rfl) (by omega) hb
  have HSt : Hid (∀ u u2, ItemAt w r c n m own lb mb B s.clear σ2 u → Below u.heap.size u u2 → Calls Tryz.prog 43 #[ptrV r, .iface 131 (ptrV u2.heap.size)] (u2.alloc (.cells #[.int .i64 (n : Int), .int .i64 (n : Int), .slice none 0 0, .bool false, .bool false, .int .u8 (sg : Int), .int .i64 (sz : Int), .int .i64 (nu : Int), .bool pa] 143)) fun e w' => e = .returned (.tuple #[]) ∧ ItemAt w r c n m own lb mb (B + 1) (s.clear.stand (.list { first := n, last := n } m)) σ2 w') := fun u u2 q hb => by
    rw [← hsg, ← hsz, ← hnb, ← hpa]
    exact item_stand q (by omega) HWf.out.1 (fun q hq => .inl (HWf.out.2 q hq)) hn hb
  go_enter Tryz.func53, Tryz.ntmps53
  go_wp2
  refine region_class2 (fun w' => ∃ u : BwW W2, w' = u.wo) (by kernel_rfl) (by kernel_rfl) (BwW.first W2) ?_
  haveI := BwW.some W2
  repeat (go_big_quiet_step ((go_at_call 34; exact HI.out _)))
  refine wpQuiet_nil ?_
  intro _ hw'
  obtain ⟨u, hu⟩ := hw'
  subst hu
  go_wp2_with (first
    | (go_at_call 82; refine Calls.mono (HMv.out u) ?_; rintro e a ⟨rfl, hla, hpd⟩; have HPd := (show Hid _ from hpd); have a0 := cell_blk hla (i := 0) rfl; have a1 := cell_blk hla (i := 1) rfl; simp only [List.getElem_toArray, List.getElem_cons_zero, List.getElem_cons_succ] at a0 a1; clear hpd hla)
    | (go_at_call 83; refine Calls.mono HPd.out ?_; rintro e a2 ⟨rfl, hia⟩; have HA : Hid (ItemAt w r c n m own lb mb B s σ2 a2) := hia; clear hia)
    | (go_at_call 55; refine Calls.mono (HCl.out a2 HA.out) ?_; rintro e a3 ⟨rfl, hia⟩; have HA3 : Hid (ItemAt w r c n m own lb mb B s.clear σ2 a3) := hia; obtain ⟨own3, g1, g2, g3, g4, g5, g6, g7, g8, g9, g10⟩ := hia; obtain ⟨q, bq, hq, hI, v, hv⟩ := binner_blk g1 (by omega); have hmks := HQ.out q hq; have ta := (fun w => as_list q bq w); rw [hmks] at ta; have HIn : Hid (Calls Tryz.prog 23 #[ptrV r] a3 fun e w' => e = .returned (.iface (partP q) (ptrV bq)) ∧ ∃ m, w' = a3.drewN m) := hI; generalize partP q = TQ at *; have b0 := (fun uu : BwW a3 => cell_blk (uu.blk g5) (i := 0) rfl); have b1 := (fun uu : BwW a3 => cell_blk (uu.blk g5) (i := 1) rfl); have n0 := (fun uu : BwW a3 => cell_blk (uu.blk g8) (i := 0) rfl); simp only [List.getElem_toArray, List.getElem_cons_zero, List.getElem_cons_succ] at b0 b1 n0; rw [hsg] at n0; rw [hsg, hsz, hnb, hpa] at g8; have HL3 : Hid (a3.heap[lb]? = some (.cells #[cptr c, .int .i64 (n : Int)] 63 (0, 0)) ∧ a3.heap[mb]? = some (.cells #[.int .u8 (sg : Int), .int .i64 (sz : Int), .int .i64 (nu : Int), .bool pa] 108 (0, 0))) := ⟨g5, g8⟩; clear hI hv hq hmks g1 g2 g3 g4 g5 g6 g7 g8 g9 g10)
    | (go_at_call 23; refine HIn.out.mono ?_; rintro e a4 ⟨rfl, k3, rfl⟩))
  refine region_class2 (fun w' => ∃ u : BwW a3, w' = u.wo) (by kernel_rfl) (by kernel_rfl) ⟨BwW.of (w := (a3.drewN k3).drew) ⟨rfl, rfl, rfl, Nat.le_refl _, fun _ _ => rfl⟩, rfl⟩ ?_
  haveI := BwW.some a3
  repeat (go_big_quiet_step (fail))
  refine wpQuiet_nil ?_
  intro _ hw'
  obtain ⟨u5, hu5⟩ := hw'
  subst hu5
  go_wp2
  have hd6 : Below a3.heap.size a3 u5.wo.drew := u5.is.trans ⟨rfl, rfl, rfl, Nat.le_refl _, fun _ _ => rfl⟩
  obtain ⟨c0, c1⟩ := zer2 (blk_below HL3.out.1 hd6)
  obtain ⟨d0, d1, d2, d3⟩ := zer4 (blk_below HL3.out.2 hd6)
  have HD6 : Hid (Below a3.heap.size a3 u5.wo.drew) := hd6
  clear hd6
  go_region_with (first
    | (go_at_call 62; refine (HE.out _).mono ?_; rintro e a6 ⟨rfl, hb6⟩; have HB6 : Hid (Below a3.heap.size a3 a6) := HD6.out.trans (hb6.mono HD6.out.size); obtain ⟨e0, e1, e2, e3⟩ := zer4 (blk_below HL3.out.2 HB6.out); clear hb6)
    | (go_at_call 43; refine (HSt.out a3 a6 HA3.out HB6.out).mono ?_; rintro e a7 ⟨rfl, hia⟩; have HA7 : Hid (ItemAt w r c n m own lb mb (B + 1) (s.clear.stand (.list { first := n, last := n } m)) σ2 a7) := hia; obtain ⟨own7, _, _, _, _, g5, _⟩ := hia; obtain ⟨f0, f1⟩ := zer2 g5; clear g5))
  all_goals
    go_wp2_with (first
      | (go_at_call 62; refine (HE.out _).mono ?_; rintro e a8 ⟨rfl, hb8⟩; have HB8 : Hid (Below a7.heap.size a7 a8) := hb8; clear hb8)
      | (go_at_call 70; refine (HPu.out a7 a8 HA7.out HB8.out).mono ?_; rintro e a9 ⟨rfl, hL⟩))
    go_ret
    exact ⟨rfl, hL⟩


end Go.Proofs.YtcbojffcnlkejaaGreatDoor

/- What begins: an Item, another List. -/
namespace Go.Proofs.YtcbojffcnlkejaaGreatDoor
open Go.RowKit
open cur (cell_blk free_blk set_blk blk_below Cur cptr Oth)

set_option maxHeartbeats 8000000 in
theorem bitem_diff {w : World} {r c n : Nat} {m : Mk} {own : Nat → Nat} {B : Nat} {s : St} {σ : Pl} (h : Good w r own B s) (hB : B + 1 ≤ 549755813888) (hon : 1 ≤ s.on) (hl : LeafLeft s) (hC : Cur w c σ) (hc : own c = 0) (hn : n ≤ B) (hms : m.size ≤ 549755813888) {sgn : UInt8} (hsame : s.clear.opens.getLast?.bind St.listSign = some sgn) (hdiff : sgn ≠ m.sign) :
    Calls Tryz.prog 53 #[ptrV r, lnV c n, mkV m] w fun e w' => e = .returned (.int .i64 0) ∧ ItemAt w r c n m own w.heap.size (w.alloc (.cells #[cptr c, .int .i64 (n : Int)] 63)).heap.size (B + 2) ((s.clear.stand (.list { first := n, last := n } m)).push (.item { first := n, last := n } (indR σ + m.size + (St.padding (moveR m.size σ)).1))) (St.padding (moveR m.size σ)).2 w' := by
  have hli := line_blk c n w
  have HB1 : Hid (Below w.heap.size w (w.alloc (.cells #[cptr c, .int .i64 (n : Int)] 63))) := (Below.refl _ _).alloc (Nat.le_refl _) _
  generalize hW : w.alloc (.cells #[cptr c, .int .i64 (n : Int)] 63) = W1 at hli HB1
  have hmk := new_blk W1 #[.int .u8 (m.sign.toNat : Int), .int .i64 (m.size : Int), .int .i64 (m.number : Int), .bool m.parts] 108
  have hl2 := blk_below hli ((Below.refl _ _).alloc (Nat.le_refl _) (.cells #[.int .u8 (m.sign.toNat : Int), .int .i64 (m.size : Int), .int .i64 (m.number : Int), .bool m.parts] 108))
  have HB2 : Hid (Below w.heap.size w (W1.alloc (.cells #[.int .u8 (m.sign.toNat : Int), .int .i64 (m.size : Int), .int .i64 (m.number : Int), .bool m.parts] 108))) := HB1.out.alloc HB1.out.size _
  have hmw : w.heap.size ≤ W1.heap.size := HB1.out.size
  generalize hW2 : W1.alloc (.cells #[.int .u8 (m.sign.toNat : Int), .int .i64 (m.size : Int), .int .i64 (m.number : Int), .bool m.parts] 108) = W2 at hmk hl2 HB2
  have l0 := fun u : BwW W2 => cell_blk (u.blk hl2) (i := 0) rfl
  have k1 := fun u : BwW W2 => cell_blk (u.blk hmk) (i := 1) rfl
  simp only [List.getElem_toArray, List.getElem_cons_zero, List.getElem_cons_succ] at l0 k1
  have hclt := hC.lt
  have HI : Hid (∀ u : BwW W2, Calls Tryz.prog 34 #[cptr c] u.wo fun e w' => e = .returned (.int .i64 (indR σ : Int)) ∧ ∃ u' : BwW W2, w' = u'.wo) := fun u => (cur.indent_any ((hC.below HB2.out).below u.is)).mono fun _ w' q => ⟨q.1, u, q.2⟩
  have HMv : Hid (∀ u : BwW W2, Calls Tryz.prog 82 #[cptr c, .int .i64 (m.size : Int)] u.wo fun e w' => e = .returned (.tuple #[]) ∧ w'.heap[w.heap.size]? = some (.cells #[cptr c, .int .i64 (n : Int)] 63 (0, 0)) ∧ Calls Tryz.prog 83 #[lnV c n] w' fun e w' => e = .returned (.int .i64 ((St.padding (moveR m.size σ)).1 : Int)) ∧ ItemAt w r c n m own w.heap.size W1.heap.size B s (St.padding (moveR m.size σ)).2 w') := fun u => (cur.move_any ((hC.below HB2.out).below u.is) (m.size : Int) (by omega)).mono fun e w' q => by
    obtain ⟨q0, q1, q2⟩ := q
    have q1 : Cur w' c (moveR m.size σ) := q1
    have b1 := oth_blk q2 (u.blk hl2) (by omega)
    have b2 := oth_blk q2 (u.blk hmk) (by omega)
    have f1 : Fr (fun g => g = c) w w' := (Fr.of_below (HB2.out.trans (u.is.mono HB2.out.size))).trans (Fr.of_oth q2 rfl)
    refine ⟨q0, b1, (bpad_any q1).mono ?_⟩
    rintro e w2 ⟨rfl, p1, p2⟩
    have f2 := f1.trans p2
    have hcc : clip own w c = 0 := by rw [clip_old hclt]; exact hc
    exact ⟨rfl, clip own w, (h.clip).fr f2 (fun g q e => q (by rw [show g = c from e]; exact hcc)), p1, ⟨f2.mono (fun _ q => .inr q), fun g hg h0 => by rw [clip_old hg]; exact h0⟩, hcc, p2.keeps b1 (by omega), clip_new (Nat.le_refl _), by omega, p2.keeps b2 (by omega), clip_new hmw, by omega⟩
  have HCl : Hid (∀ u, ItemAt w r c n m own w.heap.size W1.heap.size B s (St.padding (moveR m.size σ)).2 u → Calls Tryz.prog 55 #[ptrV r] u fun e w' => e = .returned (.tuple #[]) ∧ ItemAt w r c n m own w.heap.size W1.heap.size B s.clear (St.padding (moveR m.size σ)).2 w') := fun u q => item_clear q (by omega) hon
  have HWf : Hid (1 ≤ s.clear.on ∧ ∀ q, s.clear.opens.getLast? = some q → q.isC = true) := by
    obtain ⟨N, hN⟩ := h.wf
    exact ⟨clear_on hN hon, clear_cont hN hon hl⟩
  have HE : Hid (∀ w, Calls Tryz.prog 62 #[lnV c n] w fun e w' => e = .returned (.agg #[.int .i64 (n : Int), .int .i64 (n : Int)]) ∧ Below w.heap.size w w') := fun w => bext_any c n w
  have hind : indR σ ≤ 1152921504606846976 := by have := (ind_le σ).2; have := hC.wt; unfold wt at this; omega
  have hpd : (St.padding (moveR m.size σ)).1 ≤ 4 := by
    unfold St.padding
    split
    · show 1 ≤ 4
      decide
    · split
      · assumption
      · show 1 ≤ 4
        decide
  generalize hp1 : (St.padding (moveR m.size σ)).1 = pd at *
  generalize hp2 : (St.padding (moveR m.size σ)).2 = σ2 at *
  generalize hid : indR σ = ind at *
  clear hli h hl hC hl2 hmk
  generalize hlbe : w.heap.size = lb at *
  generalize hmbe : W1.heap.size = mb at *
  generalize hsz : m.size = sz at *
  generalize hnb : m.number = nu at *
  generalize hpa : m.parts = pa at *
  have hdf : ((sgn.toNat : Int) == (m.sign.toNat : Int)) = false := by
    have : sgn.toNat ≠ m.sign.toNat := fun e => hdiff (UInt8.toNat_inj.1 e)
    simp; omega
  generalize hs2 : sgn.toNat = sg2 at *
  generalize hsg : m.sign.toNat = sg at *
  have HQ : Hid (∀ q, s.clear.opens.getLast? = some q → ∃ x mk, q = .list x mk ∧ mk.sign.toNat = sg2) := by
    intro q hq
    rw [hq] at hsame
    cases q with
    | list x mk => exact ⟨x, mk, rfl, by have : some mk.sign = some sgn := hsame; rw [Option.some.inj this]; exact hs2⟩
    | _ => cases hsame
  clear hsame hdiff
  have HPu : Hid (∀ u u2, ItemAt w r c n m own lb mb (B + 1) (s.clear.stand (.list { first := n, last := n } m)) σ2 u → Below u.heap.size u u2 → Calls Tryz.prog 70 #[ptrV r, .iface 122 (ptrV u2.heap.size)] (u2.alloc (.cells #[.int .i64 (n : Int), .int .i64 (n : Int), .slice none 0 0, .bool false, .bool false, .int .i64 ((ind + sz + pd : Nat) : Int)] 145)) fun e w' => e = .returned (.tuple #[]) ∧ ItemAt w r c n m own lb mb (B + 2) ((s.clear.stand (.list { first := n, last := n } m)).push (.item { first := n, last := n } (ind + sz + pd))) σ2 w') := fun u u2 q hb => item_push q (by omega) (fun q hq => by rw [(stand_last _ _).1] at hq; cases hq; rfl) (by omega) hb
  have HSt : Hid (∀ u u2, ItemAt w r c n m own lb mb B s.clear σ2 u → Below u.heap.size u u2 → Calls Tryz.prog 43 #[ptrV r, .iface 131 (ptrV u2.heap.size)] (u2.alloc (.cells #[.int .i64 (n : Int), .int .i64 (n : Int), .slice none 0 0, .bool false, .bool false, .int .u8 (sg : Int), .int .i64 (sz : Int), .int .i64 (nu : Int), .bool pa] 143)) fun e w' => e = .returned (.tuple #[]) ∧ ItemAt w r c n m own lb mb (B + 1) (s.clear.stand (.list { first := n, last := n } m)) σ2 w') := fun u u2 q hb => by
    rw [← hsg, ← hsz, ← hnb, ← hpa]
    exact item_stand q (by omega) HWf.out.1 (fun q hq => .inl (HWf.out.2 q hq)) hn hb
  go_enter Tryz.func53, Tryz.ntmps53
  go_wp2
  refine region_class2 (fun w' => ∃ u : BwW W2, w' = u.wo) (by kernel_rfl) (by kernel_rfl) (BwW.first W2) ?_
  haveI := BwW.some W2
  repeat (go_big_quiet_step ((go_at_call 34; exact HI.out _)))
  refine wpQuiet_nil ?_
  intro _ hw'
  obtain ⟨u, hu⟩ := hw'
  subst hu
  go_wp2_with (first
    | (go_at_call 82; refine Calls.mono (HMv.out u) ?_; rintro e a ⟨rfl, hla, hpd⟩; have HPd := (show Hid _ from hpd); have a0 := cell_blk hla (i := 0) rfl; have a1 := cell_blk hla (i := 1) rfl; simp only [List.getElem_toArray, List.getElem_cons_zero, List.getElem_cons_succ] at a0 a1; clear hpd hla)
    | (go_at_call 83; refine Calls.mono HPd.out ?_; rintro e a2 ⟨rfl, hia⟩; have HA : Hid (ItemAt w r c n m own lb mb B s σ2 a2) := hia; clear hia)
    | (go_at_call 55; refine Calls.mono (HCl.out a2 HA.out) ?_; rintro e a3 ⟨rfl, hia⟩; have HA3 : Hid (ItemAt w r c n m own lb mb B s.clear σ2 a3) := hia; obtain ⟨own3, g1, g2, g3, g4, g5, g6, g7, g8, g9, g10⟩ := hia; obtain ⟨q, bq, hq, hI, v, hv⟩ := binner_blk g1 (by omega); obtain ⟨x, mk, rfl, hmks⟩ := HQ.out q hq; have ta : (∀ w, (Instr.typeAssert (.iface 131 (ptrV bq)) 66 131 true).run Tryz.prog w = .ok (.tuple #[ptrV bq, .bool true]) w) := (fun w => as_list (.list x mk) bq w); have HIn : Hid (Calls Tryz.prog 23 #[ptrV r] a3 fun e w' => e = .returned (.iface 131 (ptrV bq)) ∧ ∃ m, w' = a3.drewN m) := hI; have s5 := (fun uu : BwW a3 => cell_blk (uu.blk hv) (i := 5) rfl); have b0 := (fun uu : BwW a3 => cell_blk (uu.blk g5) (i := 0) rfl); have b1 := (fun uu : BwW a3 => cell_blk (uu.blk g5) (i := 1) rfl); have n0 := (fun uu : BwW a3 => cell_blk (uu.blk g8) (i := 0) rfl); simp only [partCs, List.getElem_toArray, List.getElem_cons_zero, List.getElem_cons_succ] at s5 b0 b1 n0; rw [hmks] at s5; rw [hsg] at n0; rw [hsg, hsz, hnb, hpa] at g8; have HL3 : Hid (a3.heap[lb]? = some (.cells #[cptr c, .int .i64 (n : Int)] 63 (0, 0)) ∧ a3.heap[mb]? = some (.cells #[.int .u8 (sg : Int), .int .i64 (sz : Int), .int .i64 (nu : Int), .bool pa] 108 (0, 0))) := ⟨g5, g8⟩; clear hI hv hq hmks g1 g2 g3 g4 g5 g6 g7 g8 g9 g10)
    | (go_at_call 23; refine HIn.out.mono ?_; rintro e a4 ⟨rfl, k3, rfl⟩))
  refine region_class2 (fun w' => ∃ u : BwW a3, w' = u.wo) (by kernel_rfl) (by kernel_rfl) ⟨BwW.of (w := (a3.drewN k3).drew) ⟨rfl, rfl, rfl, Nat.le_refl _, fun _ _ => rfl⟩, rfl⟩ ?_
  haveI := BwW.some a3
  repeat (go_big_quiet_step (fail))
  refine wpQuiet_nil ?_
  intro _ hw'
  obtain ⟨u5, hu5⟩ := hw'
  subst hu5
  go_wp2
  have hd6 : Below a3.heap.size a3 u5.wo.drew := u5.is.trans ⟨rfl, rfl, rfl, Nat.le_refl _, fun _ _ => rfl⟩
  obtain ⟨c0, c1⟩ := zer2 (blk_below HL3.out.1 hd6)
  obtain ⟨d0, d1, d2, d3⟩ := zer4 (blk_below HL3.out.2 hd6)
  have HD6 : Hid (Below a3.heap.size a3 u5.wo.drew) := hd6
  clear hd6
  go_region_with (first
    | (go_at_call 62; refine (HE.out _).mono ?_; rintro e a6 ⟨rfl, hb6⟩; have HB6 : Hid (Below a3.heap.size a3 a6) := HD6.out.trans (hb6.mono HD6.out.size); obtain ⟨e0, e1, e2, e3⟩ := zer4 (blk_below HL3.out.2 HB6.out); clear hb6)
    | (go_at_call 43; refine (HSt.out a3 a6 HA3.out HB6.out).mono ?_; rintro e a7 ⟨rfl, hia⟩; have HA7 : Hid (ItemAt w r c n m own lb mb (B + 1) (s.clear.stand (.list { first := n, last := n } m)) σ2 a7) := hia; obtain ⟨own7, _, _, _, _, g5, _⟩ := hia; obtain ⟨f0, f1⟩ := zer2 g5; clear g5))
  all_goals
    go_wp2_with (first
      | (go_at_call 62; refine (HE.out _).mono ?_; rintro e a8 ⟨rfl, hb8⟩; have HB8 : Hid (Below a7.heap.size a7 a8) := hb8; clear hb8)
      | (go_at_call 70; refine (HPu.out a7 a8 HA7.out HB8.out).mono ?_; rintro e a9 ⟨rfl, hL⟩))
    go_ret
    exact ⟨rfl, hL⟩


theorem ItemAt.left {w u : World} {r c n : Nat} {m : Mk} {own : Nat → Nat} {lb mb B B2 : Nat} {s : St} {σ : Pl} (h : ItemAt w r c n m own lb mb B s σ u) (hB : B ≤ B2) : LeftC w r own c B2 s σ u := by
  obtain ⟨own', h1, h2, h3, _⟩ := h
  exact ⟨own', h1.more hB, h2, h3⟩

theorem bbeginItem_any {w : World} {r c n : Nat} {m : Mk} {own : Nat → Nat} {B : Nat} {s : St} {σ : Pl} (h : Good w r own B s) (hB : B + 1 ≤ 549755813888) (hon : 1 ≤ s.on) (hl : LeafLeft s) (hC : Cur w c σ) (hc : own c = 0) (hn : n ≤ B) (hms : m.size ≤ 549755813888) :
    Calls Tryz.prog 53 #[ptrV r, lnV c n, mkV m] w fun e w' => e = .returned (.int .i64 0) ∧ LeftC w r own c (B + 2) (s.beginItem n σ m).1 (s.beginItem n σ m).2 w' := by
  unfold St.beginItem
  simp only
  cases hq : s.clear.opens.getLast?.bind St.listSign with
  | none =>
    rw [if_neg (by simp)]
    exact (bitem_none h hB hon hl hC hc hn hms hq).mono fun _ _ q => ⟨q.1, q.2.left (Nat.le_refl _)⟩
  | some sg =>
    by_cases hs : sg = m.sign
    · subst hs
      rw [if_pos rfl]
      exact (bitem_same h hB hon hl hC hc hn hms hq).mono fun _ _ q => ⟨q.1, q.2.left (by omega)⟩
    · rw [if_neg (by simpa using hs)]
      exact (bitem_diff h hB hon hl hC hc hn hms hq hs).mono fun _ _ q => ⟨q.1, q.2.left (Nat.le_refl _)⟩

end Go.Proofs.YtcbojffcnlkejaaGreatDoor
