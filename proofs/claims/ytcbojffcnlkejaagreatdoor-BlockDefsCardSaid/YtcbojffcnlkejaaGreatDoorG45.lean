/- Several texts in one. -/
import Derived.Test.YtcbojffcnlkejaaGreatDoorG44
import Derived.Test.YtcbojffcnlkejaaGreatDoorG29
set_option linter.unusedVariables false
/- A row more of a part of lines. -/
namespace Go.Proofs.YtcbojffcnlkejaaGreatDoor
open Go.RowKit
open cur (cell_blk free_blk set_blk blk_below Cur cptr Oth)

theorem infoS : (Tryz.prog.info? 9).map (fun i => (i.zero, i.size, i.bytes)) = some (some (.string ⟨#[]⟩), 1, 16) := by kernel_rfl

/-- A body's cells, and what is behind them. -/
abbrev bodyL (x : Body) (v : Value) (ex : List Value) : List Value := .int .i64 (x.first : Int) :: .int .i64 (x.last : Int) :: v :: ex

/-- What is left when a body has got a row more. -/
def RowW (w : World) (b : Nat) (v : Value) (x' : Body) (ex : List Value) (t : TypeId) (w' : World) : Prop := ∃ v', w'.heap[b]? = some (.cells (bodyL x' v' ex).toArray t (0, 0)) ∧ w'.ownsRow 0 9 1 v' x'.rows.length (strCs x'.rows) ∧ (∀ g, v'.ownBlock = some g → v.ownBlock = some g ∨ w.heap.size ≤ g) ∧ Fr (fun g => g = b ∨ v.ownBlock = some g) w w'

set_option maxHeartbeats 2000000 in
theorem brow_any {w : World} {b c n : Nat} {x : Body} {v : Value} {ex : List Value} {t : TypeId} (h : w.heap[b]? = some (.cells (bodyL x v ex).toArray t (0, 0))) (hrow : w.ownsRow 0 9 1 v x.rows.length (strCs x.rows)) (ht : t ≠ 9) (hz : x.rows.length ≤ 1099511627776) (s : Str) :
    Calls Tryz.prog 56 #[ptrV b, lnV c n, strV s] w fun e w' => e = .returned (.tuple #[]) ∧ RowW w b v (x.add n s) ex t w' := by
  obtain ⟨a, cc, rfl, hcap⟩ := row_slice hrow
  have hl := line_blk c n w
  have HB1 : Hid (Below w.heap.size w (w.alloc (.cells #[cptr c, .int .i64 (n : Int)] 63))) := (Below.refl _ _).alloc (Nat.le_refl _) _
  generalize hW : w.alloc (.cells #[cptr c, .int .i64 (n : Int)] 63) = W1 at hl HB1
  have hb1 := blk_below h HB1.out
  have hrow1 := row_below hrow HB1.out
  have hblt := lt_of_block h
  have hgl : ∀ g, (Value.slice a x.rows.length cc).ownBlock = some g → g < w.heap.size := fun g hg => (World.ownsRow.lt hrow g hg).2
  have hgb : ∀ g, (Value.slice a x.rows.length cc).ownBlock = some g → g ≠ b := by
    intro g hg e
    obtain ⟨cu, q⟩ := row_block hrow hg
    rw [e, h] at q
    cases q
    exact ht rfl
  have c2 := cell_blk hb1 (i := 2) rfl
  have a2 := fun o => alc c2 o
  simp only [List.getElem_toArray, List.getElem_cons_zero, List.getElem_cons_succ] at c2 a2
  obtain ⟨i0, hi, hz0, hz1, hz2⟩ := info_parts infoS
  have HBb := (show Hid _ from hb1)
  have HLb := (show Hid _ from hl)
  have hadd : x.add n s = { first := x.first, last := n, rows := x.rows ++ [s] } := rfl
  rw [hadd]
  clear h hl hb1 hrow hadd
  generalize hn : x.rows.length = m at *
  generalize hlbe : w.heap.size = lb at *
  go_enter Tryz.func56, Tryz.ntmps56
  go_wp2_with (at_builtin; refine wpList_append_own_at _ rfl _ _ 23 rfl 0 9 i0 (.string ⟨#[]⟩) 1 16 Tryz.underlying23 hi hz0 hz1 hz2 rfl (by decide) _ _ _ rfl (World.ownsRow.alloc hrow1 _) ⟨W1.heap.size, 0, none⟩ 1 1 [strV s] rfl rfl (lit_cells _ _ _) ?c2 ?c3 ?c4 ?c5 ?_)
  case c2 => intro u hu; simp at hu; subst hu; rfl
  case c3 => unfold maxLen; omega
  case c4 => omega
  case c5 => exact Nat.zero_le _
  intro v' w2 hown' hgrow _ hat
  obtain ⟨g, c', rfl⟩ : ∃ g c', v' = .slice (some ⟨g, 0, none⟩) (m + 1) c' := by
    rcases hown'.2 with ⟨_, q⟩ | ⟨g, cap, cur, rfl, _⟩
    · omega
    · exact ⟨g, cap, rfl⟩
  have hW1s : lb < W1.heap.size := by rw [← hW]; simp; omega
  have hb2 : w2.heap[b]? = _ := (hgrow.block b (by simp; omega) (fun e => hgb b e.symm rfl)).trans (blk_below HBb.out ((Below.refl _ _).alloc (Nat.le_refl _) _))
  have hl2 : w2.heap[lb]? = _ := (hgrow.block lb (by simp; omega) (fun e => by have := hgl lb e.symm; omega)).trans (blk_below HLb.out ((Below.refl _ _).alloc (Nat.le_refl _) _))
  have d2 := cell_blk hb2 (i := 2) rfl
  have d1 := cell_blk hb2 (i := 1) rfl
  have g2 := free_blk hb2 2
  have g1 := free_blk hb2 1
  have l1 := cell_blk hl2 (i := 1) rfl
  simp only [List.getElem_toArray, List.getElem_cons_zero, List.getElem_cons_succ] at d2 d1 l1
  have HO' := (show Hid (w2.ownsRow 0 9 1 (.slice (some ⟨g, 0, none⟩) (m + 1) c') (m + 1) (strCs x.rows ++ [strV s])) from hown')
  have HG' := (show Hid _ from hgrow)
  have HAT := (show Hid _ from hat)
  have HB2 := (show Hid _ from hb2)
  have hblb : b ≠ lb := by omega
  clear hown' hgrow hat hb2 hl2 hrow1
  go_wp2
  go_end0
  have hgnb : g ≠ b := by
    intro e
    rcases HAT.out with q | q
    · exact hgb g q.symm e
    · cases q; simp at e; omega
  have F1 : Fr (fun k => k = b ∨ (Value.slice a m cc).ownBlock = some k) w w2 := ((Fr.of_below (hlbe ▸ HB1.out)).alloc _).trans ((fr_grown HG'.out).mono (fun k q => .inr q))
  refine ⟨rfl, .slice (some ⟨g, 0, none⟩) (m + 1) c', ?_, ?_, ?_, (F1.set (.inl rfl) 2 _).set (.inl rfl) 1 _⟩
  · have q := set_blk (set_blk HB2.out 2 (.slice (some ⟨g, 0, none⟩) (m + 1) c')) 1 (.int .i64 (n : Int))
    simpa using q
  · show World.ownsRow _ 0 _ 1 _ (x.rows ++ [s]).length (strCs (x.rows ++ [s]))
    rw [List.length_append, hn, show strCs (x.rows ++ [s]) = strCs x.rows ++ [strV s] from List.map_append]
    exact row_keeps HO'.out (fun k hk => by cases hk; exact (Below.heap_setCell _ _ _ _ (by simpa using hgnb)).trans (Below.heap_setCell _ _ _ _ (by simpa using hgnb)))
  · intro k hk
    cases hk
    rcases HAT.out with q | q
    · exact .inl q.symm
    · cases q; right; simp; omega

end Go.Proofs.YtcbojffcnlkejaaGreatDoor

/- Code without fences takes a line. -/
namespace Go.Proofs.YtcbojffcnlkejaaGreatDoor
open Go.RowKit
open cur (cell_blk free_blk set_blk blk_below Cur cptr Oth)

/-- What is left when a body has taken a line. -/
def TookW (w : World) (b c : Nat) (v : Value) (x' : Body) (ex : List Value) (t : TypeId) (σ' : Pl) (w' : World) : Prop := ∃ v', w'.heap[b]? = some (.cells (bodyL x' v' ex).toArray t (0, 0)) ∧ w'.ownsRow 0 9 1 v' x'.rows.length (strCs x'.rows) ∧ (∀ g, v'.ownBlock = some g → v.ownBlock = some g ∨ w.heap.size ≤ g) ∧ Cur w' c σ' ∧ Fr (fun g => g = b ∨ v.ownBlock = some g ∨ g = c) w w'

theorem cur_fr {w w' : World} {c : Nat} {σ : Pl} {X : Nat → Prop} (h : Cur w c σ) (hf : Fr X w w') (hx : ¬ X c) : Cur w' c σ := by
  obtain ⟨s, p, c', wi, h1, h2⟩ := h
  exact ⟨s, p, c', wi, hf.keeps h1 hx, h2⟩
theorem row_fr {w w' : World} {e : TypeId} {s : Nat} {v : Value} {n : Nat} {xs : List Value} {X : Nat → Prop} (h : w.ownsRow 0 e s v n xs) (hf : Fr X w w') (hx : ∀ g, v.ownBlock = some g → ¬ X g) : w'.ownsRow 0 e s v n xs := row_keeps h fun g hg => hf.block g (World.ownsRow.lt h g hg).2 (hx g hg)
/-- A row's block is no cursor. -/
theorem cur_row {w : World} {c : Nat} {σ : Pl} {e : TypeId} {s : Nat} {v : Value} {n : Nat} {xs : List Value} (hC : Cur w c σ) (h : w.ownsRow 0 e s v n xs) (he : e ≠ 77) : ∀ g, v.ownBlock = some g → g ≠ c := by
  intro g hg q
  obtain ⟨cu, x⟩ := row_block h hg
  obtain ⟨s', p, c', wi, h1, _⟩ := hC
  rw [q, h1] at x
  cases x
  exact he rfl

set_option maxHeartbeats 4000000 in
theorem btake_any {w : World} {b c n : Nat} {σ : Pl} {x : Body} {v : Value} (h : w.heap[b]? = some (.cells (bodyL x v []).toArray 120 (0, 0))) (hrow : w.ownsRow 0 9 1 v x.rows.length (strCs x.rows)) (hz : x.rows.length ≤ 1099511627776) (hC : Cur w c σ) (hbc : b ≠ c) :
    Calls Tryz.prog 60 #[ptrV b, lnV c n] w fun e w' => e = .returned (.tuple #[]) ∧ TookW w b c v (takeI x n σ) [] 120 (skipR 4 σ) w' := by
  have hl := line_blk c n w
  have HB1 : Hid (Below w.heap.size w (w.alloc (.cells #[cptr c, .int .i64 (n : Int)] 63))) := (Below.refl _ _).alloc (Nat.le_refl _) _
  generalize hW : w.alloc (.cells #[cptr c, .int .i64 (n : Int)] 63) = W1 at hl HB1
  have hC1 := hC.below HB1.out
  have hb1 := blk_below h HB1.out
  have hr1 := row_below hrow HB1.out
  have hlc : w.heap.size ≠ c := by have := hC.lt; omega
  have hlb : w.heap.size ≠ b := by have := lt_of_block h; omega
  have hgc := cur_row hC hrow (by decide)
  have hgl : ∀ g, v.ownBlock = some g → g ≠ w.heap.size := fun g hg => by have := (World.ownsRow.lt hrow g hg).2; omega
  have l0 := cell_blk hl (i := 0) rfl
  have l1 := cell_blk hl (i := 1) rfl
  simp only [List.getElem_toArray, List.getElem_cons_zero, List.getElem_cons_succ] at l0 l1
  have HBl : Hid (Calls Tryz.prog 54 #[cptr c] W1 fun e w' => e = .returned (.bool (beh σ.1).isEmpty) ∧ ∃ m, w' = W1.drewN m) := cur.blank_any hC1
  have HS : Hid (∀ m, Calls Tryz.prog 87 #[cptr c, .int .i64 4] (W1.drewN m) fun e w' => e = .returned (.int .i64 (((skipR 4 σ).2.2 : Int) - (σ.2.2 : Int))) ∧ Cur w' c (skipR 4 σ) ∧ Oth c W1 w') := fun m => (cur.skip_any (hC1.drewN m) 4 (by decide)).mono fun _ w' q => ⟨q.1, q.2.1, (((Oth.refl c W1).drewN m)).trans q.2.2⟩
  have HB := (show Hid (W1.heap[b]? = some (.cells (bodyL x v []).toArray 120 (0, 0))) from hb1)
  have HL := (show Hid (W1.heap[w.heap.size]? = some (.cells #[cptr c, .int .i64 (n : Int)] 63 (0, 0))) from hl)
  have HRow : Hid (W1.ownsRow 0 9 1 v x.rows.length (strCs x.rows)) := hr1
  -- what follows the Skip, in whatever world it leaves
  have HRest : Hid (∀ u : World, Cur u c (skipR 4 σ) → Oth c W1 u → (u.heap[b]? = some (.cells (bodyL x v []).toArray 120 (0, 0)) ∧ u.heap[w.heap.size]? = some (.cells #[cptr c, .int .i64 (n : Int)] 63 (0, 0)) ∧ u.ownsRow 0 9 1 v x.rows.length (strCs x.rows) ∧ Fr (fun g => g = c) w u)) := fun u hcu hou => ⟨oth_blk hou HB.out hbc, oth_blk hou HL.out hlc, row_keeps HRow.out (fun g hg => hou.block (hgc g hg)), (Fr.of_below HB1.out).trans (Fr.of_oth hou rfl)⟩
  have b1 := fun m : Nat => cell_blk (w := W1.drewN m) hb1 (i := 1) rfl
  simp only [List.getElem_toArray, List.getElem_cons_zero, List.getElem_cons_succ] at b1
  have HG : Hid (∀ g, v.ownBlock = some g → g ≠ w.heap.size ∧ g ≠ c) := fun g hg => ⟨hgl g hg, hgc g hg⟩
  have hbl : blankB σ = (beh σ.1).isEmpty := rfl
  have HT : Hid (takeI x n σ = { first := x.first, last := if (beh σ.1).isEmpty then x.last else n, rows := x.rows ++ [restR (skipR 4 σ)] }) := rfl
  generalize takeI x n σ = X at *
  clear hl h hC hb1 hC1 hr1 hrow hgl hgc hbl
  generalize hlbe : w.heap.size = lb at *
  cases hbb : (beh σ.1).isEmpty
  · rw [hbb] at HBl HT
    go_enter Tryz.func60, Tryz.ntmps60
    go_wp2_with (first
      | (go_at_call 54; refine HBl.out.mono ?_; rintro e u ⟨rfl, m, rfl⟩)
      | (go_at_call 87; refine (HS.out m).mono ?_; rintro e u ⟨rfl, hcu, hou⟩; obtain ⟨k1, k2, k3, k4⟩ := HRest.out u hcu hou; have HCU : Hid (Cur u c (skipR 4 σ)) := hcu; clear hcu hou))
    have l02 := fun uu : BwW u => cell_blk (uu.blk k2) (i := 0) rfl
    have l12 := fun uu : BwW u => cell_blk (uu.blk k2) (i := 1) rfl
    simp only [List.getElem_toArray, List.getElem_cons_zero, List.getElem_cons_succ] at l02 l12
    have HRe : Hid (∀ uu : BwW u, Calls Tryz.prog 88 #[cptr c] uu.wo fun e w' => e = .returned (.string ⟨(restR (skipR 4 σ)).toArray⟩) ∧ ∃ u' : BwW u, w' = u'.wo) := fun uu => (cur.rest_any (HCU.out.below uu.is)).mono fun _ w' q => ⟨q.1, by obtain ⟨m, e⟩ := q.2; exact ⟨BwW.of (w := uu.wo.drewN m) (uu.is.trans ⟨rfl, rfl, rfl, Nat.le_refl _, fun _ _ => rfl⟩), e⟩⟩
    have HAd : Hid (∀ uu : BwW u, Calls Tryz.prog 56 #[ptrV b, lnV c n, strV (restR (skipR 4 σ))] uu.wo fun e w' => e = .returned (.tuple #[]) ∧ RowW uu.wo b v (x.add n (restR (skipR 4 σ))) [] 120 w') := fun uu => brow_any (uu.blk k1) (row_below k3 uu.is) (by decide) hz _
    have HF0 : Hid (Fr (fun g => g = c) w u) := k4
    have HLt : Hid (b < u.heap.size) := lt_of_block k1
    have HRw : Hid (∀ g, v.ownBlock = some g → g < u.heap.size) := fun g hg => (World.ownsRow.lt k3 g hg).2
    clear k1 k2 k3 k4 l0 l1 b1
    generalize hRR : restR (skipR 4 σ) = RR at *
    refine region_tail (fun w' => ∃ uu : BwW u, w' = uu.wo) 7 (by kernel_rfl) (by kernel_rfl) (BwW.first u) ?_
    haveI := BwW.some u
    simp only [List.take_succ_cons, List.take_zero]
    repeat (go_big_quiet_step ((go_at_call 88; exact HRe.out _)))
    refine wpQuiet_nil ?_
    intro _ hw'
    obtain ⟨u5, hu5⟩ := hw'
    subst hu5
    simp only [List.drop_succ_cons, List.drop_zero]
    go_wp2_with (go_at_call 56; refine (HAd.out u5).mono ?_; rintro e w5 ⟨rfl, v', y1, y2, y3, y4⟩; have d1 := cell_blk y1 (i := 1) rfl; have g1 := free_blk y1 1; simp only [List.getElem_toArray, List.getElem_cons_zero, List.getElem_cons_succ] at d1; have HY := (show Hid (w5.heap[b]? = some (.cells (bodyL (x.add n RR) v' []).toArray 120 (0, 0)) ∧ w5.ownsRow 0 9 1 v' (x.add n RR).rows.length (strCs (x.add n RR).rows) ∧ (∀ g, v'.ownBlock = some g → v.ownBlock = some g ∨ u5.wo.heap.size ≤ g) ∧ Fr (fun g => g = b ∨ v.ownBlock = some g) u5.wo w5) from ⟨y1, y2, y3, y4⟩); clear y1 y2 y3 y4)
    go_end0
    have F5 : Fr (fun g => g = b ∨ v.ownBlock = some g ∨ g = c) w w5 := ((HF0.out.mono (fun k q => .inr (.inr q))).trans (Fr.of_below u5.is)).trans (HY.out.2.2.2.mono (fun k q => q.elim .inl (fun q => .inr (.inl q))))
    have hsz : w.heap.size ≤ u5.wo.heap.size := Nat.le_trans HF0.out.size u5.is.size
    refine ⟨rfl, v', ?_, ?_, fun g hg => (HY.out.2.2.1 g hg).imp id (fun q => Nat.le_trans hsz q), ?_, F5.set (.inl rfl) 1 _⟩
    · rw [HT.out]
      have q := set_blk HY.out.1 1 (.int .i64 (n : Int))
      simpa [Body.add] using q
    · rw [HT.out]
      refine row_keeps HY.out.2.1 (fun g hg => Below.heap_setCell _ _ _ _ ?_)
      intro e
      have e : g = b := e
      obtain ⟨cu, q⟩ := row_block HY.out.2.1 hg
      rw [e, HY.out.1] at q
      cases q
    · have hc5 : Cur w5 c (skipR 4 σ) := cur_fr (HCU.out.below u5.is) HY.out.2.2.2 (by
        rintro (q | q)
        · exact hbc q.symm
        · exact (HG.out c q).2 rfl)
      exact hc5.oth ((Oth.refl b w5).set 1 _) (Ne.symm hbc)
  · rw [hbb] at HBl HT
    go_enter Tryz.func60, Tryz.ntmps60
    go_wp2_with (first
      | (go_at_call 54; refine HBl.out.mono ?_; rintro e u ⟨rfl, m, rfl⟩)
      | (go_at_call 87; refine (HS.out m).mono ?_; rintro e u ⟨rfl, hcu, hou⟩; obtain ⟨k1, k2, k3, k4⟩ := HRest.out u hcu hou; have HCU : Hid (Cur u c (skipR 4 σ)) := hcu; clear hcu hou))
    have l02 := fun uu : BwW u => cell_blk (uu.blk k2) (i := 0) rfl
    have l12 := fun uu : BwW u => cell_blk (uu.blk k2) (i := 1) rfl
    simp only [List.getElem_toArray, List.getElem_cons_zero, List.getElem_cons_succ] at l02 l12
    have HRe : Hid (∀ uu : BwW u, Calls Tryz.prog 88 #[cptr c] uu.wo fun e w' => e = .returned (.string ⟨(restR (skipR 4 σ)).toArray⟩) ∧ ∃ u' : BwW u, w' = u'.wo) := fun uu => (cur.rest_any (HCU.out.below uu.is)).mono fun _ w' q => ⟨q.1, by obtain ⟨m, e⟩ := q.2; exact ⟨BwW.of (w := uu.wo.drewN m) (uu.is.trans ⟨rfl, rfl, rfl, Nat.le_refl _, fun _ _ => rfl⟩), e⟩⟩
    have HAd : Hid (∀ uu : BwW u, Calls Tryz.prog 56 #[ptrV b, lnV c n, strV (restR (skipR 4 σ))] uu.wo fun e w' => e = .returned (.tuple #[]) ∧ RowW uu.wo b v (x.add n (restR (skipR 4 σ))) [] 120 w') := fun uu => brow_any (uu.blk k1) (row_below k3 uu.is) (by decide) hz _
    have HF0 : Hid (Fr (fun g => g = c) w u) := k4
    have HLt : Hid (b < u.heap.size) := lt_of_block k1
    have HRw : Hid (∀ g, v.ownBlock = some g → g < u.heap.size) := fun g hg => (World.ownsRow.lt k3 g hg).2
    clear k1 k2 k3 k4 l0 l1 b1
    generalize hRR : restR (skipR 4 σ) = RR at *
    refine region_tail (fun w' => ∃ uu : BwW u, w' = uu.wo) 7 (by kernel_rfl) (by kernel_rfl) (BwW.first u) ?_
    haveI := BwW.some u
    simp only [List.take_succ_cons, List.take_zero]
    repeat (go_big_quiet_step ((go_at_call 88; exact HRe.out _)))
    refine wpQuiet_nil ?_
    intro _ hw'
    obtain ⟨u5, hu5⟩ := hw'
    subst hu5
    simp only [List.drop_succ_cons, List.drop_zero]
    go_wp2_with (go_at_call 56; refine (HAd.out u5).mono ?_; rintro e w5 ⟨rfl, v', y1, y2, y3, y4⟩; have d1 := cell_blk y1 (i := 1) rfl; have g1 := free_blk y1 1; simp only [List.getElem_toArray, List.getElem_cons_zero, List.getElem_cons_succ] at d1; have HY := (show Hid (w5.heap[b]? = some (.cells (bodyL (x.add n RR) v' []).toArray 120 (0, 0)) ∧ w5.ownsRow 0 9 1 v' (x.add n RR).rows.length (strCs (x.add n RR).rows) ∧ (∀ g, v'.ownBlock = some g → v.ownBlock = some g ∨ u5.wo.heap.size ≤ g) ∧ Fr (fun g => g = b ∨ v.ownBlock = some g) u5.wo w5) from ⟨y1, y2, y3, y4⟩); clear y1 y2 y3 y4)
    go_end0
    have F5 : Fr (fun g => g = b ∨ v.ownBlock = some g ∨ g = c) w w5 := ((HF0.out.mono (fun k q => .inr (.inr q))).trans (Fr.of_below u5.is)).trans (HY.out.2.2.2.mono (fun k q => q.elim .inl (fun q => .inr (.inl q))))
    have hsz : w.heap.size ≤ u5.wo.heap.size := Nat.le_trans HF0.out.size u5.is.size
    refine ⟨rfl, v', ?_, ?_, fun g hg => (HY.out.2.2.1 g hg).imp id (fun q => Nat.le_trans hsz q), ?_, F5.set (.inl rfl) 1 _⟩
    · rw [HT.out]
      have q := set_blk HY.out.1 1 (.int .i64 (x.last : Int))
      simpa [Body.add] using q
    · rw [HT.out]
      refine row_keeps HY.out.2.1 (fun g hg => Below.heap_setCell _ _ _ _ ?_)
      intro e
      have e : g = b := e
      obtain ⟨cu, q⟩ := row_block HY.out.2.1 hg
      rw [e, HY.out.1] at q
      cases q
    · have hc5 : Cur w5 c (skipR 4 σ) := cur_fr (HCU.out.below u5.is) HY.out.2.2.2 (by
        rintro (q | q)
        · exact hbc q.symm
        · exact (HG.out c q).2 rfl)
      exact hc5.oth ((Oth.refl b w5).set 1 _) (Ne.symm hbc)

end Go.Proofs.YtcbojffcnlkejaaGreatDoor

/- Whether a leaf takes a line: a paragraph, code without fences. -/
namespace Go.Proofs.YtcbojffcnlkejaaGreatDoor
open Go.RowKit
open cur (cell_blk free_blk set_blk blk_below Cur cptr Oth)

/-- What takes hands back, and leaves. -/
def TakesW (w : World) (b c : Nat) (v : Value) (p' : Part) (rows : List Str) (σ' : Pl) (w' : World) : Prop := ∃ v', w'.heap[b]? = some (.cells (partCs p' v').toArray (partT p') (0, 0)) ∧ w'.ownsRow 0 9 1 v' rows.length (strCs rows) ∧ (∀ g, v'.ownBlock = some g → v.ownBlock = some g ∨ w.heap.size ≤ g) ∧ Cur w' c σ' ∧ Fr (fun g => g = b ∨ v.ownBlock = some g ∨ g = c) w w'
abbrev fateV (f : Nat) (s : Bool) : Value := .tuple #[.int .i64 (f : Int), .bool s]

theorem takes_same {w w' : World} {b c : Nat} {v : Value} {p : Part} {rows : List Str} {σ : Pl} (h : w.heap[b]? = some (.cells (partCs p v).toArray (partT p) (0, 0))) (hr : w.ownsRow 0 9 1 v rows.length (strCs rows)) (hC : Cur w c σ) (hb : Below w.heap.size w w') : TakesW w b c v p rows σ w' :=
  ⟨v, blk_below h hb, row_below hr hb, fun _ q => .inl q, hC.below hb, Fr.of_below hb⟩

theorem btakes_para {w : World} {b c n : Nat} {σ : Pl} {x : Body} {k : Nat} {v : Value} (h : w.heap[b]? = some (.cells (partCs (.para x k) v).toArray 115 (0, 0))) (hr : w.ownsRow 0 9 1 v x.rows.length (strCs x.rows)) (hC : Cur w c σ) :
    Calls Tryz.prog 231 #[ptrV b, lnV c n] w fun e w' => e = .returned (fateV 0 true) ∧ TakesW w b c v (.para x k) x.rows σ w' := by
  go_enter Tryz.func231, Tryz.ntmps231
  go_wp2
  go_ret2
  exact ⟨rfl, takes_same h hr hC ((Below.refl _ _).alloc (Nat.le_refl _) _)⟩

set_option maxHeartbeats 4000000 in
theorem btakes_indented {w : World} {b c n : Nat} {σ : Pl} {x : Body} {v : Value} (h : w.heap[b]? = some (.cells (partCs (.indented x) v).toArray 120 (0, 0))) (hr : w.ownsRow 0 9 1 v x.rows.length (strCs x.rows)) (hz : x.rows.length ≤ 1099511627776) (hC : Cur w c σ) (hbc : b ≠ c) (en : Nat → Str → Bool) :
    Calls Tryz.prog 234 #[ptrV b, lnV c n] w fun e w' => e = .returned (fateV (Part.takes en n σ (.indented x)).1 (Part.takes en n σ (.indented x)).2.1) ∧ TakesW w b c v (Part.takes en n σ (.indented x)).2.2.1 (if indR σ < 4 ∧ blankB σ = false then x.rows else (takeI x n σ).rows) (Part.takes en n σ (.indented x)).2.2.2 w' := by
  have hl := line_blk c n w
  have HB1 : Hid (Below w.heap.size w (w.alloc (.cells #[cptr c, .int .i64 (n : Int)] 63))) := (Below.refl _ _).alloc (Nat.le_refl _) _
  generalize hW : w.alloc (.cells #[cptr c, .int .i64 (n : Int)] 63) = W1 at hl HB1
  have hC1 := hC.below HB1.out
  have l0 := cell_blk hl (i := 0) rfl
  have l1 := cell_blk hl (i := 1) rfl
  have l02 := fun m : Nat => cell_blk (w := W1.drewN m) hl (i := 0) rfl
  have l12 := fun m : Nat => cell_blk (w := W1.drewN m) hl (i := 1) rfl
  simp only [List.getElem_toArray, List.getElem_cons_zero, List.getElem_cons_succ] at l0 l1 l02 l12
  have HI : Hid (Calls Tryz.prog 34 #[cptr c] W1 fun e w' => e = .returned (.int .i64 (indR σ : Int)) ∧ w' = W1) := cur.indent_any hC1
  have HBl : Hid (Calls Tryz.prog 54 #[cptr c] W1 fun e w' => e = .returned (.bool (blankB σ)) ∧ ∃ m, w' = W1.drewN m) := cur.blank_any hC1
  have HT : Hid (∀ m, Calls Tryz.prog 60 #[ptrV b, lnV c n] (W1.drewN m) fun e w' => e = .returned (.tuple #[]) ∧ TakesW w b c v (.indented (takeI x n σ)) (takeI x n σ).rows (skipR 4 σ) w') := fun m => (btake_any (w := W1.drewN m) (b := b) (c := c) (n := n) (v := v) (blk_below h (cur.below_drewN HB1.out m)) (row_below hr (cur.below_drewN HB1.out m)) hz (hC1.drewN m) hbc).mono fun e w' q => by
    obtain ⟨q0, v', q1, q2, q3, q4, q5⟩ := q
    exact ⟨q0, v', q1, q2, fun g hg => (q3 g hg).imp id (fun y => Nat.le_trans HB1.out.size y), q4, (Fr.of_below HB1.out).trans (((Fr.refl _ W1).drewN m).trans q5)⟩
  have HT0 : Hid (∀ m, TakesW w b c v (.indented x) x.rows σ (W1.drewN m)) := fun m => takes_same h hr hC (HB1.out.trans ⟨rfl, rfl, rfl, Nat.le_refl _, fun _ _ => rfl⟩)
  have HT1 : Hid (TakesW w b c v (.indented x) x.rows σ W1) := takes_same h hr hC HB1.out
  have HR : Hid (Part.takes en n σ (.indented x) = if indR σ < 4 ∧ blankB σ = false then (0, false, .indented x, σ) else (2, true, .indented (takeI x n σ), skipR 4 σ)) := rfl
  generalize Part.takes en n σ (.indented x) = R at *
  clear hl h hC hC1 hr
  generalize hlbe : w.heap.size = lb at *
  by_cases hi : indR σ < 4
  · have hi' : (indR σ : Int) < 4 := by omega
    cases hbl : blankB σ
    · rw [if_pos ⟨hi, rfl⟩]
      rw [hbl] at HBl HR
      rw [if_pos ⟨hi, rfl⟩] at HR
      generalize indR σ = ind at *
      go_enter Tryz.func234, Tryz.ntmps234
      go_wp2_with (first
        | (go_at_call 34; refine HI.out.mono ?_; rintro e u ⟨rfl, hu⟩; subst u)
        | (go_at_call 54; refine HBl.out.mono ?_; rintro e u ⟨rfl, m, rfl⟩))
      go_ret2
      rw [HR.out]
      exact ⟨rfl, HT0.out m⟩
    · rw [if_neg (by rintro ⟨_, q⟩; cases q)]
      rw [hbl] at HBl HR
      rw [if_neg (by rintro ⟨_, q⟩; cases q)] at HR
      generalize indR σ = ind at *
      go_enter Tryz.func234, Tryz.ntmps234
      go_wp2_with (first
        | (go_at_call 34; refine HI.out.mono ?_; rintro e u ⟨rfl, hu⟩; subst u)
        | (go_at_call 54; refine HBl.out.mono ?_; rintro e u ⟨rfl, m, rfl⟩)
        | (go_at_call 60; refine (HT.out m).mono ?_; rintro e u ⟨rfl, hu⟩))
      go_ret2
      rw [HR.out]
      exact ⟨rfl, hu⟩
  · have hi' : ¬ (indR σ : Int) < 4 := by omega
    rw [if_neg (by rintro ⟨q, _⟩; exact hi q)]
    rw [if_neg (by rintro ⟨q, _⟩; exact hi q)] at HR
    have HT2 := (show Hid _ from HT.out 0)
    generalize indR σ = ind at *
    go_enter Tryz.func234, Tryz.ntmps234
    go_wp2_with (first
      | (go_at_call 34; refine HI.out.mono ?_; rintro e u ⟨rfl, hu⟩; subst u)
      | (go_at_call 60; refine (HT.out 0).mono ?_; rintro e u ⟨rfl, hu⟩))
    go_ret2
    rw [HR.out]
    exact ⟨rfl, hu⟩

end Go.Proofs.YtcbojffcnlkejaaGreatDoor

/- Whether fenced code takes a line. -/
namespace Go.Proofs.YtcbojffcnlkejaaGreatDoor
open Go.RowKit
open cur (cell_blk free_blk set_blk blk_below Cur cptr Oth)

set_option maxHeartbeats 8000000 in
theorem btakes_fenced {w : World} {b c n : Nat} {σ : Pl} {x : Body} {sg : UInt8} {k ind : Nat} {info : Str} {v : Value} (h : w.heap[b]? = some (.cells (partCs (.fenced x sg k ind info) v).toArray 103 (0, 0))) (hr : w.ownsRow 0 9 1 v x.rows.length (strCs x.rows)) (hz : x.rows.length ≤ 1099511627776) (hC : Cur w c σ) (hbc : b ≠ c) (hk : k ≤ 1152921504606846976) (hi : ind ≤ 1152921504606846976) (en : Nat → Str → Bool) :
    Calls Tryz.prog 228 #[ptrV b, lnV c n] w fun e w' => e = .returned (fateV (Part.takes en n σ (.fenced x sg k ind info)).1 (Part.takes en n σ (.fenced x sg k ind info)).2.1) ∧ TakesW w b c v (Part.takes en n σ (.fenced x sg k ind info)).2.2.1 (if indR σ ≤ 3 ∧ closesL (beh σ.1) sg (k : Int) = true then x.rows else x.rows ++ [restR (skipR ind σ)]) (Part.takes en n σ (.fenced x sg k ind info)).2.2.2 w' := by
  have hl := line_blk c n w
  have HB1 : Hid (Below w.heap.size w (w.alloc (.cells #[cptr c, .int .i64 (n : Int)] 63))) := (Below.refl _ _).alloc (Nat.le_refl _) _
  generalize hW : w.alloc (.cells #[cptr c, .int .i64 (n : Int)] 63) = W1 at hl HB1
  have hC1 := hC.below HB1.out
  have hb1 := blk_below h HB1.out
  have hr1 := row_below hr HB1.out
  have hlc : w.heap.size ≠ c := by have := hC.lt; omega
  have hgc := cur_row hC hr (by decide)
  have hwt : (beh σ.1).length ≤ 35184372088832 := by have q := hC.wt; unfold wt at q; have q2 := (endC_le σ.1 0).2; omega
  have l0 := fun u : BwW W1 => cell_blk (u.blk hl) (i := 0) rfl
  have l1 := fun u : BwW W1 => cell_blk (u.blk hl) (i := 1) rfl
  have c1 := fun u : BwW W1 => cell_blk (u.blk hb1) (i := 1) rfl
  have c3 := fun u : BwW W1 => cell_blk (u.blk hb1) (i := 3) rfl
  have c4 := fun u : BwW W1 => cell_blk (u.blk hb1) (i := 4) rfl
  have c5 := fun u : BwW W1 => cell_blk (u.blk hb1) (i := 5) rfl
  have f1 := fun u : BwW W1 => free_blk (u.blk hb1) 1
  simp only [partCs, List.getElem_toArray, List.getElem_cons_zero, List.getElem_cons_succ] at l0 l1 c1 c3 c4 c5
  have HI : Hid (∀ u : BwW W1, Calls Tryz.prog 34 #[cptr c] u.wo fun e w' => e = .returned (.int .i64 (indR σ : Int)) ∧ ∃ u' : BwW W1, w' = u'.wo) := fun u => (cur.indent_any (hC1.below u.is)).mono fun _ w' q => ⟨q.1, u, q.2⟩
  have HBe : Hid (∀ u : BwW W1, Calls Tryz.prog 39 #[cptr c] u.wo fun e w' => e = .returned (.string ⟨(beh σ.1).toArray⟩) ∧ ∃ u' : BwW W1, w' = u'.wo) := fun u => (cur.behind_any (hC1.below u.is)).mono fun _ w' q => ⟨q.1, by obtain ⟨m, e⟩ := q.2; exact ⟨BwW.of (w := u.wo.drewN m) (u.is.trans ⟨rfl, rfl, rfl, Nat.le_refl _, fun _ _ => rfl⟩), e⟩⟩
  have HCl : Hid (∀ u : BwW W1, Calls Tryz.prog 77 #[.string ⟨(beh σ.1).toArray⟩, .int .u8 (sg.toNat : Int), .int .i64 (k : Int)] u.wo fun e w' => e = .returned (.bool (closesL (beh σ.1) sg (k : Int))) ∧ ∃ u' : BwW W1, w' = u'.wo) := fun u => (lcloses_any ⟨(beh σ.1).toArray⟩ (by rw [size_list]; omega) sg (k : Int) (by omega) u.wo).mono fun _ w' q => by
    rw [list_data] at q
    exact ⟨q.1, BwW.of (u.is.trans (q.2.mono u.is.size)), rfl⟩
  have HSk : Hid (∀ u : BwW W1, Calls Tryz.prog 87 #[cptr c, .int .i64 (ind : Int)] u.wo fun e w' => (∃ z, e = .returned (.int .i64 z)) ∧ Cur w' c (skipR ind σ) ∧ w'.heap[b]? = some (.cells (partCs (.fenced x sg k ind info) v).toArray 103 (0, 0)) ∧ w'.heap[w.heap.size]? = some (.cells #[cptr c, .int .i64 (n : Int)] 63 (0, 0)) ∧ w'.ownsRow 0 9 1 v x.rows.length (strCs x.rows) ∧ Fr (fun g => g = c) w w') := fun u => (cur.skip_any (hC1.below u.is) (ind : Int) (by omega)).mono fun e w' q => by
    have q1 : Cur w' c (skipR ind σ) := by simpa using q.2.1
    exact ⟨⟨_, q.1⟩, q1, oth_blk q.2.2 (u.blk hb1) hbc, oth_blk q.2.2 (u.blk hl) hlc, row_keeps (row_below hr1 u.is) (fun g hg => q.2.2.block (hgc g hg)), ((Fr.of_below HB1.out).trans (Fr.of_below u.is)).trans (Fr.of_oth q.2.2 rfl)⟩
  have HEnd : Hid (∀ u : BwW W1, TakesW w b c v (.fenced { x with last := n } sg k ind info) x.rows σ (u.wo.setCell ⟨b, 1, none⟩ (.int .i64 (n : Int)))) := fun u => by
    refine ⟨v, ?_, ?_, fun _ q => .inl q, ?_, ?_⟩
    · have q := set_blk (u.blk hb1) 1 (.int .i64 (n : Int))
      simpa [partCs, partT] using q
    · refine row_keeps (row_below hr1 u.is) (fun g hg => Below.heap_setCell _ _ _ _ ?_)
      intro e
      have e : g = b := e
      obtain ⟨cu, q⟩ := row_block hr1 hg
      rw [e, hb1] at q
      cases q
    · exact (hC1.below u.is).oth ((Oth.refl b u.wo).set 1 _) (Ne.symm hbc)
    · exact ((Fr.of_below HB1.out).trans (Fr.of_below u.is)).set (.inl rfl) 1 _
  have HG : Hid (∀ g, v.ownBlock = some g → g ≠ c) := hgc
  have HR : Hid (Part.takes en n σ (.fenced x sg k ind info) = if indR σ ≤ 3 ∧ closesL (beh σ.1) sg (k : Int) = true then (2, false, .fenced { x with last := n } sg k ind info, σ) else (2, true, .fenced (x.add n (restR (skipR ind σ))) sg k ind info, skipR ind σ)) := rfl
  generalize Part.takes en n σ (.fenced x sg k ind info) = R at *
  clear hl h hC hC1 hr hb1 hr1 hgc hwt
  generalize hlbe : w.heap.size = lb at *
  generalize hcl : closesL (beh σ.1) sg (k : Int) = cl at *
  clear hcl
  by_cases hi3 : indR σ ≤ 3
  · have hi3' : (indR σ : Int) ≤ 3 := by omega
    cases cl
    · rw [if_neg (by rintro ⟨_, q⟩; cases q)]
      rw [if_neg (by rintro ⟨_, q⟩; cases q)] at HR
      generalize indR σ = iσ at *
      go_enter Tryz.func228, Tryz.ntmps228
      go_wp2
      refine region_class2 (fun w' => ∃ u : BwW W1, w' = u.wo) (by kernel_rfl) (by kernel_rfl) (BwW.first W1) ?_
      haveI := BwW.some W1
      repeat (go_big_quiet_step (first
        | (go_at_call 34; exact HI.out _)
        | (go_at_call 39; exact HBe.out _)
        | (go_at_call 77; exact HCl.out _)))
      refine wpQuiet_nil ?_
      intro _ hw'
      obtain ⟨u, hu⟩ := hw'
      subst hu
      go_wp2
      refine region_tail (fun w' => ∃ u : BwW W1, w' = u.wo) 6 (by kernel_rfl) (by kernel_rfl) (BwW.drew u) ?_
      simp only [List.take_succ_cons, List.take_zero]
      repeat (go_big_quiet_step (fail))
      refine wpQuiet_nil ?_
      intro _ hw'
      obtain ⟨u5, hu5⟩ := hw'
      subst hu5
      simp only [List.drop_succ_cons, List.drop_zero]
      go_wp2_with (go_at_call 87; refine (HSk.out u5).mono ?_; rintro e V ⟨⟨z, rfl⟩, hcu, k1, k2, k3, k4⟩)
      have l02 := fun uu : BwW V => cell_blk (uu.blk k2) (i := 0) rfl
      have l12 := fun uu : BwW V => cell_blk (uu.blk k2) (i := 1) rfl
      simp only [List.getElem_toArray, List.getElem_cons_zero, List.getElem_cons_succ] at l02 l12
      have HRe : Hid (∀ uu : BwW V, Calls Tryz.prog 88 #[cptr c] uu.wo fun e w' => e = .returned (.string ⟨(restR (skipR ind σ)).toArray⟩) ∧ ∃ u' : BwW V, w' = u'.wo) := fun uu => (cur.rest_any (hcu.below uu.is)).mono fun _ w' q => ⟨q.1, by obtain ⟨m, e⟩ := q.2; exact ⟨BwW.of (w := uu.wo.drewN m) (uu.is.trans ⟨rfl, rfl, rfl, Nat.le_refl _, fun _ _ => rfl⟩), e⟩⟩
      have HAd : Hid (∀ uu : BwW V, Calls Tryz.prog 56 #[ptrV b, lnV c n, strV (restR (skipR ind σ))] uu.wo fun e w' => e = .returned (.tuple #[]) ∧ TakesW w b c v (.fenced (x.add n (restR (skipR ind σ))) sg k ind info) (x.rows ++ [restR (skipR ind σ)]) (skipR ind σ) w') := fun uu => (brow_any (ex := [.int .u8 (sg.toNat : Int), .int .i64 (k : Int), .int .i64 (ind : Int), strV info]) (uu.blk k1) (row_below k3 uu.is) (by decide) hz _).mono fun e w' q => by
        obtain ⟨q0, v', q1, q2, q3, q4⟩ := q
        refine ⟨q0, v', q1, q2, fun g hg => (q3 g hg).imp id (fun y => Nat.le_trans (Nat.le_trans k4.size uu.is.size) y), ?_, ((k4.mono (fun a q => .inr (.inr q))).trans (Fr.of_below uu.is)).trans (q4.mono (fun a q => q.elim .inl (fun q => .inr (.inl q))))⟩
        exact cur_fr (hcu.below uu.is) q4 (by
          rintro (y | y)
          · exact hbc y.symm
          · exact HG.out c y rfl)
      clear k1 k2 k3 k4 hcu l0 l1 c1 c3 c4 c5 f1 HSk HEnd
      generalize hRR : restR (skipR ind σ) = RR at *
      refine region_tail (fun w' => ∃ uu : BwW V, w' = uu.wo) 7 (by kernel_rfl) (by kernel_rfl) (BwW.first V) ?_
      haveI := BwW.some V
      simp only [List.take_succ_cons, List.take_zero]
      repeat (go_big_quiet_step ((go_at_call 88; exact HRe.out _)))
      refine wpQuiet_nil ?_
      intro _ hw'
      obtain ⟨u6, hu6⟩ := hw'
      subst hu6
      simp only [List.drop_succ_cons, List.drop_zero]
      go_wp2_with (go_at_call 56; refine (HAd.out u6).mono ?_; rintro e w6 ⟨rfl, hw6⟩)
      go_ret2
      rw [HR.out, hRR]
      exact ⟨rfl, hw6⟩
    · rw [if_pos ⟨hi3, rfl⟩]
      rw [if_pos ⟨hi3, rfl⟩] at HR
      generalize indR σ = iσ at *
      go_enter Tryz.func228, Tryz.ntmps228
      go_wp2
      refine region_class2 (fun w' => ∃ u : BwW W1, w' = u.wo) (by kernel_rfl) (by kernel_rfl) (BwW.first W1) ?_
      haveI := BwW.some W1
      repeat (go_big_quiet_step (first
        | (go_at_call 34; exact HI.out _)
        | (go_at_call 39; exact HBe.out _)
        | (go_at_call 77; exact HCl.out _)))
      refine wpQuiet_nil ?_
      intro _ hw'
      obtain ⟨u, hu⟩ := hw'
      subst hu
      go_wp2
      go_ret2
      rw [HR.out]
      exact ⟨rfl, HEnd.out u⟩
  · have hi3' : ¬ (indR σ : Int) ≤ 3 := by omega
    have hi3b : decide ((indR σ : Int) ≤ 3) = false := by simpa using hi3'
    have hi3n : decide (indR σ ≤ 3) = false := by simpa using hi3
    rw [if_neg (by rintro ⟨q, _⟩; exact hi3 q)]
    rw [if_neg (by rintro ⟨q, _⟩; exact hi3 q)] at HR
    generalize indR σ = iσ at *
    go_enter Tryz.func228, Tryz.ntmps228
    go_wp2
    refine region_class2 (fun w' => ∃ u : BwW W1, w' = u.wo) (by kernel_rfl) (by kernel_rfl) (BwW.first W1) ?_
    haveI := BwW.some W1
    repeat (go_big_quiet_step (first
      | (go_at_call 34; exact HI.out _)
      | (go_at_call 39; exact HBe.out _)
      | (go_at_call 77; exact HCl.out _)))
    refine wpQuiet_nil ?_
    intro _ hw'
    obtain ⟨u, hu⟩ := hw'
    subst hu
    go_wp2
    refine region_tail (fun w' => ∃ u : BwW W1, w' = u.wo) 6 (by kernel_rfl) (by kernel_rfl) (BwW.drew u) ?_
    simp only [List.take_succ_cons, List.take_zero]
    repeat (go_big_quiet_step (fail))
    refine wpQuiet_nil ?_
    intro _ hw'
    obtain ⟨u5, hu5⟩ := hw'
    subst hu5
    simp only [List.drop_succ_cons, List.drop_zero]
    go_wp2_with (go_at_call 87; refine (HSk.out u5).mono ?_; rintro e V ⟨⟨z, rfl⟩, hcu, k1, k2, k3, k4⟩)
    have l02 := fun uu : BwW V => cell_blk (uu.blk k2) (i := 0) rfl
    have l12 := fun uu : BwW V => cell_blk (uu.blk k2) (i := 1) rfl
    simp only [List.getElem_toArray, List.getElem_cons_zero, List.getElem_cons_succ] at l02 l12
    have HRe : Hid (∀ uu : BwW V, Calls Tryz.prog 88 #[cptr c] uu.wo fun e w' => e = .returned (.string ⟨(restR (skipR ind σ)).toArray⟩) ∧ ∃ u' : BwW V, w' = u'.wo) := fun uu => (cur.rest_any (hcu.below uu.is)).mono fun _ w' q => ⟨q.1, by obtain ⟨m, e⟩ := q.2; exact ⟨BwW.of (w := uu.wo.drewN m) (uu.is.trans ⟨rfl, rfl, rfl, Nat.le_refl _, fun _ _ => rfl⟩), e⟩⟩
    have HAd : Hid (∀ uu : BwW V, Calls Tryz.prog 56 #[ptrV b, lnV c n, strV (restR (skipR ind σ))] uu.wo fun e w' => e = .returned (.tuple #[]) ∧ TakesW w b c v (.fenced (x.add n (restR (skipR ind σ))) sg k ind info) (x.rows ++ [restR (skipR ind σ)]) (skipR ind σ) w') := fun uu => (brow_any (ex := [.int .u8 (sg.toNat : Int), .int .i64 (k : Int), .int .i64 (ind : Int), strV info]) (uu.blk k1) (row_below k3 uu.is) (by decide) hz _).mono fun e w' q => by
      obtain ⟨q0, v', q1, q2, q3, q4⟩ := q
      refine ⟨q0, v', q1, q2, fun g hg => (q3 g hg).imp id (fun y => Nat.le_trans (Nat.le_trans k4.size uu.is.size) y), ?_, ((k4.mono (fun a q => .inr (.inr q))).trans (Fr.of_below uu.is)).trans (q4.mono (fun a q => q.elim .inl (fun q => .inr (.inl q))))⟩
      exact cur_fr (hcu.below uu.is) q4 (by
        rintro (y | y)
        · exact hbc y.symm
        · exact HG.out c y rfl)
    clear k1 k2 k3 k4 hcu l0 l1 c1 c3 c4 c5 f1 HSk HEnd
    generalize hRR : restR (skipR ind σ) = RR at *
    refine region_tail (fun w' => ∃ uu : BwW V, w' = uu.wo) 7 (by kernel_rfl) (by kernel_rfl) (BwW.first V) ?_
    haveI := BwW.some V
    simp only [List.take_succ_cons, List.take_zero]
    repeat (go_big_quiet_step ((go_at_call 88; exact HRe.out _)))
    refine wpQuiet_nil ?_
    intro _ hw'
    obtain ⟨u6, hu6⟩ := hw'
    subst hu6
    simp only [List.drop_succ_cons, List.drop_zero]
    go_wp2_with (go_at_call 56; refine (HAd.out u6).mono ?_; rintro e w6 ⟨rfl, hw6⟩)
    go_ret2
    rw [HR.out, hRR]
    exact ⟨rfl, hw6⟩

end Go.Proofs.YtcbojffcnlkejaaGreatDoor

/- The columns behind a marker. -/
namespace Go.Proofs.YtcbojffcnlkejaaGreatDoor
open Go.RowKit
open cur (cell_blk free_blk set_blk blk_below Cur cptr Oth)

set_option maxHeartbeats 2000000 in
theorem bpad_any {c n : Nat} {σ : Pl} {w : World} (hC : Cur w c σ) : Calls Tryz.prog 83 #[lnV c n] w fun e w' => e = .returned (.int .i64 ((St.padding σ).1 : Int)) ∧ Cur w' c (St.padding σ).2 ∧ Fr (fun g => g = c) w w' := by
  have hl := line_blk c n w
  have HB1 : Hid (Below w.heap.size w (w.alloc (.cells #[cptr c, .int .i64 (n : Int)] 63))) := (Below.refl _ _).alloc (Nat.le_refl _) _
  generalize hW : w.alloc (.cells #[cptr c, .int .i64 (n : Int)] 63) = W1 at hl HB1
  have hC1 := hC.below HB1.out
  have l0 := cell_blk hl (i := 0) rfl
  have l02 := fun m : Nat => cell_blk (w := W1.drewN m) hl (i := 0) rfl
  simp only [List.getElem_toArray, List.getElem_cons_zero] at l0 l02
  have HBl : Hid (Calls Tryz.prog 54 #[cptr c] W1 fun e w' => e = .returned (.bool (blankB σ)) ∧ ∃ m, w' = W1.drewN m) := cur.blank_any hC1
  have HI : Hid (∀ m, Calls Tryz.prog 34 #[cptr c] (W1.drewN m) fun e w' => e = .returned (.int .i64 (indR σ : Int)) ∧ w' = W1.drewN m) := fun m => cur.indent_any (hC1.drewN m)
  have HF : Hid (∀ m, Fr (fun g => g = c) w (W1.drewN m)) := fun m => (Fr.of_below HB1.out).drewN m
  have hind : indR σ ≤ 1152921504606846976 := by have := (ind_le σ).2; have := hC.wt; unfold wt at this; omega
  have HSk : Hid (∀ m k : Nat, k ≤ indR σ → Calls Tryz.prog 87 #[cptr c, .int .i64 (k : Int)] (W1.drewN m) fun e w' => e = .returned (.int .i64 (k : Int)) ∧ Cur w' c (skipR k σ) ∧ Fr (fun g => g = c) w w') := fun m k hk => (cur.skip_any (hC1.drewN m) (k : Int) (by omega)).mono fun e w' q => by
    have q1 : Cur w' c (skipR k σ) := by simpa using q.2.1
    have q2 := (col_ind k σ).1
    refine ⟨?_, q1, (HF.out m).trans (Fr.of_oth q.2.2 rfl)⟩
    rw [q.1]
    congr 2
    simp only [Int.toNat_natCast]
    rw [q2, Nat.min_eq_left hk]
    omega
  have HC0 : Hid (∀ m, Cur (W1.drewN m) c σ) := fun m => hC1.drewN m
  have hpd : St.padding σ = if blankB σ then (1, σ) else if indR σ ≤ 4 then (indR σ, skipR (indR σ) σ) else (1, skipR 1 σ) := rfl
  rw [hpd]
  clear hl hC hC1 hpd
  generalize hlbe : w.heap.size = lb at *
  cases hbl : blankB σ
  · rw [hbl] at HBl
    by_cases h4 : indR σ ≤ 4
    · have h4' : (indR σ : Int) ≤ 4 := by omega
      simp only [Bool.false_eq_true, if_false, if_pos h4]
      go_enter Tryz.func83, Tryz.ntmps83
      go_wp2_with (first
        | (go_at_call 54; refine HBl.out.mono ?_; rintro e u ⟨rfl, m, rfl⟩)
        | (go_at_call 34; refine (HI.out m).mono ?_; rintro e u ⟨rfl, hu⟩; subst u)
        | (go_at_call 87; refine (HSk.out m (indR σ) (Nat.le_refl _)).mono ?_; rintro e u ⟨rfl, hu⟩))
      go_ret
      exact ⟨rfl, hu⟩
    · have h4' : ¬ (indR σ : Int) ≤ 4 := by omega
      simp only [Bool.false_eq_true, if_false, if_neg h4]
      go_enter Tryz.func83, Tryz.ntmps83
      go_wp2_with (first
        | (go_at_call 54; refine HBl.out.mono ?_; rintro e u ⟨rfl, m, rfl⟩)
        | (go_at_call 34; refine (HI.out m).mono ?_; rintro e u ⟨rfl, hu⟩; subst u)
        | (go_at_call 87; refine (HSk.out m 1 (by omega)).mono ?_; rintro e u ⟨rfl, hu⟩))
      go_ret
      exact ⟨rfl, hu⟩
  · rw [hbl] at HBl
    simp only [if_true]
    go_enter Tryz.func83, Tryz.ntmps83
    go_wp2_with (first
      | (go_at_call 54; refine HBl.out.mono ?_; rintro e u ⟨rfl, m, rfl⟩))
    go_ret
    exact ⟨rfl, HC0.out m, HF.out m⟩

end Go.Proofs.YtcbojffcnlkejaaGreatDoor

/- What an Item begins with. -/
namespace Go.Proofs.YtcbojffcnlkejaaGreatDoor
open Go.RowKit
open cur (cell_blk free_blk set_blk blk_below Cur cptr Oth)

theorem mark_len (l : Str) : (markL l).2.1 ≤ l.length := by
  unfold markL
  split
  · exact Nat.zero_le _
  · split
    · exact Nat.zero_le _
    · rename_i b t hd
      have hl := congrArg List.length hd
      rw [List.length_drop, List.length_cons] at hl
      repeat' split
      all_goals first
        | exact Nat.zero_le _
        | (show rowN digitB l + 1 ≤ l.length; omega)

theorem blk4_set {w : World} {b : Nat} {t : TypeId} {a0 a1 a2 a3 : Value} (h : w.heap[b]? = some (.cells #[a0, a1, a2, a3] t (0, 0))) (x0 x1 x2 x3 : Value) :
    ((((w.setCell ⟨b, 0, none⟩ x0).setCell ⟨b, 1, none⟩ x1).setCell ⟨b, 2, none⟩ x2).setCell ⟨b, 3, none⟩ x3).heap[b]? = some (.cells #[x0, x1, x2, x3] t (0, 0)) := by
  have h0 : (w.setCell ⟨b, 0, none⟩ x0).heap[b]? = some (.cells #[x0, a1, a2, a3] t (0, 0)) := set_blk h 0 x0
  have h1 : ((w.setCell ⟨b, 0, none⟩ x0).setCell ⟨b, 1, none⟩ x1).heap[b]? = some (.cells #[x0, x1, a2, a3] t (0, 0)) := set_blk h0 1 x1
  have h2 : (((w.setCell ⟨b, 0, none⟩ x0).setCell ⟨b, 1, none⟩ x1).setCell ⟨b, 2, none⟩ x2).heap[b]? = some (.cells #[x0, x1, x2, a3] t (0, 0)) := set_blk h1 2 x2
  have h3 : ((((w.setCell ⟨b, 0, none⟩ x0).setCell ⟨b, 1, none⟩ x1).setCell ⟨b, 2, none⟩ x2).setCell ⟨b, 3, none⟩ x3).heap[b]? = some (.cells #[x0, x1, x2, x3] t (0, 0)) := set_blk h2 3 x3
  exact h3

set_option maxHeartbeats 4000000 in
theorem bmarker_any (l : Str) (hs : l.length ≤ 1099511627776) (w : World) : Calls Tryz.prog 52 #[strV l] w fun e w' => e = .returned (mkV (St.markOf l)) ∧ Below w.heap.size w w' := by
  obtain ⟨sg, sz, nu, hm⟩ : ∃ sg sz nu, markL l = (sg, sz, nu) := ⟨_, _, _, rfl⟩
  have hsz : sz ≤ l.length := by have := mark_len l; rw [hm] at this; exact this
  have hmk : St.markOf l = { sign := sg, size := sz, number := nu, parts := !(trimG (l.drop sz)).isEmpty && (nu == 1 || !ordB sg) } := by unfold St.markOf; rw [hm]
  rw [hmk]
  have HM : Hid (∀ w, Calls Tryz.prog 80 #[strV l] w fun e w' => e = .returned (.tuple #[.int .u8 (sg.toNat : Int), .int .i64 (sz : Int), .int .i64 (nu : Int)]) ∧ ∃ n, w' = w.drewN n) := fun w => (lmarker_any ⟨l.toArray⟩ (by rw [size_list]; omega) w).mono fun e w' q => by
    rw [list_data, hm] at q
    exact q
  have HT : Hid (∀ w, Calls Tryz.prog 67 #[.string ⟨(l.drop sz).toArray⟩, .string ⟨#[32, 9]⟩] w fun e w' => e = .returned (strV (trimG (l.drop sz))) ∧ Below w.heap.size w w') := fun w => trim_at ⟨(l.drop sz).toArray⟩ ⟨#[32, 9]⟩ (by rw [size_list, List.length_drop]; omega) (by decide) (by decide) _ (by rw [list_data]; rfl) w
  have HO : Hid (∀ p w, Calls Tryz.prog 81 #[.agg #[.int .u8 (sg.toNat : Int), .int .i64 (sz : Int), .int .i64 (nu : Int), .bool p]] w fun e w' => e = .returned (.bool (ordB sg)) ∧ Below w.heap.size w w') := fun p w => bordered_any { sign := sg, size := sz, number := nu, parts := p } w
  have hxt : (ByteArray.mk l.toArray).extract sz (List.length l) = ⟨(l.drop sz).toArray⟩ := by
    have := extract_end ⟨l.toArray⟩ sz
    rw [list_data, size_list] at this
    exact this
  have hszi : (sz : Int) ≤ (List.length l : Int) := by omega
  have hnu : ((nu : Int) == 1) = (nu == 1) := by
    rw [Bool.eq_iff_iff, beq_iff_eq, beq_iff_eq]
    omega
  rw [← hnu]
  generalize trimG (l.drop sz) = TT at *
  generalize ordB sg = od at *
  have hn1 := new_blk w #[.int .u8 0, .int .i64 0, .int .i64 0, .bool false] 108
  have HB1 : Hid (Below w.heap.size w (w.alloc (.cells #[.int .u8 0, .int .i64 0, .int .i64 0, .bool false] 108))) := (Below.refl _ _).alloc (Nat.le_refl _) _
  generalize hW1 : w.alloc (.cells #[.int .u8 0, .int .i64 0, .int .i64 0, .bool false] 108) = W1 at hn1 HB1
  have HN1 := (show Hid _ from hn1)
  clear hn1 hm hmk
  generalize hrb : w.heap.size = rb at *
  cases hte : List.isEmpty TT
  · cases hn1b : ((nu : Int) == 1)
    · have hne : ¬ (nu : Int) = 1 := by simpa using hn1b
      go_enter Tryz.func52, Tryz.ntmps52
      go_wp2_with (first
        | (go_at_call 80; refine (HM.out _).mono ?_; rintro e u ⟨rfl, k, hk⟩; have HU : Hid (Below W1.heap.size W1 u) := (by show Below _ _ _; rw [hk]; exact ⟨rfl, rfl, rfl, Nat.le_refl _, fun _ _ => rfl⟩); clear hk; have hmb := new_blk u #[.int .u8 (sg.toNat : Int), .int .i64 (sz : Int), .int .i64 (nu : Int), .bool false] 108; have HB2 : Hid (Below u.heap.size u (u.alloc (.cells #[.int .u8 (sg.toNat : Int), .int .i64 (sz : Int), .int .i64 (nu : Int), .bool false] 108))) := (Below.refl _ _).alloc (Nat.le_refl _) _; have hrb2 := blk_below (blk_below HN1.out HU.out) HB2.out; have hrm : rb ≠ u.heap.size := (by have := lt_of_block (blk_below HN1.out HU.out); omega); have hmr : u.heap.size ≠ rb := Ne.symm hrm; have HMB := (show Hid _ from hmb); have HRB := (show Hid _ from hrb2); clear hmb hrb2)
        | (go_at_call 67; refine (HT.out _).mono ?_; rintro e u2 ⟨rfl, hu2⟩; have hm2 := blk_below HMB.out hu2; have hr2 := blk_below HRB.out hu2; have m0 := cell_blk hm2 (i := 0) rfl; have m1 := cell_blk hm2 (i := 1) rfl; have m2 := cell_blk hm2 (i := 2) rfl; have m3 := cell_blk hm2 (i := 3) rfl; have mf3 := free_blk hm2 3; have r0 := cell_blk hr2 (i := 0) rfl; have r1 := cell_blk hr2 (i := 1) rfl; have r2 := cell_blk hr2 (i := 2) rfl; have r3 := cell_blk hr2 (i := 3) rfl; have rf0 := free_blk hr2 0; have rf1 := free_blk hr2 1; have rf2 := free_blk hr2 2; have rf3 := free_blk hr2 3; simp only [List.getElem_toArray, List.getElem_cons_zero, List.getElem_cons_succ] at m0 m1 m2 m3 r0 r1 r2 r3; have HM2 := (show Hid _ from hm2); have HR2 := (show Hid _ from hr2); have HU2 := (show Hid _ from hu2); clear hm2 hr2 hu2)
        | (go_at_call 81; refine (HO.out _ _).mono ?_; rintro e u3 ⟨rfl, hu3⟩; have hm3 := blk_below HM2.out hu3; have hr3 := blk_below HR2.out hu3; have n0 := cell_blk hm3 (i := 0) rfl; have n1 := cell_blk hm3 (i := 1) rfl; have n2 := cell_blk hm3 (i := 2) rfl; have n3 := cell_blk hm3 (i := 3) rfl; have nf3 := free_blk hm3 3; have s0 := cell_blk hr3 (i := 0) rfl; have s1 := cell_blk hr3 (i := 1) rfl; have s2 := cell_blk hr3 (i := 2) rfl; have s3 := cell_blk hr3 (i := 3) rfl; have sf0 := free_blk hr3 0; have sf1 := free_blk hr3 1; have sf2 := free_blk hr3 2; have sf3 := free_blk hr3 3; simp only [List.getElem_toArray, List.getElem_cons_zero, List.getElem_cons_succ] at n0 n1 n2 n3 s0 s1 s2 s3; have HM3 := (show Hid _ from hm3); have HR3 := (show Hid _ from hr3); have HU3 := (show Hid _ from hu3); clear hm3 hr3 hu3))
      have h4 : (((((u3.setCell ⟨u.heap.size, 3, none⟩ (.bool (nu == 1 || !od))).setCell ⟨rb, 0, none⟩ (.int .u8 (sg.toNat : Int))).setCell ⟨rb, 1, none⟩ (.int .i64 (sz : Int))).setCell ⟨rb, 2, none⟩ (.int .i64 (nu : Int))).setCell ⟨rb, 3, none⟩ (.bool (nu == 1 || !od))).heap[rb]? = some (.cells #[.int .u8 (sg.toNat : Int), .int .i64 (sz : Int), .int .i64 (nu : Int), .bool (nu == 1 || !od)] 108 (0, 0)) := blk4_set ((Below.heap_setCell _ _ _ _ (by simpa using hrm)).trans HR3.out) _ _ _ _
      have e0 := cell_blk h4 (i := 0) rfl
      have e1 := cell_blk h4 (i := 1) rfl
      have e2 := cell_blk h4 (i := 2) rfl
      have e3 := cell_blk h4 (i := 3) rfl
      simp only [List.getElem_toArray, List.getElem_cons_zero, List.getElem_cons_succ] at e0 e1 e2 e3
      have hle : rb ≤ u.heap.size := by have := lt_of_block (blk_below HN1.out HU.out); omega
      have hW1 : rb ≤ W1.heap.size := by have := lt_of_block HN1.out; omega
      have x1 : Below rb w u := HB1.out.trans (HU.out.mono hW1)
      have x2 := x1.trans (HB2.out.mono hle)
      have x3 := x2.trans (HU2.out.mono (Nat.le_trans hle HB2.out.size))
      have x4 := x3.trans (HU3.out.mono (Nat.le_trans (Nat.le_trans hle HB2.out.size) HU2.out.size))
      clear h4
      refine bodyPost_ret (v := mkV { sign := sg, size := sz, number := nu, parts := nu == 1 || !od }) ?_ rfl ⟨?_, below_set (below_set (below_set (below_set (below_set x4 hle) (Nat.le_refl _)) (Nat.le_refl _)) (Nat.le_refl _)) (Nat.le_refl _)⟩
      · rw [results_cell1 rfl]
        go_simp
      · have hq : (nu == 1) = (((nu : Int) == 1)) := hnu.symm
        rw [hn1b] at hq
        simp [hq]
    · have hq1 : (nu == 1) = true := by rw [← hnu]; exact hn1b
      go_enter Tryz.func52, Tryz.ntmps52
      go_wp2_with (first
        | (go_at_call 80; refine (HM.out _).mono ?_; rintro e u ⟨rfl, k, hk⟩; have HU : Hid (Below W1.heap.size W1 u) := (by show Below _ _ _; rw [hk]; exact ⟨rfl, rfl, rfl, Nat.le_refl _, fun _ _ => rfl⟩); clear hk; have hmb := new_blk u #[.int .u8 (sg.toNat : Int), .int .i64 (sz : Int), .int .i64 (nu : Int), .bool false] 108; have HB2 : Hid (Below u.heap.size u (u.alloc (.cells #[.int .u8 (sg.toNat : Int), .int .i64 (sz : Int), .int .i64 (nu : Int), .bool false] 108))) := (Below.refl _ _).alloc (Nat.le_refl _) _; have hrb2 := blk_below (blk_below HN1.out HU.out) HB2.out; have hrm : rb ≠ u.heap.size := (by have := lt_of_block (blk_below HN1.out HU.out); omega); have hmr : u.heap.size ≠ rb := Ne.symm hrm; have HMB := (show Hid _ from hmb); have HRB := (show Hid _ from hrb2); clear hmb hrb2)
        | (go_at_call 67; refine (HT.out _).mono ?_; rintro e u2 ⟨rfl, hu2⟩; have hm2 := blk_below HMB.out hu2; have hr2 := blk_below HRB.out hu2; have m0 := cell_blk hm2 (i := 0) rfl; have m1 := cell_blk hm2 (i := 1) rfl; have m2 := cell_blk hm2 (i := 2) rfl; have m3 := cell_blk hm2 (i := 3) rfl; have mf3 := free_blk hm2 3; have r0 := cell_blk hr2 (i := 0) rfl; have r1 := cell_blk hr2 (i := 1) rfl; have r2 := cell_blk hr2 (i := 2) rfl; have r3 := cell_blk hr2 (i := 3) rfl; have rf0 := free_blk hr2 0; have rf1 := free_blk hr2 1; have rf2 := free_blk hr2 2; have rf3 := free_blk hr2 3; simp only [List.getElem_toArray, List.getElem_cons_zero, List.getElem_cons_succ] at m0 m1 m2 m3 r0 r1 r2 r3; have HM2 := (show Hid _ from hm2); have HR2 := (show Hid _ from hr2); have HU2 := (show Hid _ from hu2); clear hm2 hr2 hu2))
      have h4 : (((((u2.setCell ⟨u.heap.size, 3, none⟩ (.bool (true))).setCell ⟨rb, 0, none⟩ (.int .u8 (sg.toNat : Int))).setCell ⟨rb, 1, none⟩ (.int .i64 (sz : Int))).setCell ⟨rb, 2, none⟩ (.int .i64 (nu : Int))).setCell ⟨rb, 3, none⟩ (.bool (true))).heap[rb]? = some (.cells #[.int .u8 (sg.toNat : Int), .int .i64 (sz : Int), .int .i64 (nu : Int), .bool (true)] 108 (0, 0)) := blk4_set ((Below.heap_setCell _ _ _ _ (by simpa using hrm)).trans HR2.out) _ _ _ _
      have e0 := cell_blk h4 (i := 0) rfl
      have e1 := cell_blk h4 (i := 1) rfl
      have e2 := cell_blk h4 (i := 2) rfl
      have e3 := cell_blk h4 (i := 3) rfl
      simp only [List.getElem_toArray, List.getElem_cons_zero, List.getElem_cons_succ] at e0 e1 e2 e3
      have hle : rb ≤ u.heap.size := by have := lt_of_block (blk_below HN1.out HU.out); omega
      have hW1 : rb ≤ W1.heap.size := by have := lt_of_block HN1.out; omega
      have x1 : Below rb w u := HB1.out.trans (HU.out.mono hW1)
      have x2 := x1.trans (HB2.out.mono hle)
      have x3 := x2.trans (HU2.out.mono (Nat.le_trans hle HB2.out.size))
      clear h4
      refine bodyPost_ret (v := mkV { sign := sg, size := sz, number := nu, parts := true }) ?_ rfl ⟨?_, below_set (below_set (below_set (below_set (below_set x3 hle) (Nat.le_refl _)) (Nat.le_refl _)) (Nat.le_refl _)) (Nat.le_refl _)⟩
      · rw [results_cell1 rfl]
        go_simp
      · simp
  · skip
    go_enter Tryz.func52, Tryz.ntmps52
    go_wp2_with (first
      | (go_at_call 80; refine (HM.out _).mono ?_; rintro e u ⟨rfl, k, hk⟩; have HU : Hid (Below W1.heap.size W1 u) := (by show Below _ _ _; rw [hk]; exact ⟨rfl, rfl, rfl, Nat.le_refl _, fun _ _ => rfl⟩); clear hk; have hmb := new_blk u #[.int .u8 (sg.toNat : Int), .int .i64 (sz : Int), .int .i64 (nu : Int), .bool false] 108; have HB2 : Hid (Below u.heap.size u (u.alloc (.cells #[.int .u8 (sg.toNat : Int), .int .i64 (sz : Int), .int .i64 (nu : Int), .bool false] 108))) := (Below.refl _ _).alloc (Nat.le_refl _) _; have hrb2 := blk_below (blk_below HN1.out HU.out) HB2.out; have hrm : rb ≠ u.heap.size := (by have := lt_of_block (blk_below HN1.out HU.out); omega); have hmr : u.heap.size ≠ rb := Ne.symm hrm; have HMB := (show Hid _ from hmb); have HRB := (show Hid _ from hrb2); clear hmb hrb2)
      | (go_at_call 67; refine (HT.out _).mono ?_; rintro e u2 ⟨rfl, hu2⟩; have hm2 := blk_below HMB.out hu2; have hr2 := blk_below HRB.out hu2; have m0 := cell_blk hm2 (i := 0) rfl; have m1 := cell_blk hm2 (i := 1) rfl; have m2 := cell_blk hm2 (i := 2) rfl; have m3 := cell_blk hm2 (i := 3) rfl; have mf3 := free_blk hm2 3; have r0 := cell_blk hr2 (i := 0) rfl; have r1 := cell_blk hr2 (i := 1) rfl; have r2 := cell_blk hr2 (i := 2) rfl; have r3 := cell_blk hr2 (i := 3) rfl; have rf0 := free_blk hr2 0; have rf1 := free_blk hr2 1; have rf2 := free_blk hr2 2; have rf3 := free_blk hr2 3; simp only [List.getElem_toArray, List.getElem_cons_zero, List.getElem_cons_succ] at m0 m1 m2 m3 r0 r1 r2 r3; have HM2 := (show Hid _ from hm2); have HR2 := (show Hid _ from hr2); have HU2 := (show Hid _ from hu2); clear hm2 hr2 hu2))
    have h4 : (((((u2.setCell ⟨u.heap.size, 3, none⟩ (.bool (false))).setCell ⟨rb, 0, none⟩ (.int .u8 (sg.toNat : Int))).setCell ⟨rb, 1, none⟩ (.int .i64 (sz : Int))).setCell ⟨rb, 2, none⟩ (.int .i64 (nu : Int))).setCell ⟨rb, 3, none⟩ (.bool (false))).heap[rb]? = some (.cells #[.int .u8 (sg.toNat : Int), .int .i64 (sz : Int), .int .i64 (nu : Int), .bool (false)] 108 (0, 0)) := blk4_set ((Below.heap_setCell _ _ _ _ (by simpa using hrm)).trans HR2.out) _ _ _ _
    have e0 := cell_blk h4 (i := 0) rfl
    have e1 := cell_blk h4 (i := 1) rfl
    have e2 := cell_blk h4 (i := 2) rfl
    have e3 := cell_blk h4 (i := 3) rfl
    simp only [List.getElem_toArray, List.getElem_cons_zero, List.getElem_cons_succ] at e0 e1 e2 e3
    have hle : rb ≤ u.heap.size := by have := lt_of_block (blk_below HN1.out HU.out); omega
    have hW1 : rb ≤ W1.heap.size := by have := lt_of_block HN1.out; omega
    have x1 : Below rb w u := HB1.out.trans (HU.out.mono hW1)
    have x2 := x1.trans (HB2.out.mono hle)
    have x3 := x2.trans (HU2.out.mono (Nat.le_trans hle HB2.out.size))
    clear h4
    refine bodyPost_ret (v := mkV { sign := sg, size := sz, number := nu, parts := false }) ?_ rfl ⟨?_, below_set (below_set (below_set (below_set (below_set x3 hle) (Nat.le_refl _)) (Nat.le_refl _)) (Nat.le_refl _)) (Nat.le_refl _)⟩
    · rw [results_cell1 rfl]
      go_simp
    · simp

end Go.Proofs.YtcbojffcnlkejaaGreatDoor

/- What begins: a Quote, a block of one line. -/
namespace Go.Proofs.YtcbojffcnlkejaaGreatDoor
open Go.RowKit
open cur (cell_blk free_blk set_blk blk_below Cur cptr Oth)

/-- Blocks that are not there are nobody's. -/
def clip (own : Nat → Nat) (w : World) (g : Nat) : Nat := if g < w.heap.size then own g else 0
theorem clip_old {own : Nat → Nat} {w : World} {g : Nat} (h : g < w.heap.size) : clip own w g = own g := if_pos h
theorem clip_new {own : Nat → Nat} {w : World} {g : Nat} (h : w.heap.size ≤ g) : clip own w g = 0 := if_neg (by omega)
theorem Good.clip {w : World} {r : Nat} {own : Nat → Nat} {B : Nat} {s : St} (h : Good w r own B s) : Good w r (clip own w) B s := by
  obtain ⟨N, ⟨bs, vo, vd, vm, h⟩, hW⟩ := h
  refine ⟨N, ⟨bs, vo, vd, vm, h.rd, ?_, h.opens, ?_, ?_, h.len, ?_⟩, hW⟩
  · rw [clip_old (lt_of_block h.rd)]; exact h.rown
  · intro g hg
    rw [clip_old (World.ownsRow.lt h.opens g hg).2]; exact h.oown g hg
  · exact h.defs.mono (fun g hg q => by show Go.Proofs.YtcbojffcnlkejaaGreatDoor.clip own w g = 1; rw [clip_old hg]; exact q) (Nat.le_refl _)
  · intro i b p hb hp
    obtain ⟨z1, vz, z2, z3⟩ := h.part i b p hb hp
    have hz : PartR w (fun g => g < w.heap.size ∧ own g = 2 * i + 2) (fun g => g < w.heap.size ∧ own g = 2 * i + 3) b p := ⟨⟨lt_of_block z2, z1⟩, vz, z2, partV_lt z3⟩
    exact hz.keeps (fun g q => by show Go.Proofs.YtcbojffcnlkejaaGreatDoor.clip own w g = _; rw [clip_old q.1]; exact q.2) (fun g q => by show Go.Proofs.YtcbojffcnlkejaaGreatDoor.clip own w g = _; rw [clip_old q.1]; exact q.2) (fun _ _ _ => rfl) (fun _ _ _ => rfl)
theorem Good.fr {w w' : World} {r : Nat} {own : Nat → Nat} {B : Nat} {s : St} {X : Nat → Prop} (h : Good w r own B s) (hf : Fr X w w') (hx : ∀ g, own g ≠ 0 → ¬ X g) : Good w' r own B s := h.keeps fun g hg q => hf.block g hg (hx g q)

/-- Only what is the reader's, and the place in the line, turn. -/
def StepC (w : World) (own : Nat → Nat) (c : Nat) (w' : World) (own' : Nat → Nat) : Prop := Fr (fun g => own g ≠ 0 ∨ g = c) w w' ∧ ∀ g, g < w.heap.size → own g = 0 → own' g = 0
def LeftC (w : World) (r : Nat) (own : Nat → Nat) (c : Nat) (B : Nat) (s' : St) (σ' : Pl) (w' : World) : Prop := ∃ own', Good w' r own' B s' ∧ Cur w' c σ' ∧ StepC w own c w' own'
theorem StepC.refl (w : World) (own : Nat → Nat) (c : Nat) : StepC w own c w own := ⟨Fr.refl _ _, fun _ _ q => q⟩
theorem StepC.trans {a b d : World} {o p q : Nat → Nat} {c : Nat} (h : StepC a o c b p) (k : StepC b p c d q) : StepC a o c d q :=
  ⟨h.1.trans' k.1 (fun i hi hp => by
    rcases hp with hp | hp
    · exact .inl (fun ho => hp (h.2 i hi ho))
    · exact .inr hp), fun g hg ho => k.2 g (Nat.lt_of_lt_of_le hg h.1.size) (h.2 g hg ho)⟩
theorem Step.toC {w w' : World} {own own' : Nat → Nat} (h : Step w own w' own') (c : Nat) : StepC w own c w' own' := ⟨h.1.mono (fun _ q => .inl q), h.2⟩
theorem Good.wf {w : World} {r : Nat} {own : Nat → Nat} {B : Nat} {s : St} (h : Good w r own B s) : ∃ N, Wf B N s := by
  obtain ⟨N, _, q⟩ := h
  exact ⟨N, q⟩

/-- A part without kids and rows, in a block that was just made. -/
theorem fresh_new {u : World} {own : Nat → Nat} {p : Part} (ho : own u.heap.size = 0) (hp : partV (u.alloc (.cells (partCs p (.slice none 0 0)).toArray (partT p))) (fun g => g = u.heap.size) (fun _ => False) (.slice none 0 0) p) : Fresh (u.alloc (.cells (partCs p (.slice none 0 0)).toArray (partT p))) own (fun g => g = u.heap.size) (fun _ => False) u.heap.size p := by
  refine ⟨⟨rfl, _, new_blk u _ _, hp⟩, fun g hg => ⟨by rw [show g = u.heap.size from hg]; exact ho, fun q => q⟩, fun g hg => False.elim hg, fun g hg => ?_⟩
  rcases hg with hg | hg
  · rw [show g = u.heap.size from hg]; simp
  · exact False.elim hg
theorem partV_none {w : World} {A S : Nat → Prop} {p : Part} (hk : toldK p = .nil) (hb : p.bulk = 0) : partV w A S (.slice none 0 0) p := by
  have nil : KidsV w A S (.slice none 0 0) .nil := ⟨[], World.ownsRow_nil _ _ _ _, fun g hg => (by cases hg), rfl⟩
  have rows : ∀ l : List Str, bulkL l = 0 → RowsV w A (.slice none 0 0) l := by
    intro l hl
    cases l with
    | nil => exact ⟨World.ownsRow_nil _ _ _ _, fun g hg => (by cases hg)⟩
    | cons a r => simp only [bulkL] at hl; omega
  cases p with
  | doc x => have hk : x.kids = .nil := hk; show KidsV _ _ _ _ x.kids; rw [hk]; exact nil
  | quote x => have hk : x.kids = .nil := hk; show KidsV _ _ _ _ x.kids; rw [hk]; exact nil
  | list x m => have hk : x.kids = .nil := hk; show KidsV _ _ _ _ x.kids; rw [hk]; exact nil
  | item x n => have hk : x.kids = .nil := hk; show KidsV _ _ _ _ x.kids; rw [hk]; exact nil
  | para x n => exact rows _ hb
  | fenced x a b c d => exact rows _ hb
  | indented x => exact rows _ hb
  | html x n => exact rows _ hb
  | whole f l i => rfl

/-- What is no Item, and was just made, stands. -/
theorem bstand_new {u : World} {r : Nat} {own : Nat → Nat} {B : Nat} {s : St} (h : Good u r own B s) (hB : B ≤ 549755813888) (hon : 1 ≤ s.on) (hl : LeafLeft s) (ho : own u.heap.size = 0) {p : Part} (hk : toldK p = .nil) (hb : p.bulk = 0) (hi : p.isItem = false) (he : p.ext.1 ≤ B ∧ p.ext.2 ≤ B ∧ p.indOk) :
    Calls Tryz.prog 43 #[ptrV r, partI p u.heap.size] (u.alloc (.cells (partCs p (.slice none 0 0)).toArray (partT p))) fun e w' => e = .returned (.tuple #[]) ∧ Left u r own (B + p.mass) (s.stand p) w' := by
  have hb1 := (Below.refl u.heap.size u).alloc (Nat.le_refl _) (.cells (partCs p (.slice none 0 0)).toArray (partT p))
  refine (bstand_any (h.below hb1) hB hon hl (fresh_new ho (partV_none hk hb)) hi he).mono ?_
  rintro e w' ⟨rfl, own', q1, q2⟩
  refine ⟨rfl, own', q1, ((Fr.refl _ u).alloc _).trans q2.1, ?_⟩
  intro g hg h0
  exact q2.2 g (by simp; omega) h0 (fun q => by
    rcases q with q | q
    · have : g = u.heap.size := q
      omega
    · exact q)

/-- What a call leaves of a world that has grown since, and of the place in the line. -/
theorem LeftC.of {w u w' : World} {r c : Nat} {own : Nat → Nat} {B : Nat} {s : St} {σ : Pl} (hb : Below w.heap.size w u) (h : Left u r (clip own w) B s w') (hC : Cur w c σ) (hc : own c = 0) : LeftC w r own c B s σ w' := by
  obtain ⟨own', q1, q2, q3⟩ := h
  have hcl := hC.lt
  refine ⟨own', q1, ?_, ?_, ?_⟩
  · exact cur_fr (hC.below hb) q2 (by rw [clip_old hcl, hc]; decide)
  · exact (Fr.of_below hb).trans' (q2.mono (fun g q => (q : clip own w g ≠ 0))) (fun i hi q => .inl (by rw [clip_old hi] at q; exact q))
  · intro g hg h0
    exact q3 g (Nat.lt_of_lt_of_le hg hb.size) (by rw [clip_old hg]; exact h0)

set_option maxHeartbeats 2000000 in
theorem bbeginQuote_any {w : World} {r c n : Nat} {own : Nat → Nat} {B : Nat} {s : St} {σ : Pl} (h : Good w r own B s) (hB : B ≤ 549755813888) (hon : 1 ≤ s.on) (hl : LeafLeft s) (hC : Cur w c σ) (hc : own c = 0) (hn : n ≤ B) :
    Calls Tryz.prog 38 #[ptrV r, lnV c n] w fun e w' => e = .returned (.int .i64 0) ∧ LeftC w r own c (B + 1) (s.stand (.quote { first := n, last := n })) (skipR 1 (moveR 1 σ)) w' := by
  have hli := line_blk c n w
  have HB1 : Hid (Below w.heap.size w (w.alloc (.cells #[cptr c, .int .i64 (n : Int)] 63))) := (Below.refl _ _).alloc (Nat.le_refl _) _
  generalize hW : w.alloc (.cells #[cptr c, .int .i64 (n : Int)] 63) = W1 at hli HB1
  have HE := (show Hid _ from fun w => bext_any c n w)
  have l0 := cell_blk hli (i := 0) rfl
  have l1 := cell_blk hli (i := 1) rfl
  simp only [List.getElem_toArray, List.getElem_cons_zero, List.getElem_cons_succ] at l0 l1
  have HSt : Hid (∀ u, Below W1.heap.size W1 u → Calls Tryz.prog 43 #[ptrV r, .iface 121 (ptrV u.heap.size)] (u.alloc (.cells #[.int .i64 (n : Int), .int .i64 (n : Int), .slice none 0 0, .bool false, .bool false] 124)) fun e w' => e = .returned (.tuple #[]) ∧ Left u r (clip own w) (B + 1) (s.stand (.quote { first := n, last := n })) w') := fun u hu => bstand_new (p := .quote { first := n, last := n }) ((h.clip).below (HB1.out.trans (hu.mono HB1.out.size))) hB hon hl (clip_new (Nat.le_trans HB1.out.size hu.size)) rfl rfl rfl ⟨hn, hn, trivial⟩
  have HLn := (show Hid _ from hli)
  have HC : Hid (Cur w c σ) := hC
  have hclt := hC.lt
  have HL1 : Hid (clip own w w.heap.size = 0) := clip_new (Nat.le_refl _)
  have HBU : Hid (∀ u, Below W1.heap.size W1 u → Below w.heap.size w u) := fun u hu => HB1.out.trans (hu.mono HB1.out.size)
  clear hli h hl hC
  generalize hlbe : w.heap.size = lb at *
  go_enter Tryz.func38, Tryz.ntmps38
  go_wp2_with (first
    | (go_at_call 62; refine (HE.out _).mono ?_; rintro e u ⟨rfl, hu⟩; have HU : Hid (Below W1.heap.size W1 u) := hu; clear hu)
    | (go_at_call 43; refine (HSt.out u HU.out).mono ?_; rintro e u2 ⟨rfl, hL2⟩; have hl2 := hL2.choose_spec.2.1.keeps (blk_below HLn.out HU.out) (by rw [HL1.out]; decide); have m0 := cell_blk hl2 (i := 0) rfl; have m1 := cell_blk hl2 (i := 1) rfl; simp only [List.getElem_toArray, List.getElem_cons_zero, List.getElem_cons_succ] at m0 m1; obtain ⟨own2, g2, c2, st2⟩ := LeftC.of (hlbe.symm ▸ HBU.out u HU.out) hL2 HC.out hc; have HP : Hid (Calls Tryz.prog 63 #[lnV c n] u2 fun e w' => e = .returned (.tuple #[]) ∧ Cur w' c (skipR 1 (moveR 1 σ)) ∧ Fr (fun g => g = c) u2 w') := bpass_any c2; have HG2 : Hid (Good u2 r own2 (B + 1) (s.stand (.quote { first := n, last := n }))) := g2; have HS2 : Hid (StepC w own c u2 own2) := st2; clear hL2 hl2 g2 c2 st2)
    | (go_at_call 63; refine HP.out.mono ?_; rintro e u3 ⟨rfl, c3, f3⟩))
  go_ret
  have hc2 : own2 c = 0 := HS2.out.2 c (by omega) hc
  exact ⟨rfl, own2, Good.fr HG2.out f3 (fun g q e => q (by rw [show g = c from e]; exact hc2)), c3, HS2.out.1.trans (f3.mono (fun _ q => .inr q)), HS2.out.2⟩

end Go.Proofs.YtcbojffcnlkejaaGreatDoor

/- What begins: a block of one line. -/
namespace Go.Proofs.YtcbojffcnlkejaaGreatDoor
open Go.RowKit
open cur (cell_blk free_blk set_blk blk_below Cur cptr Oth)

theorem stand_last (s : St) (p : Part) : (s.stand p).opens.getLast? = some p ∧ (s.stand p).on = (s.stand p).opens.length := by
  have h : ∀ t : St, (t.push p).opens.getLast? = some p ∧ (t.push p).on = (t.push p).opens.length := fun t => ⟨by show (t.opens ++ [p]).getLast? = _; simp, by show t.opens.length + 1 = (t.opens ++ [p]).length; simp⟩
  unfold St.stand
  split
  · exact h _
  · exact h _

set_option maxHeartbeats 4000000 in
theorem bbeginWhole_any {w : World} {r c n : Nat} {own : Nat → Nat} {B : Nat} {s : St} {σ : Pl} {i : BI} (h : Good w r own B s) (hB : B + 1 ≤ 549755813888) (hon : 1 ≤ s.on) (hl : LeafLeft s) (hC : Cur w c σ) (hc : own c = 0) (hn : n ≤ B) :
    Calls Tryz.prog 41 #[ptrV r, lnV c n, .agg (biCells i (.slice none 0 0)).toArray] w fun e w' => e = .returned (.int .i64 2) ∧ LeftC w r own c (B + 1) (s.beginWhole n i) σ w' := by
  have hli := line_blk c n w
  have HB1 : Hid (Below w.heap.size w (w.alloc (.cells #[cptr c, .int .i64 (n : Int)] 63))) := (Below.refl _ _).alloc (Nat.le_refl _) _
  generalize hW : w.alloc (.cells #[cptr c, .int .i64 (n : Int)] 63) = W1 at hli HB1
  have hbi := new_blk W1 (biCells i (.slice none 0 0)).toArray 34
  have hl2 := blk_below hli ((Below.refl _ _).alloc (Nat.le_refl _) (.cells (biCells i (.slice none 0 0)).toArray 34))
  have HB2 : Hid (Below W1.heap.size W1 (W1.alloc (.cells (biCells i (.slice none 0 0)).toArray 34))) := (Below.refl _ _).alloc (Nat.le_refl _) _
  generalize hW2 : W1.alloc (.cells (biCells i (.slice none 0 0)).toArray 34) = W2 at hbi hl2 HB2
  have hd : Below W2.heap.size W2 W2.drew := ⟨rfl, rfl, rfl, Nat.le_refl _, fun _ _ => rfl⟩
  have l0 := cell_blk (blk_below hl2 hd) (i := 0) rfl
  have l1 := cell_blk (blk_below hl2 hd) (i := 1) rfl
  simp only [List.getElem_toArray, List.getElem_cons_zero, List.getElem_cons_succ] at l0 l1
  obtain ⟨z0, z1, z2, z3, z4, z5, z6, z7⟩ := (zer8 (blk_below hbi hd)).1
  have HZ : Hid (∀ u, Below W2.drew.heap.size W2.drew u → u.heap[W1.heap.size]? = some (.cells (biCells i (.slice none 0 0)).toArray 34)) := fun u hu => blk_below (blk_below hbi hd) hu
  have HE : Hid (∀ w, Calls Tryz.prog 62 #[lnV c n] w fun e w' => e = .returned (.agg #[.int .i64 (n : Int), .int .i64 (n : Int)]) ∧ Below w.heap.size w w') := fun w => bext_any c n w
  have HBU : Hid (∀ u, Below W2.drew.heap.size W2.drew u → Below w.heap.size w u) := fun u hu => (HB1.out.trans (HB2.out.mono HB1.out.size)).trans ((hd.trans hu).mono (Nat.le_trans HB1.out.size HB2.out.size))
  have HSt : Hid (∀ u, Below W2.drew.heap.size W2.drew u → Calls Tryz.prog 43 #[ptrV r, .iface 127 (ptrV u.heap.size)] (u.alloc (.cells (.int .i64 (n : Int) :: .int .i64 (n : Int) :: biCells i (.slice none 0 0)).toArray 129)) fun e w' => e = .returned (.tuple #[]) ∧ Left u r (clip own w) (B + 1) (s.stand (.whole n n i)) w') := fun u hu => bstand_new (p := .whole n n i) ((h.clip).below (HBU.out u hu)) (by omega) hon hl (clip_new (HBU.out u hu).size) rfl rfl rfl ⟨hn, hn, trivial⟩
  have HCl : Hid (∀ (u : World) (own2 : Nat → Nat), Good u r own2 (B + 1) (s.stand (.whole n n i)) → Calls Tryz.prog 30 #[ptrV r] u fun e w' => e = .returned (.tuple #[]) ∧ Left u r own2 (B + 1) (s.beginWhole n i) w') := fun u own2 g => bclose_good g (by omega) (by obtain ⟨N, q⟩ := g.wf; exact q.two (stand_last s _).1 rfl)
  have HC : Hid (Cur w c σ) := hC
  have hclt := hC.lt
  clear hli h hl hC hbi hl2 hd
  generalize hlbe : w.heap.size = lb at *
  generalize hbbe : W1.heap.size = bb at *
  go_enter Tryz.func41, Tryz.ntmps41
  go_wp2
  go_region_with (first
    | (go_at_call 62; refine (HE.out _).mono ?_; rintro e u ⟨rfl, hu⟩; obtain ⟨y0, y1, y2, y3, y4, y5, y6, y7⟩ := (zer8 (HZ.out u hu)).1; have HU : Hid (Below W2.drew.heap.size W2.drew u) := hu; clear hu)
    | (go_at_call 43; refine (HSt.out u HU.out).mono ?_; rintro e u2 ⟨rfl, hL2⟩; obtain ⟨own2, g2, c2, st2⟩ := LeftC.of (hlbe.symm ▸ HBU.out u HU.out) hL2 HC.out hc; have HG2 : Hid (Good u2 r own2 (B + 1) (s.stand (.whole n n i))) := g2; have HC2 : Hid (Cur u2 c σ) := c2; have HS2 : Hid (StepC w own c u2 own2) := st2; clear hL2 g2 c2 st2))
  all_goals
    go_wp2_with (go_at_call 30; refine (HCl.out u2 own2 HG2.out).mono ?_; rintro e u3 ⟨rfl, own3, g3, st3⟩)
    go_ret
    have hc2 : own2 c = 0 := HS2.out.2 c (by omega) hc
    exact ⟨rfl, own3, g3, cur_fr HC2.out st3.1 (by rw [hc2]; decide), HS2.out.trans (st3.toC c)⟩

end Go.Proofs.YtcbojffcnlkejaaGreatDoor

/- What begins: Code without fences. -/
namespace Go.Proofs.YtcbojffcnlkejaaGreatDoor
open Go.RowKit
open cur (cell_blk free_blk set_blk blk_below Cur cptr Oth)

theorem Good.more {w : World} {r : Nat} {own : Nat → Nat} {B B' : Nat} {s : St} (h : Good w r own B s) (hB : B ≤ B') : Good w r own B' s := by
  obtain ⟨N, h1, h2⟩ := h
  exact ⟨N, h1, h2.doc, h2.cont, h2.list, fun i p hp => ⟨Nat.le_trans (h2.ext i p hp).1 hB, Nat.le_trans (h2.ext i p hp).2.1 hB, (h2.ext i p hp).2.2⟩, Nat.le_trans h2.mass hB, h2.on⟩

/-- A part that was just made, with rows, stands. -/
theorem bstand_body {w u : World} {r c b : Nat} {own : Nat → Nat} {B : Nat} {s : St} {σ : Pl} {p : Part} {v : Value} (h : Good w r own B s) (hB : B ≤ 549755813888) (hon : 1 ≤ s.on) (hl : LeafLeft s) (hf : Fr (fun g => g = c) w u) (hc : own c = 0) (hC : Cur u c σ)
    (hb : u.heap[b]? = some (.cells (partCs p v).toArray (partT p) (0, 0))) (hnew : w.heap.size ≤ b) (hv : ∀ g, v.ownBlock = some g → w.heap.size ≤ g ∧ g < u.heap.size) (hrow : partV u (fun g => g = b ∨ v.ownBlock = some g) (fun _ => False) v p) (hi : p.isItem = false) (he : p.ext.1 ≤ B ∧ p.ext.2 ≤ B ∧ p.indOk) :
    Calls Tryz.prog 43 #[ptrV r, partI p b] u fun e w' => e = .returned (.tuple #[]) ∧ LeftC w r own c (B + p.mass) (s.stand p) σ w' := by
  have hcc : clip own w c = 0 := by
    unfold clip
    split
    · exact hc
    · rfl
  have hX : ∀ g, (g = b ∨ v.ownBlock = some g) → w.heap.size ≤ g ∧ g < u.heap.size := by
    intro g hg
    rcases hg with hg | hg
    · rw [hg]; exact ⟨hnew, lt_of_block hb⟩
    · exact hv g hg
  have hg : Good u r (clip own w) B s := (h.clip).fr hf (fun g q e => q (by rw [show g = c from e]; exact hcc))
  refine (bstand_any hg hB hon hl (A := fun g => g = b ∨ v.ownBlock = some g) (S := fun _ => False) (b := b) (p := p) ⟨⟨.inl rfl, v, hb, hrow⟩, fun g q => ⟨clip_new (hX g q).1, fun q => q⟩, fun g q => q.elim, fun g q => q.elim (fun q => (hX g q).2) (fun q => q.elim)⟩ hi he).mono ?_
  rintro e w' ⟨rfl, own', g', f', s'⟩
  refine ⟨rfl, own', g', cur_fr hC f' (by rw [hcc]; decide), ?_, ?_⟩
  · exact (hf.mono (fun _ q => (.inr q : own _ ≠ 0 ∨ _ = c))).trans' f' (fun i hi q => .inl (by rw [clip_old hi] at q; exact q))
  · intro g hg h0
    refine s' g (Nat.lt_of_lt_of_le hg hf.size) (by rw [clip_old hg]; exact h0) (fun q => ?_)
    rcases q with q | q
    · have := (hX g q).1
      omega
    · exact q

set_option maxHeartbeats 4000000 in
theorem bbeginIndented_any {w : World} {r c n : Nat} {own : Nat → Nat} {B : Nat} {s : St} {σ : Pl} (h : Good w r own B s) (hB : B ≤ 549755813888) (hon : 1 ≤ s.on) (hl : LeafLeft s) (hC : Cur w c σ) (hc : own c = 0) (hn : n ≤ B) :
    Calls Tryz.prog 35 #[ptrV r, lnV c n] w fun e w' => e = .returned (.int .i64 ((s.beginIndented n σ).1 : Int)) ∧ LeftC w r own c (B + (Part.indented (takeI { first := n, last := n } n σ)).mass) (s.beginIndented n σ).2.1 (s.beginIndented n σ).2.2 w' := by
  have hli := line_blk c n w
  have HB1 : Hid (Below w.heap.size w (w.alloc (.cells #[cptr c, .int .i64 (n : Int)] 63))) := (Below.refl _ _).alloc (Nat.le_refl _) _
  generalize hW : w.alloc (.cells #[cptr c, .int .i64 (n : Int)] 63) = W1 at hli HB1
  have hC1 := hC.below HB1.out
  have l0 := fun m : Nat => cell_blk (w := W1.drewN m) hli (i := 0) rfl
  have l1 := fun m : Nat => cell_blk (w := W1.drewN m) hli (i := 1) rfl
  simp only [List.getElem_toArray, List.getElem_cons_zero, List.getElem_cons_succ] at l0 l1
  have HH : Hid (Calls Tryz.prog 46 #[ptrV r] W1 fun e w' => e = .returned (.bool s.hasPara) ∧ ∃ m, w' = W1.drewN m) := bhasPara_good (h.below HB1.out) hB
  have HBl : Hid (∀ m, Calls Tryz.prog 54 #[cptr c] (W1.drewN m) fun e w' => e = .returned (.bool (blankB σ)) ∧ ∃ k, w' = W1.drewN k) := fun m => (cur.blank_any (hC1.drewN m)).mono fun _ w' ⟨q, k, e⟩ => ⟨q, m + k, by rw [e, drew_add]⟩
  have HBU : Hid (∀ m u, Below (W1.drewN m).heap.size (W1.drewN m) u → Below w.heap.size w u) := fun m u hu => (cur.below_drewN HB1.out m).trans (hu.mono HB1.out.size)
  have HBd : Hid (∀ m, Calls Tryz.prog 44 #[lnV c n] (W1.drewN m) fun e w' => e = .returned (.agg #[.int .i64 (n : Int), .int .i64 (n : Int), .slice none 0 0]) ∧ Below w.heap.size w w' ∧ w'.heap[w.heap.size]? = some (.cells #[cptr c, .int .i64 (n : Int)] 63 (0, 0))) := fun m => (bbody_any c n (W1.drewN m)).mono fun _ u ⟨q, hu⟩ => ⟨q, HBU.out m u hu, blk_below (w := W1.drewN m) hli hu⟩
  have HTk : Hid (∀ u, Below w.heap.size w u → Calls Tryz.prog 60 #[ptrV u.heap.size, lnV c n] (u.alloc (.cells #[.int .i64 (n : Int), .int .i64 (n : Int), .slice none 0 0] 120)) fun e w' => e = .returned (.tuple #[]) ∧ (blankB σ = false → Calls Tryz.prog 43 #[ptrV r, .iface 118 (ptrV u.heap.size)] w' fun e w' => e = .returned (.tuple #[]) ∧ LeftC w r own c (B + (Part.indented (takeI { first := n, last := n } n σ)).mass) (s.stand (.indented (takeI { first := n, last := n } n σ))) (skipR 4 σ) w')) := fun u hu => by
    have hb2 := hu.alloc hu.size (.cells #[.int .i64 (n : Int), .int .i64 (n : Int), .slice none 0 0] 120)
    have hne : u.heap.size ≠ c := by have := hC.lt; have := hu.size; omega
    refine (btake_any (w := u.alloc (.cells #[.int .i64 (n : Int), .int .i64 (n : Int), .slice none 0 0] 120)) (b := u.heap.size) (c := c) (n := n) (x := { first := n, last := n }) (v := .slice none 0 0) (new_blk u _ _) (World.ownsRow_nil _ _ _ _) (Nat.zero_le _) (hC.below hb2) hne).mono ?_
    rintro e w' ⟨rfl, v', q1, q2, q3, q4, q5⟩
    refine ⟨rfl, fun hbl => ?_⟩
    refine bstand_body (v := v') (p := .indented (takeI { first := n, last := n } n σ)) h hB hon hl ((Fr.of_below hb2).trans' q5 (fun i hi q => ?_)) hc q4 q1 hu.size (fun g hg => ⟨?_, (World.ownsRow.lt q2 g hg).2⟩) ⟨q2, fun g hg => .inr hg⟩ rfl ?_
    · rcases q with q | q | q
      · have := hu.size
        omega
      · cases q
      · exact q
    · rcases q3 g hg with q | q
      · cases q
      · have := hb2.size
        omega
    · simp only [takeI, hbl]
      exact ⟨hn, hn, by show n ≤ n; exact Nat.le_refl _, by show n - n + 1 ≤ 1; omega⟩
  have HN : Hid (∀ m, LeftC w r own c (B + (Part.indented (takeI { first := n, last := n } n σ)).mass) s σ (W1.drewN m)) := fun m => ⟨own, (h.below (cur.below_drewN HB1.out m)).more (Nat.le_add_right _ _), hC1.drewN m, Fr.of_below (cur.below_drewN HB1.out m), fun _ _ q => q⟩
  have HR : Hid (s.beginIndented n σ = if s.hasPara || blankB σ then (1, s, σ) else (2, s.stand (.indented (takeI { first := n, last := n } n σ)), skipR 4 σ)) := rfl
  generalize s.beginIndented n σ = R at *
  clear hli h hl hC hC1
  generalize hlbe : w.heap.size = lb at *
  cases hp : s.hasPara
  · rw [hp] at HH HR
    cases hbl : blankB σ
    · have HTK : Hid (∀ u, Below w.heap.size w u → Calls Tryz.prog 60 #[ptrV u.heap.size, lnV c n] (u.alloc (.cells #[.int .i64 (n : Int), .int .i64 (n : Int), .slice none 0 0] 120)) fun e w' => e = .returned (.tuple #[]) ∧ (Calls Tryz.prog 43 #[ptrV r, .iface 118 (ptrV u.heap.size)] w' fun e w' => e = .returned (.tuple #[]) ∧ LeftC w r own c (B + (Part.indented (takeI { first := n, last := n } n σ)).mass) (s.stand (.indented (takeI { first := n, last := n } n σ))) (skipR 4 σ) w')) := fun u hu => (HTk.out u (hlbe ▸ hu)).mono fun _ _ q => ⟨q.1, q.2 hbl⟩
      rw [hlbe] at HTK
      clear HTk
      rw [hbl] at HBl HR
      rw [if_neg (by decide)] at HR
      go_enter Tryz.func35, Tryz.ntmps35
      go_wp2_with (first
        | (go_at_call 46; refine HH.out.mono ?_; rintro e u ⟨rfl, m, rfl⟩)
        | (go_at_call 54; refine (HBl.out m).mono ?_; rintro e u ⟨rfl, k, rfl⟩)
        | (go_at_call 44; refine (HBd.out k).mono ?_; rintro e u ⟨rfl, hu, hlu⟩; have m0 := cell_blk (blk_below hlu ((Below.refl u.heap.size u).alloc (Nat.le_refl _) (.cells #[.int .i64 (n : Int), .int .i64 (n : Int), .slice none 0 0] 120))) (i := 0) rfl; have m1 := cell_blk (blk_below hlu ((Below.refl u.heap.size u).alloc (Nat.le_refl _) (.cells #[.int .i64 (n : Int), .int .i64 (n : Int), .slice none 0 0] 120))) (i := 1) rfl; simp only [List.getElem_toArray, List.getElem_cons_zero, List.getElem_cons_succ] at m0 m1; have HU : Hid (Below lb w u) := hu; clear hu hlu)
        | (go_at_call 60; refine (HTK.out u HU.out).mono ?_; rintro e u2 ⟨rfl, hs2⟩; have HS2 := (show Hid _ from hs2); clear hs2)
        | (go_at_call 43; refine Calls.mono HS2.out ?_; rintro e u3 ⟨rfl, hL⟩))
      go_ret
      rw [HR.out]
      exact ⟨rfl, hL⟩
    · rw [hbl] at HBl HR
      rw [if_pos (by decide)] at HR
      go_enter Tryz.func35, Tryz.ntmps35
      go_wp2_with (first
        | (go_at_call 46; refine HH.out.mono ?_; rintro e u ⟨rfl, m, rfl⟩)
        | (go_at_call 54; refine (HBl.out m).mono ?_; rintro e u ⟨rfl, k, rfl⟩))
      go_ret
      rw [HR.out]
      exact ⟨rfl, HN.out k⟩
  · rw [hp] at HH HR
    rw [if_pos (by simp)] at HR
    go_enter Tryz.func35, Tryz.ntmps35
    go_wp2_with (first
      | (go_at_call 46; refine HH.out.mono ?_; rintro e u ⟨rfl, m, rfl⟩))
    go_ret
    rw [HR.out]
    exact ⟨rfl, HN.out m⟩

end Go.Proofs.YtcbojffcnlkejaaGreatDoor

/- A part of rows that is open takes a line. -/
namespace Go.Proofs.YtcbojffcnlkejaaGreatDoor
open Go.RowKit
open cur (cell_blk free_blk set_blk blk_below Cur cptr Oth)

theorem wf_set {B N : Nat} {s : St} {i k : Nat} {p p' : Part} (h : Wf B N s) (hp : s.opens[i]? = some p) (h0 : 0 < i) (hC : p'.isC = p.isC) (hL : p'.isList = p.isList) (hI : p'.isItem = p.isItem) (he : p'.ext.1 ≤ B + k ∧ p'.ext.2 ≤ B + k ∧ p'.indOk) (hm : p'.mass ≤ p.mass + k) : Wf (B + k) N { s with opens := s.opens.set i p' } := by
  have hlt : i < s.opens.length := (List.getElem?_eq_some_iff.1 hp).1
  have at_ : ∀ (j : Nat) (q : Part), (s.opens.set i p')[j]? = some q → (j = i ∧ q = p') ∨ (j ≠ i ∧ s.opens[j]? = some q) := by
    intro j q hq
    by_cases hj : j = i
    · subst hj
      rw [List.getElem?_set_self hlt] at hq
      cases hq
      exact .inl ⟨rfl, rfl⟩
    · rw [List.getElem?_set_ne (Ne.symm hj)] at hq
      exact .inr ⟨hj, hq⟩
  refine ⟨?_, ?_, ?_, ?_, ?_, ?_⟩
  · obtain ⟨x, hx⟩ := h.doc
    exact ⟨x, by show (s.opens.set i p')[0]? = _; rw [List.getElem?_set_ne (by omega)]; exact hx⟩
  · intro j q hq hj
    have hk : j + 1 < s.opens.length := by
      have q1 : j + 1 < (s.opens.set i p').length := hj
      rwa [List.length_set] at q1
    rcases at_ j q hq with ⟨rfl, rfl⟩ | ⟨_, h2⟩
    · rw [hC]; exact h.cont _ p hp hk
    · exact h.cont j q h2 hk
  · intro j q q' hq hq' hl
    rcases at_ j q hq with ⟨rfl, rfl⟩ | ⟨_, h2⟩
    · rcases at_ (j + 1) q' hq' with ⟨e, _⟩ | ⟨_, h3⟩
      · omega
      · exact h.list j p q' hp h3 (hL ▸ hl)
    · rcases at_ (j + 1) q' hq' with ⟨e, rfl⟩ | ⟨_, h3⟩
      · rw [hI]; exact h.list j q p h2 (e ▸ hp) hl
      · exact h.list j q q' h2 h3 hl
  · intro j q hq
    rcases at_ j q hq with ⟨rfl, rfl⟩ | ⟨_, h2⟩
    · exact he
    · have := h.ext j q h2
      exact ⟨by omega, by omega, this.2.2⟩
  · have h1 := massL_set _ _ _ p' hp
    have h2 := h.mass
    unfold St.mass at h2 ⊢
    show massL (s.opens.set i p') + s.defs.length + N ≤ B + k
    omega
  · show s.on ≤ (s.opens.set i p').length
    rw [List.length_set]; exact h.on

def ownPut (own : Nat → Nat) (w : World) (i : Nat) (v' : Value) (g : Nat) : Nat := if g < w.heap.size then own g else if v'.ownBlock = some g then 2 * i + 2 else 0
theorem ownPut_old {own : Nat → Nat} {w : World} {i : Nat} {v' : Value} {g : Nat} (h : g < w.heap.size) : ownPut own w i v' g = own g := if_pos h

theorem rows_rep {w w' : World} {r c : Nat} {own : Nat → Nat} {N : Nat} {bs : List Nat} {vo vd vm : Value} {s : St} (h : RepR w r own N bs vo vd vm s) {i b : Nat} {p p' : Part} (hp : s.opens[i]? = some p) (hb : bs[i]? = some b) (hpp : partP p' = partP p) {v v' : Value} (hbo : own b = 2 * i + 2) (hblt : b < w.heap.size) (hvo : ∀ g, v.ownBlock = some g → own g = 2 * i + 2) (hc : own c = 0)
    (hP : w'.heap[b]? = some (.cells (partCs p' v').toArray (partT p') (0, 0))) (hV : ∀ A S : Nat → Prop, (∀ g, v'.ownBlock = some g → A g) → partV w' A S v' p') (hv : ∀ g, v'.ownBlock = some g → v.ownBlock = some g ∨ w.heap.size ≤ g)
    (hF : Fr (fun g => g = b ∨ v.ownBlock = some g ∨ g = c) w w') :
    ∃ own', RepR w' r own' N bs vo vd vm { s with opens := s.opens.set i p' } ∧ StepC w own c w' own' := by
  have hlt : i < s.opens.length := (List.getElem?_eq_some_iff.1 hp).1
  have out : ∀ g, (g = b ∨ v.ownBlock = some g ∨ g = c) → own g = 2 * i + 2 ∨ own g = 0 := by
    intro g hg
    rcases hg with hg | hg | hg
    · rw [hg]; exact .inl hbo
    · exact .inl (hvo g hg)
    · rw [hg]; exact .inr hc
  have keep : ∀ g, g < w.heap.size → own g ≠ 0 → own g ≠ 2 * i + 2 → w'.heap[g]? = w.heap[g]? := fun g hg q1 q2 => hF.block g hg (fun q => by rcases out g q with z | z <;> omega)
  refine ⟨ownPut own w i v', ⟨?_, ?_, ?_, ?_, ?_, ?_, ?_⟩, ?_, ?_⟩
  · exact (keep r (lt_of_block h.rd) (by rw [h.rown]; decide) (by rw [h.rown]; omega)).trans h.rd
  · rw [ownPut_old (lt_of_block h.rd)]; exact h.rown
  · show w'.ownsRow 0 _ 1 vo (s.opens.set i _).length (List.zipWith partI (s.opens.set i _) bs)
    rw [List.length_set, zip_set (p' := p') hp hpp]
    exact row_keeps h.opens (fun g hg => keep g (World.ownsRow.lt h.opens g hg).2 (by rw [h.oown g hg]; decide) (by rw [h.oown g hg]; omega))
  · intro g hg
    rw [ownPut_old (World.ownsRow.lt h.opens g hg).2]
    exact h.oown g hg
  · have hD := (h.defs.mono (O' := fun g => g < w.heap.size ∧ own g = 1) (fun g hg q => ⟨hg, q⟩) (Nat.le_refl _))
    exact hD.keeps (fun g q => by show ownPut own w i v' g = 1; rw [ownPut_old q.1]; exact q.2) (fun g hg q => keep g hg (by omega) (by omega))
  · show bs.length = (s.opens.set i _).length
    rw [List.length_set]; exact h.len
  · intro j b' q hb' hq
    by_cases hj : j = i
    · subst hj
      have hq : (s.opens.set j p')[j]? = some q := hq
      rw [List.getElem?_set_self hlt] at hq
      cases hq
      rw [hb] at hb'
      cases hb'
      refine ⟨?_, v', hP, hV _ _ (fun g hg => ?_)⟩
      · show ownPut own w j v' b = _
        rw [ownPut_old hblt]; exact hbo
      · show ownPut own w j v' g = _
        by_cases hgl : g < w.heap.size
        · rw [ownPut_old hgl]
          rcases hv g hg with z | z
          · exact hvo g z
          · omega
        · unfold ownPut
          rw [if_neg hgl, if_pos hg]
    · have hq : (s.opens.set i p')[j]? = some q := hq
      rw [List.getElem?_set_ne (Ne.symm hj)] at hq
      obtain ⟨z1, vz, z2, z3⟩ := h.part j b' q hb' hq
      have old : PartR w' (fun g => g < w.heap.size ∧ own g = 2 * j + 2) (fun g => g < w.heap.size ∧ own g = 2 * j + 3) b' q := by
        have hz : PartR w (fun g => g < w.heap.size ∧ own g = 2 * j + 2) (fun g => g < w.heap.size ∧ own g = 2 * j + 3) b' q := ⟨⟨lt_of_block z2, z1⟩, vz, z2, partV_lt z3⟩
        exact hz.keeps (fun _ q => q) (fun _ q => q) (fun g hg q => keep g hg (by omega) (by omega)) (fun g hg q => keep g hg (by omega) (by omega))
      exact old.keeps (fun g q => by show ownPut own w i v' g = _; rw [ownPut_old q.1]; exact q.2) (fun g q => by show ownPut own w i v' g = _; rw [ownPut_old q.1]; exact q.2) (fun _ _ _ => rfl) (fun _ _ _ => rfl)
  · exact hF.mono (fun g q => by
      rcases q with q | q | q
      · exact .inl (by rw [q, hbo]; omega)
      · exact .inl (by rw [hvo g q]; omega)
      · exact .inr q)
  · intro g hg h0
    rw [ownPut_old hg]; exact h0

theorem set_last {l : List Part} {n : Nat} (h : l.length = n + 1) (p : Part) : l.set n p = l.dropLast ++ [p] := by
  apply List.ext_getElem?
  intro j
  by_cases hj : j = n
  · subst hj
    rw [List.getElem?_set_self (by omega), List.getElem?_append_right (by simp; omega)]
    simp [h]
  · rw [List.getElem?_set_ne (Ne.symm hj)]
    by_cases hl : j < n
    · rw [List.getElem?_append_left (by simp; omega), List.getElem?_dropLast, if_pos (by omega)]
    · rw [List.getElem?_eq_none (by omega), List.getElem?_eq_none (by simp; omega)]

end Go.Proofs.YtcbojffcnlkejaaGreatDoor
