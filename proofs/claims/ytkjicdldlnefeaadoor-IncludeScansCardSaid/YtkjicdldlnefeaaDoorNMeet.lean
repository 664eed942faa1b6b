/- meet (include); walked. -/
import Derived.Test.YtkjicdldlnefeaaDoorNApp
set_option linter.unusedVariables false
namespace Go.Proofs.YtkjicdldlnefeaaDoor
open Go.RowKit

theorem infoRf : (Tryd.prog.info? 24).map (fun i => (i.zero, i.size, i.bytes)) = some (some (.agg #[.string ⟨#[]⟩, .string ⟨#[]⟩, .int .i64 0]), 3, 40) := by kernel_rfl
abbrev ptrX (b : Nat) : Value := .pointer (some ⟨b, 0, none⟩)
theorem meet_done {w Wa u5 : World} {xb g5 c5 : Nat} {vp vm vo vt : Value} {x : ExA} {ts : List Value} {r : RfA} (C : Option Nat) (hw : xb < w.heap.size) (hB : Below w.heap.size w Wa) (hA : ExM Wa xb vp vm vo vt x) (hr : ts = rfCs [r]) (hO : u5.ownsRow (xb + 1) 24 3 (.slice (some ⟨g5, 0, none⟩) (x.met.length + 1) c5) (x.met.length + 1) (rfCs x.met ++ ts)) (hG : Wa.grownBy u5 vt.ownBlock) (hat : vt.ownBlock = some g5 ∨ w.heap.size ≤ g5) :
    ExM (u5.setCell ⟨xb, 3, none⟩ (.slice (some ⟨g5, 0, none⟩) (x.met.length + 1) c5)) xb vp vm vo (.slice (some ⟨g5, 0, none⟩) (x.met.length + 1) c5) ⟨x.out, x.met ++ [r], x.takes⟩ ∧ FrN xb vt (.slice (some ⟨g5, 0, none⟩) (x.met.length + 1) c5) C w (u5.setCell ⟨xb, 3, none⟩ (.slice (some ⟨g5, 0, none⟩) (x.met.length + 1) c5)) := by
  have hne : vt.ownBlock ≠ some xb := nrow_neq hA.met hA.blk (by decide)
  have hb5 : u5.heap[xb]? = some (.cells #[vp, vm, vo, vt, .int .i64 (x.takes : Int)] 59 (0, 0)) := (hG.block xb hA.lt (fun e => hne e.symm)).trans hA.blk
  refine ⟨⟨set_blkN hb5 3 _, ?_, ?_⟩, ⟨?_, ?_, ?_⟩⟩
  · refine nrow_kept (w := u5) (nrow_kept hA.out fun g cs hg hBg hb => ?_) fun g cs hg hBg hb => blk_setN hb (by omega) 3 _
    exact (hG.block g (Array.getElem?_eq_some_iff.1 hb).1 (fun e => nrows_apart hA.out hA.met (by decide) g hg e.symm)).trans hb
  · have hlen : (x.met ++ [r]).length = x.met.length + 1 := by rw [List.length_append]; rfl
    show World.ownsRow _ _ _ _ _ (x.met ++ [r]).length (rfCs (x.met ++ [r]))
    rw [hlen, rfCs_app, ← hr]
    exact nrow_kept hO fun g cs hg hBg hb => blk_setN hb (by omega) 3 _
  · exact ((hB.mono (Nat.le_of_lt hw)).grown hG (Nat.le_of_lt hA.lt) (fun k hk => by have := (World.ownsRow.lt hA.met k hk).1; omega)).setCell (Nat.le_refl _) _
  · intro b cs t hb h1 h2 h3 h4
    have hb2 := blk_belowN hb hB
    exact blk_setN ((hG.block b (Array.getElem?_eq_some_iff.1 hb2).1 (fun e => h3 e.symm)).trans hb2) (fun e => h1 e.symm) 3 _
  · intro g hg
    have : g5 = g := by simpa [Value.ownBlock] using hg
    subst this
    exact hat

set_option maxHeartbeats 8000000 in
set_option maxRecDepth 8000 in
theorem nmeet_any {w : World} {xb : Nat} {vp vm vo vt : Value} {x : ExA} (h : ExM w xb vp vm vo vt x) (hm : x.met.length ≤ 300) (r : RfA) (C : Option Nat) : Calls Tryd.prog 46 #[ptrX xb, aggR r] w fun e w' => e = .returned (.tuple #[]) ∧ ∃ vt', ExM w' xb vp vm vo vt' ⟨x.out, meetA x.met r, x.takes⟩ ∧ FrN xb vt vt' C w w' := by
  obtain ⟨i0, hi, hz0, hz1, hz2⟩ := info_parts infoRf
  have hxb := h.lt
  have HC0 : Hid (∀ u, Below w.heap.size w u → Calls Tryd.prog 61 #[vt, aggR r] u fun e w' => e = .returned (.bool (hasR x.met r)) ∧ Below u.heap.size u w') := fun u hu => ncontR_any x.met r (by omega) vt u (rfs_row (nrow_below h.met hu))
  have HM : Hid (meetA x.met r = if hasR x.met r = true then x.met else x.met ++ [r]) := rfl
  obtain ⟨at0, ct, hvt⟩ := nrow_len h.met
  subst hvt
  obtain ⟨t, d, v⟩ := r
  have HC : Hid (∀ u, Below w.heap.size w u → Calls Tryd.prog 61 #[.slice at0 x.met.length ct, .agg #[strA t, strA d, .int .i64 v]] u fun e w' => e = .returned (.bool (hasR x.met ⟨t, d, v⟩)) ∧ Below u.heap.size u w') := HC0
  clear HC0
  show Calls Tryd.prog 46 #[ptrX xb, .agg #[strA t, strA d, .int .i64 v]] w _
  obtain ⟨W, hW⟩ : ∃ W, W = w.alloc (.cells #[strA t, strA d, .int .i64 v] 24) := ⟨_, rfl⟩
  have HB1 : Hid (Below w.heap.size w W) := by show Below _ _ _; rw [hW]; exact (Below.refl _ _).alloc (Nat.le_refl _) _
  have HKr : Hid (W.heap[w.heap.size]? = some (.cells #[strA t, strA d, .int .i64 v] 24 (0, 0))) := by show _ = _; rw [hW]; exact blk_newN _ _ _
  have HX := (show Hid (ExM W xb vp vm vo (.slice at0 x.met.length ct) x) from h.below HB1.out)
  have c3 : ∀ u : BwN W, u.wo.cell? ⟨xb, 3, none⟩ = some (.slice at0 x.met.length ct) := fun u => cell_blkN (HX.out.below u.is).blk (i := 3) rfl
  have y0 : ∀ u : BwN W, u.wo.cell? ⟨w.heap.size, 0, none⟩ = some (strA t) := fun u => cell_blkN (blk_belowN HKr.out u.is) (i := 0) rfl
  have y1 : ∀ u : BwN W, u.wo.cell? ⟨w.heap.size, 1, none⟩ = some (strA d) := fun u => cell_blkN (blk_belowN HKr.out u.is) (i := 1) rfl
  have y2 : ∀ u : BwN W, u.wo.cell? ⟨w.heap.size, 2, none⟩ = some (.int .i64 v) := fun u => cell_blkN (blk_belowN HKr.out u.is) (i := 2) rfl
  generalize hasR x.met ⟨t, d, v⟩ = H at *
  have HCj : Hid (∀ u : BwN W, Calls Tryd.prog 61 #[.slice at0 x.met.length ct, .agg #[strA t, strA d, .int .i64 v]] u.wo fun e w' => e = .returned (.bool H) ∧ ∃ u' : BwN W, w' = u'.wo) := fun u => (HC.out u.wo (HB1.out.trans (u.is.mono HB1.out.size))).mono fun e w' q => ⟨q.1, BwN.of (u.is.trans (q.2.mono u.is.size)), rfl⟩
  clear HC h
  go_enter Tryd.func46, Tryd.ntmps46
  go_wp2
  rw [← hW]
  refine region_classN (fun w' => ∃ u : BwN W, w' = u.wo) (by kernel_rfl) (by kernel_rfl) (BwN.first W) ?_
  haveI := BwN.some W
  repeat (go_big_quiet_step (first | (go_at_call 61; exact HCj.out _) | exact rfl))
  refine wpQuiet_nil ?_
  intro w3 hw3
  obtain ⟨U3, hu3⟩ := hw3
  subst hu3
  have HB3 := (show Hid (Below W.heap.size W U3.wo) from U3.is)
  clear c3 y0 y1 y2 HCj hW
  generalize U3.wo = V at *
  have HBV := (show Hid (Below w.heap.size w V) from HB1.out.trans (HB3.out.mono HB1.out.size))
  have HXV := (show Hid (ExM V xb vp vm vo (.slice at0 x.met.length ct) x) from HX.out.below HB3.out)
  have HKV := (show Hid _ from blk_belowN HKr.out HB3.out)
  clear HX HKr HB3 HB1
  cases H
  · have hMM : meetA x.met ⟨t, d, v⟩ = x.met ++ [⟨t, d, v⟩] := by rw [HM.out]; rfl
    have HMM := (show Hid _ from hMM)
    clear hMM HM
    have a3 : V.drew.cell? ⟨xb, 3, none⟩ = some (.slice at0 x.met.length ct) := cell_blkN (w := V.drew) HXV.out.blk (i := 3) rfl
    have a4 : ∀ o, (V.alloc o).drew.cell? ⟨xb, 3, none⟩ = some (.slice at0 x.met.length ct) := fun o => cell_blkN (w := (V.alloc o).drew) (HXV.out.below ((Below.refl _ _).alloc (Nat.le_refl _) o)).blk (i := 3) rfl
    have b0 : V.drew.cell? ⟨w.heap.size, 0, none⟩ = some (strA t) := cell_blkN (w := V.drew) HKV.out (i := 0) rfl
    have b1 : V.drew.cell? ⟨w.heap.size, 1, none⟩ = some (strA d) := cell_blkN (w := V.drew) HKV.out (i := 1) rfl
    have b2 : V.drew.cell? ⟨w.heap.size, 2, none⟩ = some (.int .i64 v) := cell_blkN (w := V.drew) HKV.out (i := 2) rfl
    have HR5 : Hid (V.drew.ownsRow (xb + 1) 24 3 (.slice at0 x.met.length ct) x.met.length (rfCs x.met)) := HXV.out.met
    have HS5 : Hid (xb + 1 ≤ V.heap.size) := HXV.out.lt
    have HXA := (show Hid (∀ o, ExM (V.drew.alloc o) xb vp vm vo (.slice at0 x.met.length ct) x) from fun o => HXV.out.below (Below.alloc (below_drewM (Below.refl V.heap.size V)) (Nat.le_refl _) o))
    have HBA := (show Hid (∀ o, Below w.heap.size w (V.drew.alloc o)) from fun o => (below_drewM HBV.out).alloc HBV.out.size o)
    go_wp2
    go_region_law (refine step_append_lies _ rfl (.tmp 15) (.tmp 17) 31 rfl (xb + 1) 24 i0 _ 3 40 Tryd.underlying31 hi hz0 hz1 hz2 rfl (by decide) (.slice at0 x.met.length ct) x.met.length (rfCs x.met) (by first | rfl | simp [Act.eval, Act.put]) (World.ownsRow.alloc (w := V.drew) HR5.out _) ⟨V.heap.size, 0, none⟩ 1 _ [strA t, strA d, .int .i64 v] (by first | rfl | simp [Act.eval, Act.put]) rfl (lit_cells V.drew [strA t, strA d, .int .i64 v] _) (by intro u hu; simp at hu; rcases hu with rfl | rfl | rfl <;> rfl) (by decide) (by unfold maxLen; omega) (by omega) (by have := HS5.out; simp; omega) (V.heap.size + 1) (by simp) ?_; intro g5 c5 u5 hown5 hgrow5 hat5 hlt5; have hne5 : (Value.slice at0 x.met.length ct).ownBlock ≠ some xb := nrow_neq HXV.out.met HXV.out.blk (by decide); have hb5 : u5.heap[xb]? = some (.cells #[vp, vm, vo, .slice at0 x.met.length ct, .int .i64 (x.takes : Int)] 59 (0, 0)) := (hgrow5.block xb (by have := HS5.out; simp; omega) (fun e => hne5 e.symm)).trans (HXA.out _).blk; have q50 := cell_blkN hb5 (i := 3) rfl; have q51 := free_blkN hb5 3; have HOw := (show Hid _ from hown5); have HGr := (show Hid _ from hgrow5); have HAt := (show Hid _ from hat5); have HBl := (show Hid _ from hb5); clear hown5 hgrow5 hat5 hb5 hne5)
    all_goals
      have hD := meet_done (r := ⟨t, d, v⟩) C hxb (HBA.out _) (HXA.out _) rfl HOw.out HGr.out (by rcases HAt.out with q | q; (· exact .inl q); (· exact .inr (by have := HBV.out.size; omega)))
      have HD := (show Hid _ from hD)
      clear hD HOw HGr HAt HBl HXA HBA HR5 HS5 a3 a4 b0 b1 b2 HKV
      (try simp only [Exit.then])
      go_wp2
      go_end0
      refine ⟨rfl, _, ?_, HD.out.2⟩
      rw [HMM.out]
      exact HD.out.1
  · have HMM : Hid (meetA x.met ⟨t, d, v⟩ = x.met) := by show _ = _; rw [HM.out]; rfl
    clear HM
    go_wp2
    go_end0
    refine ⟨rfl, .slice at0 x.met.length ct, ?_, FrN.of_below HBV.out (Nat.le_of_lt hxb)⟩
    rw [HMM.out]
    exact HXV.out
end Go.Proofs.YtkjicdldlnefeaaDoor
