/- Package inline: take; walked. -/
import Derived.Test.YtjdijlaoeoikhaaGreatDoorG35
set_option linter.unusedVariables false
namespace Go.Proofs.YtjdijlaoeoikhaaGreatDoor
open Go.RowKit

set_option maxHeartbeats 8000000 in
set_option maxRecDepth 20000 in
theorem itake_close {G : Nat → Obj → Prop} {B sb N M : Nat} {w : World} {vp vo : Value} {xs : List Value} {s : Sn} (h : SnR G B w sb vp vo xs s) (ho : s.Ok N M) (p : Pt) (hN : N + wtP p ≤ 4294967296) (hM : M ≤ 4294967296) (hpn : p.d.number ≤ M) (hcl : p.d.closes = true) (ka : Option Addr) (kn kc : Nat) {ys : List Value} (hrow : w.ownsRow 0 32 5 (.slice ka kn kc) p.kids.len ys) (hlow : ∀ g, (Value.slice ka kn kc).ownBlock = some g → g < B) (hkid : KidI w (· < B) p.kids ys) :
    Calls Tryz.prog 26 #[ptrB sb, .agg (iiCells p.i (.slice ka kn kc) ++ dlCells p.d).toArray] w fun e w' => e = .returned (.tuple #[]) ∧ (∃ vp' vo' xs', SnR G B w' sb vp' vo' xs' (s.take p)) ∧ Below B w w' := by
  have hS0 := h.guest p (.slice ka kn kc)
  have hBw : B ≤ w.heap.size := Nat.le_trans h.base (Nat.le_of_lt (blk.lt_of_block h.blk))
  have HG : Hid (∀ g o, G g o → g ≠ w.heap.size) := fun g o hg e => by have := blk.lt_of_block (h.gst g o hg).1; omega
  have HB0 : Hid (Below B w (w.alloc (.cells (iiCells p.i (.slice ka kn kc) ++ dlCells p.d).toArray 53))) := (Below.refl _ _).alloc hBw _
  have hwp : wtP p = p.i.text.length + 1 := rfl
  obtain ⟨i0, hi0, hz⟩ := Option.map_eq_some_iff.1 infoPt
  have hz0 := congrArg (·.1) hz
  have hz1 := congrArg (·.2.1) hz
  have hz2 := congrArg (·.2.2) hz
  simp only at hz0 hz1 hz2
  obtain ⟨j0, hj0, hy⟩ := Option.map_eq_some_iff.1 infoInt
  have hy0 := congrArg (·.1) hy
  have hy1 := congrArg (·.2.1) hy
  have hy2 := congrArg (·.2.2) hy
  simp only at hy0 hy1 hy2
  clear hz hy
  go_enter Tryz.func26, Tryz.ntmps26
  go_wp2
  go_loopw [] (fun wr => ∃ (f : Nat) (t : Str8) (s1 : Sn), t.length ≤ p.i.text.length ∧ Hid (∃ vp1 vo1 xs1, SnR (Gst G w.heap.size p (.slice ka kn kc) t) B wr sb vp1 vo1 xs1 s1) ∧ Hid (s1.Ok N M) ∧ Hid (Below B w wr) ∧ Hid (t.length < f) ∧ Hid (Sn.closeF (p.i.text.length + 1) s p = Sn.closeF f s1 (p.txt t))) (fun wr => tlen w.heap.size wr)
  case atStart => exact ⟨p.i.text.length + 1, p.i.text, s, Nat.le_refl _, ⟨_, _, _, hS0⟩, ho, HB0.out, Nat.lt_succ_self _, rfl⟩
  case round =>
    obtain ⟨f, t, s1, ht, HS, HO, HB, Hf, HE⟩ := hrel
    obtain ⟨vp1, vo1, xs1, hS⟩ := HS.out
    have hown := hS.own
    have x1 := blk.cell_blk hown (i := 1) rfl
    have x5 := blk.cell_blk hown (i := 5) rfl
    have x6 := blk.cell_blk hown (i := 6) rfl
    have x7 := blk.cell_blk hown (i := 7) rfl
    have x8 := blk.cell_blk hown (i := 8) rfl
    simp only [List.getElem_toArray, iiCells, dlCells, List.cons_append, List.nil_append, List.getElem_cons_zero, List.getElem_cons_succ] at x1 x5 x6 x7 x8
    replace x1 : wr.cell? ⟨w.heap.size, 1, none⟩ = some (strW t) := x1
    have HT1 := (show Hid (SnR _ _ _ _ _ _ _ _) from hS)
    have HTl := (show Hid _ from hS.tlen)
    clear hown hS HS
    rw [hcl] at x8
    cases hte : t with
    | nil =>
      subst hte
      have HE1 : Hid (Sn.closeF (p.i.text.length + 1) s p = (s1, p.txt [])) := by show _ = _; rw [HE.out]; exact Sn.closeF_stop (.inr rfl)
      have HNO : Hid (¬ ((p.txt []).d.opens = true ∧ (p.txt []).i.text ≠ [])) := fun q => q.2 rfl
      clear HE hcl
      cases hop : p.d.opens with
      | false =>
        rw [hop] at x7
        clear hop
        obtain ⟨a1, k1, hv1⟩ := row_len HT1.out.row
        obtain ⟨a2, k2, hv2⟩ := row_len HT1.out.ops
        subst hv1
        subst hv2
        have hlen := HO.out.len
        have HPK : Hid (wr.ownsRow 0 32 5 (.slice ka kn kc) p.kids.len ys ∧ KidI wr (fun _ => True) p.kids ys) := ⟨irow_keeps hrow (fun g hg => HB.out.block g (hlow g hg)), KidI.keeps (fun _ _ => trivial) (fun g _ hg => HB.out.block g hg) _ _ hkid⟩
        have HOw := (show Hid _ from HT1.out.own)
        have HTk : Hid (s.take p = ⟨s1.parts ++ [p.txt []], s1.openers⟩) := by show _ = _; rw [Sn.take_is HE1.out, if_neg HNO.out, List.append_nil]
        clear HE1
        (try simp only [Exit.then])
        go_wp2
        clear x1 x5 x6 x7 x8
        have a70 : wr.drew.cell? ⟨sb, 0, none⟩ = some (.slice a1 s1.parts.length k1) := blk.cell_blk (w := wr.drew) HT1.out.blk (i := 0) rfl
        have a71 : ∀ o, (wr.alloc o).drew.cell? ⟨sb, 0, none⟩ = some (.slice a1 s1.parts.length k1) := fun o => blk.cell_blk (w := (wr.alloc o).drew) (blk.blk_below (w := wr) HT1.out.blk (Below.drew ((Below.refl _ _).alloc (Nat.le_refl _) o))) (i := 0) rfl
        have b70 := blk.cell_blk (w := wr.drew) HOw.out (i := 0) rfl
        have b71 := blk.cell_blk (w := wr.drew) HOw.out (i := 1) rfl
        have b72 := blk.cell_blk (w := wr.drew) HOw.out (i := 2) rfl
        have b73 := blk.cell_blk (w := wr.drew) HOw.out (i := 3) rfl
        have b74 := blk.cell_blk (w := wr.drew) HOw.out (i := 4) rfl
        have b75 := blk.cell_blk (w := wr.drew) HOw.out (i := 5) rfl
        have b76 := blk.cell_blk (w := wr.drew) HOw.out (i := 6) rfl
        have b77 := blk.cell_blk (w := wr.drew) HOw.out (i := 7) rfl
        have b78 := blk.cell_blk (w := wr.drew) HOw.out (i := 8) rfl
        simp only [List.getElem_toArray, iiCells, dlCells, List.cons_append, List.nil_append, List.getElem_cons_zero, List.getElem_cons_succ] at b70 b71 b72 b73 b74 b75 b76 b77 b78
        have HR7 : Hid (wr.drew.ownsRow B 53 9 (.slice a1 s1.parts.length k1) (s1.parts.length) (xs1)) := by have := HT1.out.row; skip; exact this
        have HBW7 : Hid (B ≤ wr.heap.size) := Nat.le_trans HT1.out.base (Nat.le_of_lt (blk.lt_of_block HT1.out.blk))
        have HSW7 : Hid (SnR _ B (wr.drew.alloc (.cells (iiCells (p.txt []).i (.slice ka kn kc) ++ dlCells p.d).toArray 53)) sb _ _ _ _) := HT1.out.below (Below.alloc (Below.drew (Below.refl _ _)) (Nat.le_refl _) _)
        have HKW7 : Hid (World.ownsRow (wr.drew.alloc (.cells (iiCells (p.txt []).i (.slice ka kn kc) ++ dlCells p.d).toArray 53)) 0 32 5 _ _ _ ∧ KidI (wr.drew.alloc (.cells (iiCells (p.txt []).i (.slice ka kn kc) ++ dlCells p.d).toArray 53)) (fun _ => True) _ _) := ⟨irow_keepI HPK.out.1 (KeepI.of_below (Below.alloc (Below.drew (Below.refl wr.heap.size wr)) (Nat.le_refl _) (.cells (iiCells (p.txt []).i (.slice ka kn kc) ++ dlCells p.d).toArray 53))), KidI.stay (fun _ _ => trivial) (KeepI.of_below (Below.alloc (Below.drew (Below.refl wr.heap.size wr)) (Nat.le_refl _) (.cells (iiCells (p.txt []).i (.slice ka kn kc) ++ dlCells p.d).toArray 53))) _ _ HPK.out.2⟩
        go_region_law (refine step_app rfl (.tmp 60) (.tmp 62) 42 rfl B 53 i0 _ 9 104 Tryz.underlying42 hi0 hz0 hz1 hz2 rfl (by decide) (.slice a1 s1.parts.length k1) (s1.parts.length) (xs1) (by first | rfl | simp [Act.eval, Act.put]) (World.ownsRow.alloc (w := wr.drew) HR7.out _) (by have := HBW7.out; simp; omega) ⟨wr.heap.size, 0, none⟩ _ (iiCells (p.txt []).i (.slice ka kn kc) ++ dlCells p.d) (by first | rfl | simp [Act.eval, Act.put]) rfl (lit_cells wr.drew (iiCells (p.txt []).i (.slice ka kn kc) ++ dlCells p.d) _) (pt_one _ _ _ _ _) (by unfold maxLen; omega) (by omega) ?_; intro g7 c7 u7 hown7 hgrow7 hat7; have HP7 := (show Hid _ from SnR.pushed (p := p.txt []) HSW7.out (by have := HBW7.out; simp; omega) (by skip; exact hown7) hgrow7 (fun g hg => by cases hg; exact hat7) HKW7.out.1 HKW7.out.2); have hsw7 : u7.heap[sb]? = some (.cells #[.slice a1 s1.parts.length k1, .slice a2 s1.openers.length k2] 56 (0, 0)) := (hgrow7.block sb (blk.lt_of_block HSW7.out.blk) (row_neq HSW7.out.row HSW7.out.blk (by decide))).trans HSW7.out.blk; have q70 := blk.cell_blk hsw7 (i := 0) rfl; have q71 := blk.free_blk hsw7 0; clear hown7 hgrow7 hsw7 hat7)
        all_goals
          (try simp only [Exit.then])
          go_wp2
          go_end0
          exact ⟨rfl, ⟨_, _, _, by rw [HTk.out]; exact HP7.out.1.alone⟩, HB.out.trans (((Below.drew (Below.refl _ _)).alloc HBW7.out _).trans HP7.out.2.1)⟩
      | true =>
        rw [hop] at x7
        clear hop
        obtain ⟨a1, k1, hv1⟩ := row_len HT1.out.row
        obtain ⟨a2, k2, hv2⟩ := row_len HT1.out.ops
        subst hv1
        subst hv2
        have hlen := HO.out.len
        have HPK : Hid (wr.ownsRow 0 32 5 (.slice ka kn kc) p.kids.len ys ∧ KidI wr (fun _ => True) p.kids ys) := ⟨irow_keeps hrow (fun g hg => HB.out.block g (hlow g hg)), KidI.keeps (fun _ _ => trivial) (fun g _ hg => HB.out.block g hg) _ _ hkid⟩
        have HOw := (show Hid _ from HT1.out.own)
        have HTk : Hid (s.take p = ⟨s1.parts ++ [p.txt []], s1.openers⟩) := by show _ = _; rw [Sn.take_is HE1.out, if_neg HNO.out, List.append_nil]
        clear HE1
        (try simp only [Exit.then])
        go_wp2
        clear x1 x5 x6 x7 x8
        have a70 : wr.drew.cell? ⟨sb, 0, none⟩ = some (.slice a1 s1.parts.length k1) := blk.cell_blk (w := wr.drew) HT1.out.blk (i := 0) rfl
        have a71 : ∀ o, (wr.alloc o).drew.cell? ⟨sb, 0, none⟩ = some (.slice a1 s1.parts.length k1) := fun o => blk.cell_blk (w := (wr.alloc o).drew) (blk.blk_below (w := wr) HT1.out.blk (Below.drew ((Below.refl _ _).alloc (Nat.le_refl _) o))) (i := 0) rfl
        have b70 := blk.cell_blk (w := wr.drew) HOw.out (i := 0) rfl
        have b71 := blk.cell_blk (w := wr.drew) HOw.out (i := 1) rfl
        have b72 := blk.cell_blk (w := wr.drew) HOw.out (i := 2) rfl
        have b73 := blk.cell_blk (w := wr.drew) HOw.out (i := 3) rfl
        have b74 := blk.cell_blk (w := wr.drew) HOw.out (i := 4) rfl
        have b75 := blk.cell_blk (w := wr.drew) HOw.out (i := 5) rfl
        have b76 := blk.cell_blk (w := wr.drew) HOw.out (i := 6) rfl
        have b77 := blk.cell_blk (w := wr.drew) HOw.out (i := 7) rfl
        have b78 := blk.cell_blk (w := wr.drew) HOw.out (i := 8) rfl
        simp only [List.getElem_toArray, iiCells, dlCells, List.cons_append, List.nil_append, List.getElem_cons_zero, List.getElem_cons_succ] at b70 b71 b72 b73 b74 b75 b76 b77 b78
        have HR7 : Hid (wr.drew.ownsRow B 53 9 (.slice a1 s1.parts.length k1) (s1.parts.length) (xs1)) := by have := HT1.out.row; skip; exact this
        have HBW7 : Hid (B ≤ wr.heap.size) := Nat.le_trans HT1.out.base (Nat.le_of_lt (blk.lt_of_block HT1.out.blk))
        have HSW7 : Hid (SnR _ B (wr.drew.alloc (.cells (iiCells (p.txt []).i (.slice ka kn kc) ++ dlCells p.d).toArray 53)) sb _ _ _ _) := HT1.out.below (Below.alloc (Below.drew (Below.refl _ _)) (Nat.le_refl _) _)
        have HKW7 : Hid (World.ownsRow (wr.drew.alloc (.cells (iiCells (p.txt []).i (.slice ka kn kc) ++ dlCells p.d).toArray 53)) 0 32 5 _ _ _ ∧ KidI (wr.drew.alloc (.cells (iiCells (p.txt []).i (.slice ka kn kc) ++ dlCells p.d).toArray 53)) (fun _ => True) _ _) := ⟨irow_keepI HPK.out.1 (KeepI.of_below (Below.alloc (Below.drew (Below.refl wr.heap.size wr)) (Nat.le_refl _) (.cells (iiCells (p.txt []).i (.slice ka kn kc) ++ dlCells p.d).toArray 53))), KidI.stay (fun _ _ => trivial) (KeepI.of_below (Below.alloc (Below.drew (Below.refl wr.heap.size wr)) (Nat.le_refl _) (.cells (iiCells (p.txt []).i (.slice ka kn kc) ++ dlCells p.d).toArray 53))) _ _ HPK.out.2⟩
        go_region_law (refine step_app rfl (.tmp 60) (.tmp 62) 42 rfl B 53 i0 _ 9 104 Tryz.underlying42 hi0 hz0 hz1 hz2 rfl (by decide) (.slice a1 s1.parts.length k1) (s1.parts.length) (xs1) (by first | rfl | simp [Act.eval, Act.put]) (World.ownsRow.alloc (w := wr.drew) HR7.out _) (by have := HBW7.out; simp; omega) ⟨wr.heap.size, 0, none⟩ _ (iiCells (p.txt []).i (.slice ka kn kc) ++ dlCells p.d) (by first | rfl | simp [Act.eval, Act.put]) rfl (lit_cells wr.drew (iiCells (p.txt []).i (.slice ka kn kc) ++ dlCells p.d) _) (pt_one _ _ _ _ _) (by unfold maxLen; omega) (by omega) ?_; intro g7 c7 u7 hown7 hgrow7 hat7; have HP7 := (show Hid _ from SnR.pushed (p := p.txt []) HSW7.out (by have := HBW7.out; simp; omega) (by skip; exact hown7) hgrow7 (fun g hg => by cases hg; exact hat7) HKW7.out.1 HKW7.out.2); have hsw7 : u7.heap[sb]? = some (.cells #[.slice a1 s1.parts.length k1, .slice a2 s1.openers.length k2] 56 (0, 0)) := (hgrow7.block sb (blk.lt_of_block HSW7.out.blk) (row_neq HSW7.out.row HSW7.out.blk (by decide))).trans HSW7.out.blk; have q70 := blk.cell_blk hsw7 (i := 0) rfl; have q71 := blk.free_blk hsw7 0; clear hown7 hgrow7 hsw7 hat7)
        all_goals
          (try simp only [Exit.then])
          go_wp2
          go_end0
          exact ⟨rfl, ⟨_, _, _, by rw [HTk.out]; exact HP7.out.1.alone⟩, HB.out.trans (((Below.drew (Below.refl _ _)).alloc HBW7.out _).trans HP7.out.2.1)⟩
    | cons c0 t0 =>
      have htne : t ≠ [] := by rw [hte]; exact List.cons_ne_nil _ _
      have hne : t.isEmpty = false := by rw [hte]; rfl
      clear hte
      have hlen0 := HO.out.len
      have HBW0 : Hid (B ≤ wr.heap.size) := Nat.le_trans HT1.out.base (Nat.le_of_lt (blk.lt_of_block HT1.out.blk))
      have hoa := iopen_any s1 p.d (by omega) sb wr (HT1.out.look HO.out (by omega) (by omega))
      cases hF : s1.openerF p.d s1.openers.length with
      | none =>
        have HOp : Hid (Calls Tryz.prog 40 #[ptrB sb, .agg #[.int .u8 (p.d.sign.toNat : Int), .int .i64 (p.d.number : Int), .bool p.d.opens, .bool true]] wr fun e w' => e = .returned (.int .i64 (-1)) ∧ Below wr.heap.size wr w') := by
          rw [hF] at hoa
          unfold dlCells at hoa
          rw [hcl] at hoa
          exact hoa
        have HQ := (show Hid _ from hF)
        clear hF hoa hcl
        have HE1 : Hid (Sn.closeF (p.i.text.length + 1) s p = (s1, p.txt t)) := by show _ = _; rw [HE.out]; exact Sn.closeF_none HQ.out
        clear HE HQ
        cases hop : p.d.opens with
        | false =>
          have HNO : Hid (¬ ((p.txt t).d.opens = true ∧ (p.txt t).i.text ≠ [])) := fun q => by have q1 : p.d.opens = true := q.1; rw [hop] at q1; cases q1
          have hop2 := (show Hid _ from hop)
          clear hop
          go_wp2_with (go_at_call 40; refine Calls.mono HOp.out ?_; rintro e u ⟨rfl, hb⟩; have hSu := HT1.out.below hb; have HBu : Hid (Below B w u) := HB.out.trans (hb.mono HBW0.out); have y1 : u.cell? ⟨w.heap.size, 1, none⟩ = some (strW t) := blk.cell_blk hSu.own (i := 1) rfl; have y5 := blk.cell_blk hSu.own (i := 5) rfl; have y6 := blk.cell_blk hSu.own (i := 6) rfl; have y7 : u.cell? ⟨w.heap.size, 7, none⟩ = some (.bool p.d.opens) := blk.cell_blk hSu.own (i := 7) rfl; have y8 := blk.cell_blk hSu.own (i := 8) rfl; have HTu := (show Hid (SnR _ _ _ _ _ _ _ _) from hSu); clear hSu hb x1 x5 x6 x7 x8; rw [hop2.out] at y7)
          obtain ⟨a1, k1, hv1⟩ := row_len HTu.out.row
          obtain ⟨a2, k2, hv2⟩ := row_len HTu.out.ops
          subst hv1
          subst hv2
          have hlen := HO.out.len
          have HPK : Hid (u.ownsRow 0 32 5 (.slice ka kn kc) p.kids.len ys ∧ KidI u (fun _ => True) p.kids ys) := ⟨irow_keeps hrow (fun g hg => HBu.out.block g (hlow g hg)), KidI.keeps (fun _ _ => trivial) (fun g _ hg => HBu.out.block g hg) _ _ hkid⟩
          have HOw := (show Hid _ from HTu.out.own)
          have HTk : Hid (s.take p = ⟨s1.parts ++ [p.txt t], s1.openers⟩) := by show _ = _; rw [Sn.take_is HE1.out, if_neg HNO.out, List.append_nil]
          clear HE1
          clear y1 y5 y6 y7 y8
          have a70 : u.drew.cell? ⟨sb, 0, none⟩ = some (.slice a1 s1.parts.length k1) := blk.cell_blk (w := u.drew) HTu.out.blk (i := 0) rfl
          have a71 : ∀ o, (u.alloc o).drew.cell? ⟨sb, 0, none⟩ = some (.slice a1 s1.parts.length k1) := fun o => blk.cell_blk (w := (u.alloc o).drew) (blk.blk_below (w := u) HTu.out.blk (Below.drew ((Below.refl _ _).alloc (Nat.le_refl _) o))) (i := 0) rfl
          have b70 := blk.cell_blk (w := u.drew) HOw.out (i := 0) rfl
          have b71 := blk.cell_blk (w := u.drew) HOw.out (i := 1) rfl
          have b72 := blk.cell_blk (w := u.drew) HOw.out (i := 2) rfl
          have b73 := blk.cell_blk (w := u.drew) HOw.out (i := 3) rfl
          have b74 := blk.cell_blk (w := u.drew) HOw.out (i := 4) rfl
          have b75 := blk.cell_blk (w := u.drew) HOw.out (i := 5) rfl
          have b76 := blk.cell_blk (w := u.drew) HOw.out (i := 6) rfl
          have b77 := blk.cell_blk (w := u.drew) HOw.out (i := 7) rfl
          have b78 := blk.cell_blk (w := u.drew) HOw.out (i := 8) rfl
          simp only [List.getElem_toArray, iiCells, dlCells, List.cons_append, List.nil_append, List.getElem_cons_zero, List.getElem_cons_succ] at b70 b71 b72 b73 b74 b75 b76 b77 b78
          have HR7 : Hid (u.drew.ownsRow B 53 9 (.slice a1 s1.parts.length k1) (s1.parts.length) (xs1)) := by have := HTu.out.row; skip; exact this
          have HBW7 : Hid (B ≤ u.heap.size) := Nat.le_trans HTu.out.base (Nat.le_of_lt (blk.lt_of_block HTu.out.blk))
          have HSW7 : Hid (SnR _ B (u.drew.alloc (.cells (iiCells (p.txt t).i (.slice ka kn kc) ++ dlCells p.d).toArray 53)) sb _ _ _ _) := HTu.out.below (Below.alloc (Below.drew (Below.refl _ _)) (Nat.le_refl _) _)
          have HKW7 : Hid (World.ownsRow (u.drew.alloc (.cells (iiCells (p.txt t).i (.slice ka kn kc) ++ dlCells p.d).toArray 53)) 0 32 5 _ _ _ ∧ KidI (u.drew.alloc (.cells (iiCells (p.txt t).i (.slice ka kn kc) ++ dlCells p.d).toArray 53)) (fun _ => True) _ _) := ⟨irow_keepI HPK.out.1 (KeepI.of_below (Below.alloc (Below.drew (Below.refl u.heap.size u)) (Nat.le_refl _) (.cells (iiCells (p.txt t).i (.slice ka kn kc) ++ dlCells p.d).toArray 53))), KidI.stay (fun _ _ => trivial) (KeepI.of_below (Below.alloc (Below.drew (Below.refl u.heap.size u)) (Nat.le_refl _) (.cells (iiCells (p.txt t).i (.slice ka kn kc) ++ dlCells p.d).toArray 53))) _ _ HPK.out.2⟩
          go_region_law (refine step_app rfl (.tmp 60) (.tmp 62) 42 rfl B 53 i0 _ 9 104 Tryz.underlying42 hi0 hz0 hz1 hz2 rfl (by decide) (.slice a1 s1.parts.length k1) (s1.parts.length) (xs1) (by first | rfl | simp [Act.eval, Act.put]) (World.ownsRow.alloc (w := u.drew) HR7.out _) (by have := HBW7.out; simp; omega) ⟨u.heap.size, 0, none⟩ _ (iiCells (p.txt t).i (.slice ka kn kc) ++ dlCells p.d) (by first | rfl | simp [Act.eval, Act.put]) rfl (lit_cells u.drew (iiCells (p.txt t).i (.slice ka kn kc) ++ dlCells p.d) _) (pt_one _ _ _ _ _) (by unfold maxLen; omega) (by omega) ?_; intro g7 c7 u7 hown7 hgrow7 hat7; have HP7 := (show Hid _ from SnR.pushed (p := p.txt t) HSW7.out (by have := HBW7.out; simp; omega) (by skip; exact hown7) hgrow7 (fun g hg => by cases hg; exact hat7) HKW7.out.1 HKW7.out.2); have hsw7 : u7.heap[sb]? = some (.cells #[.slice a1 s1.parts.length k1, .slice a2 s1.openers.length k2] 56 (0, 0)) := (hgrow7.block sb (blk.lt_of_block HSW7.out.blk) (row_neq HSW7.out.row HSW7.out.blk (by decide))).trans HSW7.out.blk; have q70 := blk.cell_blk hsw7 (i := 0) rfl; have q71 := blk.free_blk hsw7 0; clear hown7 hgrow7 hsw7 hat7)
          all_goals
            (try simp only [Exit.then])
            go_wp2
            go_end0
            exact ⟨rfl, ⟨_, _, _, by rw [HTk.out]; exact HP7.out.1.alone⟩, HBu.out.trans (((Below.drew (Below.refl _ _)).alloc HBW7.out _).trans HP7.out.2.1)⟩
        | true =>
          have HYES : Hid ((p.txt t).d.opens = true ∧ (p.txt t).i.text ≠ []) := ⟨hop, htne⟩
          have hop2 := (show Hid _ from hop)
          clear hop htne
          go_wp2_with (go_at_call 40; refine Calls.mono HOp.out ?_; rintro e u ⟨rfl, hb⟩; have hSu := HT1.out.below hb; have HBu : Hid (Below B w u) := HB.out.trans (hb.mono HBW0.out); have y1 : u.cell? ⟨w.heap.size, 1, none⟩ = some (strW t) := blk.cell_blk hSu.own (i := 1) rfl; have y5 := blk.cell_blk hSu.own (i := 5) rfl; have y6 := blk.cell_blk hSu.own (i := 6) rfl; have y7 : u.cell? ⟨w.heap.size, 7, none⟩ = some (.bool p.d.opens) := blk.cell_blk hSu.own (i := 7) rfl; have y8 := blk.cell_blk hSu.own (i := 8) rfl; have HTu := (show Hid (SnR _ _ _ _ _ _ _ _) from hSu); clear hSu hb x1 x5 x6 x7 x8; rw [hop2.out] at y7)
          obtain ⟨a1, k1, hv1⟩ := row_len HTu.out.row
          obtain ⟨a2, k2, hv2⟩ := row_len HTu.out.ops
          subst hv1
          subst hv2
          have hlen := HO.out.len
          have HPK : Hid (u.ownsRow 0 32 5 (.slice ka kn kc) p.kids.len ys ∧ KidI u (fun _ => True) p.kids ys) := ⟨irow_keeps hrow (fun g hg => HBu.out.block g (hlow g hg)), KidI.keeps (fun _ _ => trivial) (fun g _ hg => HBu.out.block g hg) _ _ hkid⟩
          have HOw := (show Hid _ from HTu.out.own)
          have HTk : Hid (s.take p = ⟨s1.parts ++ [p.txt t], s1.openers ++ [s1.parts.length]⟩) := by show _ = _; rw [Sn.take_is HE1.out, if_pos HYES.out]
          clear HE1
          have a0 : u.drew.cell? ⟨sb, 0, none⟩ = some (.slice a1 s1.parts.length k1) := blk.cell_blk (w := u.drew) HTu.out.blk (i := 0) rfl
          have a0' : u.drew.cell? ⟨sb, 1, none⟩ = some (.slice a2 s1.openers.length k2) := blk.cell_blk (w := u.drew) HTu.out.blk (i := 1) rfl
          have a1' : ∀ o, (u.alloc o).drew.cell? ⟨sb, 1, none⟩ = some (.slice a2 s1.openers.length k2) := fun o => blk.cell_blk (w := (u.alloc o).drew) (blk.blk_below (w := u) HTu.out.blk (Below.drew ((Below.refl _ _).alloc (Nat.le_refl _) o))) (i := 1) rfl
          have HBW : Hid (B ≤ u.heap.size) := Nat.le_trans HTu.out.base (Nat.le_of_lt (blk.lt_of_block HTu.out.blk))
          have HSW : Hid (SnR _ B (u.drew.alloc (.cells #[.int .i64 (s1.parts.length : Int)] 3)) sb _ _ _ _) := HTu.out.below (Below.alloc (Below.drew (Below.refl _ _)) (Nat.le_refl _) _)
          have HRo : Hid (u.drew.ownsRow B 3 1 (.slice a2 s1.openers.length k2) s1.openers.length (opCells s1.openers)) := HTu.out.ops
          clear y1 y5 y6 y7 y8
          go_region_law (refine step_app rfl (.tmp 46) (.tmp 52) 54 rfl B 3 j0 _ 1 8 Tryz.underlying54 hj0 hy0 hy1 hy2 rfl (by decide) (.slice a2 s1.openers.length k2) s1.openers.length (opCells s1.openers) (by first | rfl | simp [Act.eval, Act.put]) (World.ownsRow.alloc (w := u.drew) HRo.out _) (by have := HBW.out; simp; omega) ⟨u.heap.size, 0, none⟩ _ [.int .i64 (s1.parts.length : Int)] (by first | rfl | simp [Act.eval, Act.put]) rfl (lit_cells u.drew [.int .i64 (s1.parts.length : Int)] _) (by intro u hu; simp only [List.mem_cons, List.not_mem_nil, or_false] at hu; rcases hu with rfl; rfl) (by unfold maxLen; omega) (by omega) ?_; intro g8 c8 u8 hown8 hgrow8 hat8; have HP8 := (show Hid _ from SnR.opened HSW.out (by have := HBW.out; simp; omega) hown8 hgrow8 (fun g hg => by cases hg; exact hat8)); have hsw8 : u8.heap[sb]? = some (.cells #[.slice a1 s1.parts.length k1, .slice a2 s1.openers.length k2] 56 (0, 0)) := (hgrow8.block sb (blk.lt_of_block HSW.out.blk) (row_neq HSW.out.ops HSW.out.blk (by decide))).trans HSW.out.blk; have q80 := blk.cell_blk hsw8 (i := 1) rfl; have q81 := blk.free_blk hsw8 1; clear hown8 hgrow8 hsw8 hat8)
          all_goals
            have HS9 := (show Hid _ from HP8.out.1)
            have hK9 := (KeepI.of_below (Below.alloc (Below.drew (Below.refl u.heap.size u)) (Nat.le_refl _) (.cells #[.int .i64 (s1.parts.length : Int)] 3))).trans HP8.out.2.2
            have HPK9 := (show Hid (World.ownsRow _ 0 32 5 (.slice ka kn kc) p.kids.len ys ∧ KidI _ (fun _ => True) p.kids ys) from ⟨irow_keepI HPK.out.1 hK9, KidI.stay (fun _ _ => trivial) hK9 _ _ HPK.out.2⟩)
            have HB9 := (show Hid (Below B w _) from HBu.out.trans (((Below.drew (Below.refl _ _)).alloc HBW.out _).trans HP8.out.2.1))
            have HOw9 := (show Hid _ from HS9.out.own)
            clear HP8 hK9 a0 a0' a1' HRo HSW q80 q81 HPK HOw HTu HBu
            (try simp only [Exit.then])
            go_wp2
            generalize u8.setCell ⟨sb, 1, none⟩ (.slice (some ⟨g8, 0, none⟩) (s1.openers.length + 1) c8) = W9 at *
            have a70 : W9.drew.cell? ⟨sb, 0, none⟩ = some (.slice a1 s1.parts.length k1) := blk.cell_blk (w := W9.drew) HS9.out.blk (i := 0) rfl
            have a71 : ∀ o, (W9.alloc o).drew.cell? ⟨sb, 0, none⟩ = some (.slice a1 s1.parts.length k1) := fun o => blk.cell_blk (w := (W9.alloc o).drew) (blk.blk_below (w := W9) HS9.out.blk (Below.drew ((Below.refl _ _).alloc (Nat.le_refl _) o))) (i := 0) rfl
            have b70 := blk.cell_blk (w := W9.drew) HOw9.out (i := 0) rfl
            have b71 := blk.cell_blk (w := W9.drew) HOw9.out (i := 1) rfl
            have b72 := blk.cell_blk (w := W9.drew) HOw9.out (i := 2) rfl
            have b73 := blk.cell_blk (w := W9.drew) HOw9.out (i := 3) rfl
            have b74 := blk.cell_blk (w := W9.drew) HOw9.out (i := 4) rfl
            have b75 := blk.cell_blk (w := W9.drew) HOw9.out (i := 5) rfl
            have b76 := blk.cell_blk (w := W9.drew) HOw9.out (i := 6) rfl
            have b77 := blk.cell_blk (w := W9.drew) HOw9.out (i := 7) rfl
            have b78 := blk.cell_blk (w := W9.drew) HOw9.out (i := 8) rfl
            simp only [List.getElem_toArray, iiCells, dlCells, List.cons_append, List.nil_append, List.getElem_cons_zero, List.getElem_cons_succ] at b70 b71 b72 b73 b74 b75 b76 b77 b78
            have HR7 : Hid (W9.drew.ownsRow B 53 9 (.slice a1 s1.parts.length k1) (s1.parts.length) (xs1)) := by have := HS9.out.row; skip; exact this
            have HBW7 : Hid (B ≤ W9.heap.size) := Nat.le_trans HS9.out.base (Nat.le_of_lt (blk.lt_of_block HS9.out.blk))
            have HSW7 : Hid (SnR _ B (W9.drew.alloc (.cells (iiCells (p.txt t).i (.slice ka kn kc) ++ dlCells p.d).toArray 53)) sb _ _ _ _) := HS9.out.below (Below.alloc (Below.drew (Below.refl _ _)) (Nat.le_refl _) _)
            have HKW7 : Hid (World.ownsRow (W9.drew.alloc (.cells (iiCells (p.txt t).i (.slice ka kn kc) ++ dlCells p.d).toArray 53)) 0 32 5 _ _ _ ∧ KidI (W9.drew.alloc (.cells (iiCells (p.txt t).i (.slice ka kn kc) ++ dlCells p.d).toArray 53)) (fun _ => True) _ _) := ⟨irow_keepI HPK9.out.1 (KeepI.of_below (Below.alloc (Below.drew (Below.refl W9.heap.size W9)) (Nat.le_refl _) (.cells (iiCells (p.txt t).i (.slice ka kn kc) ++ dlCells p.d).toArray 53))), KidI.stay (fun _ _ => trivial) (KeepI.of_below (Below.alloc (Below.drew (Below.refl W9.heap.size W9)) (Nat.le_refl _) (.cells (iiCells (p.txt t).i (.slice ka kn kc) ++ dlCells p.d).toArray 53))) _ _ HPK9.out.2⟩
            go_region_law (refine step_app rfl (.tmp 60) (.tmp 62) 42 rfl B 53 i0 _ 9 104 Tryz.underlying42 hi0 hz0 hz1 hz2 rfl (by decide) (.slice a1 s1.parts.length k1) (s1.parts.length) (xs1) (by first | rfl | simp [Act.eval, Act.put]) (World.ownsRow.alloc (w := W9.drew) HR7.out _) (by have := HBW7.out; simp; omega) ⟨W9.heap.size, 0, none⟩ _ (iiCells (p.txt t).i (.slice ka kn kc) ++ dlCells p.d) (by first | rfl | simp [Act.eval, Act.put]) rfl (lit_cells W9.drew (iiCells (p.txt t).i (.slice ka kn kc) ++ dlCells p.d) _) (pt_one _ _ _ _ _) (by unfold maxLen; omega) (by omega) ?_; intro g7 c7 u7 hown7 hgrow7 hat7; have HP7 := (show Hid _ from SnR.pushed (p := p.txt t) HSW7.out (by have := HBW7.out; simp; omega) (by skip; exact hown7) hgrow7 (fun g hg => by cases hg; exact hat7) HKW7.out.1 HKW7.out.2); have hsw7 : u7.heap[sb]? = some (.cells #[.slice a1 s1.parts.length k1, .slice (some ⟨g8, 0, none⟩) (s1.openers.length + 1) c8] 56 (0, 0)) := (hgrow7.block sb (blk.lt_of_block HSW7.out.blk) (row_neq HSW7.out.row HSW7.out.blk (by decide))).trans HSW7.out.blk; have q70 := blk.cell_blk hsw7 (i := 0) rfl; have q71 := blk.free_blk hsw7 0; clear hown7 hgrow7 hsw7 hat7)
            all_goals
              (try simp only [Exit.then])
              go_wp2
              go_end0
              exact ⟨rfl, ⟨_, _, _, by rw [HTk.out]; exact HP7.out.1.alone⟩, HB9.out.trans (((Below.drew (Below.refl _ _)).alloc HBW7.out _).trans HP7.out.2.1)⟩
      | some i =>
        have HOp : Hid (Calls Tryz.prog 40 #[ptrB sb, .agg #[.int .u8 (p.d.sign.toNat : Int), .int .i64 (p.d.number : Int), .bool p.d.opens, .bool true]] wr fun e w' => e = .returned (.int .i64 (i : Int)) ∧ Below wr.heap.size wr w') := by
          rw [hF] at hoa
          unfold dlCells at hoa
          rw [hcl] at hoa
          exact hoa
        have HQ := (show Hid _ from hF)
        clear hoa
        obtain ⟨hil, k, q, hk, hq⟩ : i < s1.openers.length ∧ ∃ k q, s1.openers[i]? = some k ∧ s1.parts[k]? = some q := by
          have hil := Sn.openerF_lt s1 p.d _ i hF
          have hk : s1.openers[i]? = some s1.openers[i] := List.getElem?_eq_getElem hil
          obtain ⟨q, hq, _⟩ := HO.out.ops _ (List.mem_of_getElem? hk)
          exact ⟨hil, _, _, hk, hq⟩
        have htl : 1 ≤ t.length := List.length_pos_iff.2 htne
        have hul := Sn.used_le HO.out hk hq htl
        have hu1 := (s1.used_one i t.length).1
        obtain ⟨t', Ht'⟩ : ∃ t', Hid (t' = t.drop (s1.used i t.length)) := ⟨_, rfl⟩
        have o1 : ∀ w', (Instr.slice 9 (.string ⟨t.toArray⟩) (some (.int .i64 (s1.used i t.length : Int))) none none).run Tryz.prog w' = .ok (.string ⟨t'.toArray⟩) w' := fun w' => by rw [Ht'.out]; exact from_is t _ hul.2 (by omega) w'
        have HOn : Hid ((s1.close i t.length).Ok N M) := HO.out.close hk hq htl
        have HEn : Hid (∃ f', t'.length < f' ∧ Sn.closeF (p.i.text.length + 1) s p = Sn.closeF f' (s1.close i t.length) (p.txt t')) := by
          have hf := Hf.out
          obtain ⟨f', rfl⟩ : ∃ f', f = f' + 1 := ⟨f - 1, by omega⟩
          refine ⟨f', ?_, ?_⟩
          · rw [Ht'.out, List.length_drop]; omega
          · rw [HE.out, Sn.closeF_some (p := p.txt t) hcl htne hF, Ht'.out]; rfl
        have htl' : t'.length < t.length := by rw [Ht'.out, List.length_drop]; omega
        have HCl : Hid (∀ u : World, SnR (Gst G w.heap.size p (.slice ka kn kc) t) B u sb vp1 vo1 xs1 s1 → Calls Tryz.prog 41 #[ptrB sb, .int .i64 (i : Int), .int .i64 (t.length : Int)] u fun e w' => e = .returned (.int .i64 (s1.used i t.length : Int)) ∧ (∃ vp' vo' xs', SnR (Gst G w.heap.size p (.slice ka kn kc) t) B w' sb vp' vo' xs' (s1.close i t.length)) ∧ Below B u w') := fun u hu => iclose_any hu HO.out (by omega) hk hq htl (by omega)
        have hi0' : ¬ ((i : Int) < 0) := by omega
        clear HE HQ Hf hk hq hF hcl htne
        generalize s1.used i t.length = us at *
        go_wp2_with (go_at_call 40; refine Calls.mono HOp.out ?_; rintro e u ⟨rfl, hb⟩; have hSu := HT1.out.below hb; have HBu : Hid (Below B w u) := HB.out.trans (hb.mono HBW0.out); have y1 : u.cell? ⟨w.heap.size, 1, none⟩ = some (strW t) := blk.cell_blk hSu.own (i := 1) rfl; have y5 := blk.cell_blk hSu.own (i := 5) rfl; have y6 := blk.cell_blk hSu.own (i := 6) rfl; have y7 : u.cell? ⟨w.heap.size, 7, none⟩ = some (.bool p.d.opens) := blk.cell_blk hSu.own (i := 7) rfl; have y8 := blk.cell_blk hSu.own (i := 8) rfl; have HTu := (show Hid (SnR _ _ _ _ _ _ _ _) from hSu); clear hSu hb x1 x5 x6 x7 x8)
        have z1 : u.drew.cell? ⟨w.heap.size, 1, none⟩ = some (strW t) := y1
        go_region_with (go_at_call 41; refine Calls.mono (HCl.out _ (HTu.out.below (Below.drew (Below.refl _ _)))) ?_; rintro e u2 ⟨rfl, ⟨vp2, vo2, xs2, hS2⟩, hb2⟩; have r1 : u2.cell? ⟨w.heap.size, 1, none⟩ = some (strW t) := blk.cell_blk hS2.own (i := 1) rfl; have r2 := blk.free_blk hS2.own 1; have HS2 := (show Hid (SnR _ _ _ _ _ _ _ _) from hS2); have HB2 : Hid (Below B w u2) := HBu.out.trans (Below.trans (Below.drew (Below.refl _ _)) hb2); clear hS2 hb2)
        all_goals
          have HS3 := (show Hid (SnR _ _ _ _ _ _ _ _) from HS2.out.write HG.out t')
          have HB3 : Hid (Below B w (u2.setCell ⟨w.heap.size, 1, none⟩ (strW t'))) := blk.below_set HB2.out hBw
          obtain ⟨f', hf', hE'⟩ := HEn.out
          have HE' := (show Hid _ from hE')
          clear hE' r1 r2 y1 y5 y6 y7 y8 z1
          (try simp only [Exit.then])
          go_wp2
          go_roundw
          case rel => exact ⟨f', t', _, by omega, ⟨_, _, _, HS3.out⟩, HOn, HB3, hf', HE'⟩
          case measure =>
            have e1 := HTl.out
            have e2 := HS3.out.tlen
            rw [e1]
            show tlen _ _ < _
            rw [e2]
            exact htl'

end Go.Proofs.YtjdijlaoeoikhaaGreatDoor
