/- Package inline: readOpener; walked. -/
import Derived.Test.YtjdijlaoeoikhaaGreatDoorG45
set_option linter.unusedVariables false
namespace Go.Proofs.YtjdijlaoeoikhaaGreatDoor
open Go.RowKit

set_option maxHeartbeats 8000000 in
set_option maxRecDepth 20000 in
theorem ibang_yes {G : Nat → Obj → Prop} {B m n rb : Nat} {l : Str8} {look : Str8 → Option Df8} {w : World} {vp vo : Value} {xs : List Value} {r : Rd} (h : RdR G B l m n look w rb vp vo xs r) (ho : r.Ok l) (hl : l.length ≤ 1073741824) (df : List Df8) {T : Str8} (hd : l.drop r.at0 = 33 :: T) (hT1 : T.head? = some 91) :
    Calls Tryz.prog 24 #[ptrB rb] w fun e w' => LeftR G B l m n look w rb (r.step l df) e w' := by
  have hBw : B ≤ w.heap.size := Nat.le_trans h.base (Nat.le_of_lt (blk.lt_of_block h.blk))
  have HR : Hid (∀ u : BwI w, RdR G B l m n look u.wo rb vp vo xs r) := fun u => h.below u.is
  have HBu : Hid (∀ u : BwI w, Below B w u.wo) := fun u => u.is.mono hBw
  have c0 := fun u : BwI w => (HR.out u).c.1
  have c1 := fun u : BwI w => (HR.out u).c.2.1
  have hbs := h.base
  have hli : (l.length : Int) ≤ 1073741824 := by omega
  rw [bang_step l r df hd]
  rw [if_pos hT1]
  obtain ⟨hT, hat, hlen⟩ := drop_next hd
  have hT2 : 1 ≤ T.length := by
    cases T with
    | nil => cases hT1
    | cons a t => show 1 ≤ t.length + 1; omega
  have o1 := from_is l r.at0 (by omega) (by omega)
  rw [hd] at o1
  have hix : l[r.at0]'hat = 33 := by
    have := List.getElem_cons_drop hat
    rw [hd] at this
    exact (List.cons.inj this).1
  have hsz : r.at0 < (ByteArray.mk l.toArray).size := by rw [size_list]; exact hat
  have hby : (ByteArray.mk l.toArray)[r.at0]'hsz = 33 := by rw [byte_at, list_data, List.getD_eq_getElem?_getD, List.getElem?_eq_getElem hat, hix]; rfl
  have hszi : (r.at0 : Int) < ((ByteArray.mk l.toArray).size : Int) := by rw [size_list]; omega
  have HH : Hid (∀ u : BwI w, Calls Tryz.prog 28 #[.string ⟨(33 :: T : Str8).toArray⟩, .string ⟨#[33, 91]⟩] u.wo fun e w' => e = .returned (.bool true) ∧ ∃ u' : BwI w, w' = u'.wo) := fun u => by have q := has_two T u.wo; rw [hT1] at q; exact q.mono fun e w' q => ⟨q.1, u, q.2⟩
  have HA : Hid (∀ u : BwI w, Calls Tryz.prog 37 #[ptrB rb, .string ⟨#[33, 91]⟩, .int .i64 2] u.wo fun e w' => e = .returned (.tuple #[]) ∧ (∃ vp' xs', RdR G B l m n look w' rb vp' vo xs' (r.add l { i := { text := [33, 91] } } 2)) ∧ Below B u.wo w') := fun u => iaddt_any (HR.out u) ho hl [33, 91] 2 (by omega)
  have hoa : (r.add l { i := { text := [33, 91] } } 2).Ok l := ho.add (by omega) (by omega) (Nat.le_refl _) (Nat.zero_le _)
  obtain ⟨r1, hr1⟩ : ∃ r1, r1 = (r.add l { i := { text := [33, 91] } } 2) := ⟨_, rfl⟩
  have hro : r1.openers = r.openers := by rw [hr1]; rfl
  have hra : r1.at0 = r.at0 + 2 := by rw [hr1]; rfl
  have hrp : 1 ≤ r1.parts.length := by rw [hr1]; show 1 ≤ ((r.endText l).parts ++ [_]).length; rw [List.length_append]; exact Nat.le_add_left _ _
  rw [← hr1] at HA hoa ⊢
  have hpl := hoa.len
  have hfr := hoa.frm
  have hal := hoa.at0
  obtain ⟨i0, hi0, hz⟩ := Option.map_eq_some_iff.1 infoOp
  have hz0 := congrArg (·.1) hz
  have hz1 := congrArg (·.2.1) hz
  have hz2 := congrArg (·.2.2) hz
  simp only at hz0 hz1 hz2
  have hw1 : IntKind.i64.wrap ((r1.parts.length : Int) - 1) = (r1.parts.length : Int) - 1 := wrap_small (by omega) (by omega)
  have hw2 : IntKind.i64.wrap ((r1.at0 : Int) - 1) = (r1.at0 : Int) - 1 := wrap_small (by omega) (by omega)
  have hra1 : 1 ≤ r1.at0 := by omega
  clear h hd hT hz hr1 hix hro hra
  go_enter Tryz.func24, Tryz.ntmps24
  go_wp2
  refine region_classI (fun w' => ∃ u : BwI w, w' = u.wo) (by kernel_rfl) (by kernel_rfl) (BwI.first w) ?_
  haveI := BwI.some w
  repeat (go_big_quiet_step (first | exact rfl))
  refine wpQuiet_nil ?_
  intro _ hw'
  obtain ⟨u, hu⟩ := hw'
  subst hu
  (try simp only [Exit.then])
  go_wp2
  refine region_classI (fun w' => ∃ u : BwI w, w' = u.wo) (by kernel_rfl) (by kernel_rfl) ⟨BwI.of (w := u.wo.drew) (u.is.trans ⟨rfl, rfl, rfl, Nat.le_refl _, fun _ _ => rfl⟩), rfl⟩ ?_
  haveI := BwI.some w
  repeat (go_big_quiet_step (first | (go_at_call 28; exact HH.out _) | exact rfl))
  refine wpQuiet_nil ?_
  intro _ hw'
  obtain ⟨u2, hu⟩ := hw'
  subst hu
  have HB := (show Hid _ from HBu.out u2)
  (try simp only [Exit.then])
  go_wp2_with (go_at_call 37; refine Calls.mono (HA.out u2) ?_; rintro e V ⟨rfl, ⟨vp1, xs1, hRV⟩, hb3⟩; have HRV := (show Hid (RdR _ _ _ _ _ _ _ _ _ _ _ _) from hRV); have HBV : Hid (Below B w V) := HB.out.trans hb3; clear hRV hb3)
  obtain ⟨a1, k1, hv1⟩ := row_len HRV.out.row
  subst hv1
  obtain ⟨a2, k2, hv2⟩ := row_len HRV.out.ops
  have e1 : V.drew.cell? ⟨rb, 1, none⟩ = some (.int .i64 (r1.at0 : Int)) := HRV.out.c.2.1
  have e3 : V.drew.cell? ⟨rb, 3, none⟩ = some (.slice a1 r1.parts.length k1) := HRV.out.c.2.2.2.1
  have e4 : V.drew.cell? ⟨rb, 4, none⟩ = some vo := HRV.out.c.2.2.2.2.1
  have e4' : ∀ o, (V.alloc o).drew.cell? ⟨rb, 4, none⟩ = some vo := fun o => (HRV.out.below (Below.drew ((Below.refl V.heap.size V).alloc (Nat.le_refl _) o))).c.2.2.2.2.1
  subst hv2
  have HR6 : Hid (V.drew.ownsRow B 71 3 (.slice a2 r1.openers.length k2) r1.openers.length (oCells r1.openers)) := HRV.out.ops
  have HBW : Hid (B ≤ V.heap.size) := Nat.le_trans HRV.out.base (Nat.le_of_lt (blk.lt_of_block HRV.out.blk))
  have HSW : Hid (RdR _ B l m n look (V.drew.alloc (.cells #[.int .i64 7, .int .i64 ((r1.parts.length : Int) - 1), .int .i64 ((r1.at0 : Int) - 1)] 71)) rb _ _ _ _) := HRV.out.below (Below.alloc (Below.drew (Below.refl _ _)) (Nat.le_refl _) _)
  have HCE : Hid ([.int .i64 7, .int .i64 ((r1.parts.length : Int) - 1), .int .i64 ((r1.at0 : Int) - 1)] = oCells [{ kind := 7, part := r1.parts.length - 1, start := r1.at0 - 1 }]) := by
    show _ = [Value.int .i64 ((7 : Nat) : Int), .int .i64 ((r1.parts.length - 1 : Nat) : Int), .int .i64 ((r1.at0 - 1 : Nat) : Int)]
    rw [show ((r1.parts.length - 1 : Nat) : Int) = (r1.parts.length : Int) - 1 by omega, show ((r1.at0 - 1 : Nat) : Int) = (r1.at0 : Int) - 1 by omega]
    rfl
  clear c0 c1
  go_region_law (refine step_app rfl (.tmp 42) (.tmp 56) 43 rfl B 71 i0 _ 3 24 Tryz.underlying43 hi0 hz0 hz1 hz2 rfl (by decide) (.slice a2 r1.openers.length k2) r1.openers.length (oCells r1.openers) (by first | rfl | simp [Act.eval, Act.put]) (World.ownsRow.alloc (w := V.drew) HR6.out _) (by have := HBW.out; simp; omega) ⟨V.heap.size, 0, none⟩ _ [.int .i64 7, .int .i64 ((r1.parts.length : Int) - 1), .int .i64 ((r1.at0 : Int) - 1)] (by first | rfl | simp [Act.eval, Act.put]) rfl (lit_cells V.drew [.int .i64 7, .int .i64 ((r1.parts.length : Int) - 1), .int .i64 ((r1.at0 : Int) - 1)] _) (by intro u hu; simp only [List.mem_cons, List.not_mem_nil, or_false] at hu; rcases hu with rfl | rfl | rfl <;> rfl) (by unfold maxLen; omega) (by omega) ?_; intro g6 c6 u6 hown6 hgrow6 hat6; have hP6 := RdR.opened (o := { kind := 7, part := r1.parts.length - 1, start := r1.at0 - 1 }) HSW.out (by have := HBW.out; simp; omega) (by rw [← HCE.out]; exact hown6) hgrow6 (fun g hg => by cases hg; exact hat6); have hsw6 : u6.heap[rb]? = some (.cells (rdCells l r1 (.slice a1 r1.parts.length k1) (.slice a2 r1.openers.length k2) m).toArray 45 (0, 0)) := (hgrow6.block rb (blk.lt_of_block HSW.out.blk) (row_neq HSW.out.ops HSW.out.blk (by decide))).trans HSW.out.blk; have q60 := blk.cell_blk hsw6 (i := 4) rfl; have q61 := blk.free_blk hsw6 4; have HP6 := (show Hid _ from hP6); clear hP6 hown6 hgrow6 hsw6 hat6)
  all_goals
    (try simp only [Exit.then])
    go_wp2
    go_end0
    exact ⟨rfl, ⟨_, _, _, HP6.out.1⟩, HBV.out.trans (((Below.drew (Below.refl _ _)).alloc HBW.out _).trans HP6.out.2)⟩

end Go.Proofs.YtjdijlaoeoikhaaGreatDoor
