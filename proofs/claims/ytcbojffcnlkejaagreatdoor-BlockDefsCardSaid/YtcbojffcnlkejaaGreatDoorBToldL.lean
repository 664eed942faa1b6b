/- What a list tells of itself. -/
import Derived.Test.YtcbojffcnlkejaaGreatDoorG14
import Derived.Test.YtcbojffcnlkejaaGreatDoorBOrd
set_option linter.unusedVariables false
namespace Go.Proofs.YtcbojffcnlkejaaGreatDoor
open Go.RowKit
open cur (cell_blk free_blk set_blk blk_below)

theorem eqB (c d : UInt8) : ((c.toNat : Int) == (d.toNat : Int)) = (c == d) := by
  rw [Bool.eq_iff_iff, beq_iff_eq, beq_iff_eq]
  constructor
  · intro h; exact UInt8.toNat_inj.1 (by omega)
  · rintro rfl; rfl

abbrev mkV (m : Mk) : Value := .agg #[.int .u8 (m.sign.toNat : Int), .int .i64 (m.size : Int), .int .i64 (m.number : Int), .bool m.parts]

theorem bordered_any (m : Mk) (w : World) : Calls Tryz.prog 81 #[mkV m] w fun e w' => e = .returned (.bool (ordB m.sign)) ∧ Below w.heap.size w w' := by
  have hm : ordB m.sign = (((m.sign.toNat : Int) == 46) || ((m.sign.toNat : Int) == 41)) := by
    unfold ordB
    rw [← eqB m.sign 46, ← eqB m.sign 41]
    rfl
  rw [hm]
  go_enter Tryz.func81, Tryz.ntmps81
  go_wp2
  · go_ret
    rename_i h
    exact ⟨by rw [h]; rfl, (Below.refl _ _).alloc (Nat.le_refl _) _⟩
  · go_ret
    exact ⟨rfl, (Below.refl _ _).alloc (Nat.le_refl _) _⟩

theorem blk_drew {w w' : World} {b : Nat} {o : Obj} (h : w.heap[b]? = some o) (hb : Below w.drew.heap.size w.drew w') : w'.heap[b]? = some o := (hb.block b (lt_of_block (w := w) h)).trans h

theorem zer8 {w : World} {b : Nat} {t : TypeId} {x0 x1 x2 x3 x4 x5 x6 x7 : Value} (h : w.heap[b]? = some (.cells #[x0, x1, x2, x3, x4, x5, x6, x7] t (0, 0))) :
    (w.cell? ⟨b, 0, none⟩ = some x0 ∧ w.cell? ⟨b, 1, none⟩ = some x1 ∧ w.cell? ⟨b, 2, none⟩ = some x2 ∧ w.cell? ⟨b, 3, none⟩ = some x3 ∧ w.cell? ⟨b, 4, none⟩ = some x4 ∧ w.cell? ⟨b, 5, none⟩ = some x5 ∧ w.cell? ⟨b, 6, none⟩ = some x6 ∧ w.cell? ⟨b, 7, none⟩ = some x7) ∧
    w.frozen? ⟨b, 0, none⟩ = false ∧ w.frozen? ⟨b, 1, none⟩ = false ∧ w.frozen? ⟨b, 2, none⟩ = false ∧ w.frozen? ⟨b, 3, none⟩ = false ∧ w.frozen? ⟨b, 4, none⟩ = false ∧ w.frozen? ⟨b, 5, none⟩ = false ∧ w.frozen? ⟨b, 6, none⟩ = false ∧ w.frozen? ⟨b, 7, none⟩ = false :=
  ⟨⟨cell_blk h rfl, cell_blk h rfl, cell_blk h rfl, cell_blk h rfl, cell_blk h rfl, cell_blk h rfl, cell_blk h rfl, cell_blk h rfl⟩, free_blk h 0, free_blk h 1, free_blk h 2, free_blk h 3, free_blk h 4, free_blk h 5, free_blk h 6, free_blk h 7⟩

theorem blk8_set {w : World} {b : Nat} {t : TypeId} {a0 a1 a2 a3 a4 a5 a6 a7 : Value} (h : w.heap[b]? = some (.cells #[a0, a1, a2, a3, a4, a5, a6, a7] t (0, 0))) (x0 x1 x2 x3 x4 x5 x6 x7 : Value) :
    ((((((((w.setCell ⟨b, 0, none⟩ x0).setCell ⟨b, 1, none⟩ x1).setCell ⟨b, 2, none⟩ x2).setCell ⟨b, 3, none⟩ x3).setCell ⟨b, 4, none⟩ x4).setCell ⟨b, 5, none⟩ x5).setCell ⟨b, 6, none⟩ x6).setCell ⟨b, 7, none⟩ x7).heap[b]? = some (.cells #[x0, x1, x2, x3, x4, x5, x6, x7] t (0, 0)) := by
  have h0 : (w.setCell ⟨b, 0, none⟩ x0).heap[b]? = some (.cells #[x0, a1, a2, a3, a4, a5, a6, a7] t (0, 0)) := set_blk h 0 x0
  have h1 : ((w.setCell ⟨b, 0, none⟩ x0).setCell ⟨b, 1, none⟩ x1).heap[b]? = some (.cells #[x0, x1, a2, a3, a4, a5, a6, a7] t (0, 0)) := set_blk h0 1 x1
  have h2 : (((w.setCell ⟨b, 0, none⟩ x0).setCell ⟨b, 1, none⟩ x1).setCell ⟨b, 2, none⟩ x2).heap[b]? = some (.cells #[x0, x1, x2, a3, a4, a5, a6, a7] t (0, 0)) := set_blk h1 2 x2
  have h3 : ((((w.setCell ⟨b, 0, none⟩ x0).setCell ⟨b, 1, none⟩ x1).setCell ⟨b, 2, none⟩ x2).setCell ⟨b, 3, none⟩ x3).heap[b]? = some (.cells #[x0, x1, x2, x3, a4, a5, a6, a7] t (0, 0)) := set_blk h2 3 x3
  have h4 : (((((w.setCell ⟨b, 0, none⟩ x0).setCell ⟨b, 1, none⟩ x1).setCell ⟨b, 2, none⟩ x2).setCell ⟨b, 3, none⟩ x3).setCell ⟨b, 4, none⟩ x4).heap[b]? = some (.cells #[x0, x1, x2, x3, x4, a5, a6, a7] t (0, 0)) := set_blk h3 4 x4
  have h5 : ((((((w.setCell ⟨b, 0, none⟩ x0).setCell ⟨b, 1, none⟩ x1).setCell ⟨b, 2, none⟩ x2).setCell ⟨b, 3, none⟩ x3).setCell ⟨b, 4, none⟩ x4).setCell ⟨b, 5, none⟩ x5).heap[b]? = some (.cells #[x0, x1, x2, x3, x4, x5, a6, a7] t (0, 0)) := set_blk h4 5 x5
  have h6 : (((((((w.setCell ⟨b, 0, none⟩ x0).setCell ⟨b, 1, none⟩ x1).setCell ⟨b, 2, none⟩ x2).setCell ⟨b, 3, none⟩ x3).setCell ⟨b, 4, none⟩ x4).setCell ⟨b, 5, none⟩ x5).setCell ⟨b, 6, none⟩ x6).heap[b]? = some (.cells #[x0, x1, x2, x3, x4, x5, x6, a7] t (0, 0)) := set_blk h5 6 x6
  have h7 : ((((((((w.setCell ⟨b, 0, none⟩ x0).setCell ⟨b, 1, none⟩ x1).setCell ⟨b, 2, none⟩ x2).setCell ⟨b, 3, none⟩ x3).setCell ⟨b, 4, none⟩ x4).setCell ⟨b, 5, none⟩ x5).setCell ⟨b, 6, none⟩ x6).setCell ⟨b, 7, none⟩ x7).heap[b]? = some (.cells #[x0, x1, x2, x3, x4, x5, x6, x7] t (0, 0)) := set_blk h6 7 x7
  exact h7
theorem set8_below {B b : Nat} {w0 w : World} {x0 x1 x2 x3 x4 x5 x6 x7 : Value} (h : Below B w0 w) (hB : B ≤ b) :
    Below B w0 ((((((((w.setCell ⟨b, 0, none⟩ x0).setCell ⟨b, 1, none⟩ x1).setCell ⟨b, 2, none⟩ x2).setCell ⟨b, 3, none⟩ x3).setCell ⟨b, 4, none⟩ x4).setCell ⟨b, 5, none⟩ x5).setCell ⟨b, 6, none⟩ x6).setCell ⟨b, 7, none⟩ x7) :=
  below_set (below_set (below_set (below_set (below_set (below_set (below_set (below_set h hB) hB) hB) hB) hB) hB) hB) hB

set_option maxHeartbeats 4000000 in
theorem btold_list {w : World} {b : Nat} {x : Box} {m : Mk} {a : Option Addr} {n c : Nat} (h : w.heap[b]? = some (.cells (partCs (.list x m) (.slice a n c)).toArray 143 (0, 0))) :
    Calls Tryz.prog 243 #[ptrV b] w fun e w' => e = .returned (toldV { kind := 2, ordered := ordB m.sign, start := m.number, tight := !x.gap } (.slice a n c) true) ∧ Below w.heap.size w w' := by
  have hb := fun cs t => blk_below h ((Below.refl w.heap.size w).alloc (Nat.le_refl _) (.cells cs t))
  have hn := new_blk w #[.int .i64 0, .int .i64 0, .string ⟨#[]⟩, .string ⟨#[]⟩, .bool false, .bool false, .int .i64 0, .slice none 0 0] 34
  generalize hW : w.alloc (.cells #[.int .i64 0, .int .i64 0, .string ⟨#[]⟩, .string ⟨#[]⟩, .bool false, .bool false, .int .i64 0, .slice none 0 0] 34) = W at hn
  have HO := (show Hid _ from fun u => bwq (w0 := W) (bordered_any m) u)
  have hbW : W.heap[b]? = some (.cells (partCs (.list x m) (.slice a n c)).toArray 143 (0, 0)) := by rw [← hW]; exact hb _ _
  have c2 := fun u : BwW W => cell_blk (u.blk hbW) (i := 2) rfl
  have c4 := fun u : BwW W => cell_blk (u.blk hbW) (i := 4) rfl
  have c5 := fun u : BwW W => cell_blk (u.blk hbW) (i := 5) rfl
  have c6 := fun u : BwW W => cell_blk (u.blk hbW) (i := 6) rfl
  have c7 := fun u : BwW W => cell_blk (u.blk hbW) (i := 7) rfl
  have c8 := fun u : BwW W => cell_blk (u.blk hbW) (i := 8) rfl
  simp only [partCs] at c2 c4 c5 c6 c7 c8
  have HN := (show Hid _ from hn)
  have HW : Hid (Below w.heap.size w W) := by show Below _ _ _; rw [← hW]; exact (Below.refl _ _).alloc (Nat.le_refl _) _
  clear h hb hn hbW
  go_enter Tryz.func243, Tryz.ntmps243
  go_wp2
  refine region_tail (fun w' => ∃ u : BwW W, w' = u.wo) 22 (by kernel_rfl) (by kernel_rfl) (BwW.first W) ?_
  haveI := BwW.some W
  simp only [List.take_succ_cons, List.take_zero]
  repeat (go_big_quiet_step ((go_at_call 81; exact HO.out _)))
  refine wpQuiet_nil ?_
  intro _ hw'
  obtain ⟨u, hu⟩ := hw'
  subst hu
  simp only [List.drop_succ_cons, List.drop_zero]
  have HU := (show Hid _ from u.is)
  have hn := u.blk HN.out
  generalize u.wo = v at *
  obtain ⟨⟨z0, z1, z2, z3, z4, z5, z6, z7⟩, y0, y1, y2, y3, y4, y5, y6, y7⟩ := zer8 hn
  clear c2 c4 c5 c6 c7 c8
  go_wp2
  obtain ⟨⟨d0, d1, d2, d3, d4, d5, d6, d7⟩, _⟩ := zer8 (blk8_set hn (.int .i64 2) (.int .i64 0) (.string ⟨#[]⟩) (.string ⟨#[]⟩) (.bool (ordB m.sign)) (.bool (!x.gap)) (.int .i64 (m.number : Int)) (.slice a n c))
  refine bodyPost_ret (v := toldV { kind := 2, ordered := ordB m.sign, start := m.number, tight := !x.gap } (.slice a n c) true) ?_ rfl ⟨rfl, set8_below (HW.out.trans (HU.out.mono HW.out.size)) (Nat.le_refl _)⟩
  rw [results_cell_tmp rfl]
  go_simp

end Go.Proofs.YtcbojffcnlkejaaGreatDoor
