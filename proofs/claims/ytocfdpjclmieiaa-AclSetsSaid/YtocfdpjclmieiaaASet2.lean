/- Set of no grants, in a row that is not nil; walked. -/
import Derived.Test.YtocfdpjclmieiaaAShown
set_option linter.unusedVariables false
namespace Go.Proofs.Ytocfdpjclmieiaa
open Go.RowKit

theorem slice_none (ad : Addr) : ∀ w', (Instr.slice 22 (.slice (some ad) 0 0) (some (.int .i64 0)) none none).run Try.prog w' = .ok (.slice (some ad) 0 0) w' := by
  intro w'
  go_simp
theorem slice_none2 (ad : Addr) : ∀ w', (Instr.slice 22 (.slice (some ad) 0 0) none (some (.int .i64 0)) none).run Try.prog w' = .ok (.slice (some ad) 0 0) w' := by
  intro w'
  go_simp
set_option maxHeartbeats 4000000 in
set_option maxRecDepth 8000 in
theorem aset_zero (g : GrA) (hg : g.who.length ≤ 9223372036854775000) (ad : Addr) (w : World) (hf : fitsA g 0 = true) : Calls Try.prog 16 #[.slice (some ad) 0 0, aggA g] w fun e w' => (∃ v', e = .returned (.tuple #[v', .int .i64 0]) ∧ w'.ownsRow w.heap.size 33 3 v' (setL [] g).length (grCs (setL [] g))) ∧ Below w.heap.size w w' := by
  have hv : ∀ u, GrsAt u (.slice (some ad) 0 0) [] := fun u => ⟨some ad, 0, rfl, fun i g hg => by cases hg⟩
  have HA : Hid (∀ o, Below w.heap.size w (w.alloc o)) := fun o => (Below.refl _ _).alloc (Nat.le_refl _) o
  have HR : Hid (∀ u, Below w.heap.size w u → Calls Try.prog 11 #[.slice (some ad) 0 0] u fun e w' => e = .returned (.bool true) ∧ Below u.heap.size u w') := fun u hu => aright_any [] (fun g hg => by cases hg) _ u (hv u)
  have HF0 : Hid (∀ u, Calls Try.prog 22 #[aggA g, .int .i64 0] u fun e w' => e = .returned (.bool true) ∧ Below u.heap.size u w') := fun u => by have := afits_any g hg 0 u; rw [hf] at this; exact this
  have HS0 : Hid (∀ u, Below w.heap.size w u → Calls Try.prog 26 #[.slice (some ad) 0 0, aggA g, ordV] u fun e w' => e = .returned (.tuple #[.int .i64 0, .bool false]) ∧ Below u.heap.size u w') := fun u hu => asearch_any [] (by decide) List.Pairwise.nil g _ u (hv u)
  have HSL : Hid (setL [] g = gainA g) := by show _ = _; unfold setL; simp
  obtain ⟨t, h, r⟩ := g
  have HF : Hid (∀ u, Calls Try.prog 22 #[.agg #[strA t, strA h, .int .i64 r], .int .i64 0] u fun e w' => e = .returned (.bool true) ∧ Below u.heap.size u w') := HF0
  have HS : Hid (∀ u, Below w.heap.size w u → Calls Try.prog 26 #[.slice (some ad) 0 0, .agg #[strA t, strA h, .int .i64 r], ordV] u fun e w' => e = .returned (.tuple #[.int .i64 0, .bool false]) ∧ Below u.heap.size u w') := HS0
  have HGA : Hid (gainA ⟨t, h, r⟩ = if r ≠ 0 then [⟨t, h, r⟩] else []) := rfl
  clear HF0 HS0 hv hf hg
  generalize gainA ⟨t, h, r⟩ = GA at *
  generalize setL [] ⟨t, h, r⟩ = SL at *
  obtain ⟨i0, hi, hz0, hz1, hz2⟩ := info_parts info11G
  have n1 := slice_none ad
  have n2 := slice_none2 ad
  by_cases hr0 : r ≠ 0
  · have hri : (r != 0) = true := by simpa using hr0
    have HSL2 : Hid (SL = [⟨t, h, r⟩]) := by show _ = _; rw [HSL.out, HGA.out, if_pos hr0]
    clear hr0 HSL HGA
    go_enter Try.func16, Try.ntmps16
    go_wp2_with (first | (go_at_call 11; refine Calls.mono (HR.out _ (HA.out _)) ?_; rintro e u1 ⟨rfl, hb1⟩; have HB1 := (show Hid (Below w.heap.size w u1) from (HA.out _).trans (hb1.mono (HA.out _).size)); have hk := blk_belowA (blk_new w _ _) hb1; have x0 : u1.cell? ⟨w.heap.size, 0, none⟩ = some (strA t) := cell_blkA hk (i := 0) rfl; have x1 : u1.cell? ⟨w.heap.size, 1, none⟩ = some (strA h) := cell_blkA hk (i := 1) rfl; have x2 : u1.cell? ⟨w.heap.size, 2, none⟩ = some (.int .i64 r) := cell_blkA hk (i := 2) rfl; have HK1 := (show Hid _ from hk); clear hb1 hk) | (go_at_call 22; refine Calls.mono (HF.out _) ?_; rintro e u2 ⟨rfl, hb2⟩; have HB2 := (show Hid (Below w.heap.size w u2) from HB1.out.trans (hb2.mono HB1.out.size)); have hk := blk_belowA HK1.out hb2; have y0 : u2.cell? ⟨w.heap.size, 0, none⟩ = some (strA t) := cell_blkA hk (i := 0) rfl; have y1 : u2.cell? ⟨w.heap.size, 1, none⟩ = some (strA h) := cell_blkA hk (i := 1) rfl; have y2 : u2.cell? ⟨w.heap.size, 2, none⟩ = some (.int .i64 r) := cell_blkA hk (i := 2) rfl; have HK2 := (show Hid _ from hk); clear hb2 hk) | (go_at_call 26; refine Calls.mono (HS.out _ HB2.out) ?_; rintro e u3 ⟨rfl, hb3⟩; have HB3 := (show Hid (Below w.heap.size w u3) from HB2.out.trans (hb3.mono HB2.out.size)); have hk := blk_belowA HK2.out hb3; have z0 : u3.cell? ⟨w.heap.size, 0, none⟩ = some (strA t) := cell_blkA hk (i := 0) rfl; have z1 : u3.cell? ⟨w.heap.size, 1, none⟩ = some (strA h) := cell_blkA hk (i := 1) rfl; have z2 : u3.cell? ⟨w.heap.size, 2, none⟩ = some (.int .i64 r) := cell_blkA hk (i := 2) rfl; have HK3 := (show Hid _ from hk); clear hb3 hk) | (at_builtin; refine wpList_append_own_at _ rfl _ _ 22 rfl w.heap.size 33 i0 (.agg #[.string ⟨#[]⟩, .string ⟨#[]⟩, .int .i64 0]) 3 40 Try.underlying22 hi hz0 hz1 hz2 rfl (by decide) _ _ _ rfl (World.ownsRow_nil _ _ _ _) ad 0 0 [] rfl rfl (fun j u hj => by cases hj) (fun u hu => by cases hu) (by unfold maxLen; omega) (by omega) HB3.out.size ?_))
    intro v1 w1 hown1 hgrow1 hiff _
    have hv1 : v1 = .slice none 0 0 := by first | exact hiff | exact hiff.2 ⟨rfl, rfl⟩ | exact hiff.2 trivial
    subst hv1
    have hb4 : Below u3.heap.size u3 w1 := (Below.refl _ _).grown hgrow1 (Nat.le_refl _) (fun k hk => by cases hk)
    have HB4 := (show Hid (Below w.heap.size w w1) from HB3.out.trans (hb4.mono HB3.out.size))
    have hk4 := blk_belowA HK3.out hb4
    have q0 : w1.cell? ⟨w.heap.size, 0, none⟩ = some (strA t) := cell_blkA hk4 (i := 0) rfl
    have q1 : w1.cell? ⟨w.heap.size, 1, none⟩ = some (strA h) := cell_blkA hk4 (i := 1) rfl
    have q2 : w1.cell? ⟨w.heap.size, 2, none⟩ = some (.int .i64 r) := cell_blkA hk4 (i := 2) rfl
    clear hown1 hgrow1 hb4 hk4 x0 x1 x2 y0 y1 y2 z0 z1 z2 HK1 HK2 HK3 HB1 HB2 HB3 HR HF HS HA
    go_wp2_with (at_builtin; refine wpList_append_own_at _ rfl _ _ 22 rfl w.heap.size 33 i0 (.agg #[.string ⟨#[]⟩, .string ⟨#[]⟩, .int .i64 0]) 3 40 Try.underlying22 hi hz0 hz1 hz2 rfl (by decide) _ _ _ rfl (World.ownsRow.alloc (World.ownsRow_nil _ _ _ _) _) ⟨w1.heap.size, 0, none⟩ 1 1 [strA t, strA h, .int .i64 r] rfl rfl (lit_cells _ _ _) (fun u hu => by simp at hu; rcases hu with rfl | rfl | rfl <;> rfl) (by unfold maxLen; omega) (by omega) (by have := HB4.out.size; simp; omega) ?_)
    intro v2 w2 hown2 hgrow2 _ _
    have HB5 := (show Hid (Below w.heap.size w w2) from (HB4.out.alloc HB4.out.size _).grown hgrow2 (by have := HB4.out.size; simp; omega) (fun k hk => by cases hk))
    have HO2 := (show Hid (w2.ownsRow w.heap.size 33 3 v2 1 [strA t, strA h, .int .i64 r]) from hown2)
    obtain ⟨av2, cv2, hv2⟩ := arow_len HO2.out
    subst hv2
    clear hown2 hgrow2 q0 q1 q2
    go_wp2_with (at_builtin; refine wpList_append_own_at _ rfl _ _ 22 rfl w.heap.size 33 i0 (.agg #[.string ⟨#[]⟩, .string ⟨#[]⟩, .int .i64 0]) 3 40 Try.underlying22 hi hz0 hz1 hz2 rfl (by decide) _ _ _ rfl HO2.out ad 0 0 [] rfl rfl (fun j u hj => by cases hj) (fun u hu => by cases hu) (by unfold maxLen; omega) (by omega) HB5.out.size ?_)
    intro v3 w3 hown3 hgrow3 _ _
    have HB6 := (show Hid (Below w.heap.size w w3) from HB5.out.grown hgrow3 HB5.out.size (fun k hk => (World.ownsRow.lt HO2.out k hk).1))
    have HO3 := (show Hid (w3.ownsRow w.heap.size 33 3 v3 SL.length (grCs SL)) from (by rw [HSL2.out]; exact hown3))
    obtain ⟨av3, cv3, hv3⟩ := arow_len HO3.out
    subst hv3
    clear hown3 hgrow3
    go_wp2
    go_ret2
    exact ⟨⟨_, rfl, HO3.out⟩, HB6.out⟩
  · have hri : (r != 0) = false := by simpa using hr0
    have HSL2 : Hid (SL = []) := by show _ = _; rw [HSL.out, HGA.out, if_neg hr0]
    clear hr0 HSL HGA
    go_enter Try.func16, Try.ntmps16
    go_wp2_with (first | (go_at_call 11; refine Calls.mono (HR.out _ (HA.out _)) ?_; rintro e u1 ⟨rfl, hb1⟩; have HB1 := (show Hid (Below w.heap.size w u1) from (HA.out _).trans (hb1.mono (HA.out _).size)); have hk := blk_belowA (blk_new w _ _) hb1; have x0 : u1.cell? ⟨w.heap.size, 0, none⟩ = some (strA t) := cell_blkA hk (i := 0) rfl; have x1 : u1.cell? ⟨w.heap.size, 1, none⟩ = some (strA h) := cell_blkA hk (i := 1) rfl; have x2 : u1.cell? ⟨w.heap.size, 2, none⟩ = some (.int .i64 r) := cell_blkA hk (i := 2) rfl; have HK1 := (show Hid _ from hk); clear hb1 hk) | (go_at_call 22; refine Calls.mono (HF.out _) ?_; rintro e u2 ⟨rfl, hb2⟩; have HB2 := (show Hid (Below w.heap.size w u2) from HB1.out.trans (hb2.mono HB1.out.size)); have hk := blk_belowA HK1.out hb2; have y0 : u2.cell? ⟨w.heap.size, 0, none⟩ = some (strA t) := cell_blkA hk (i := 0) rfl; have y1 : u2.cell? ⟨w.heap.size, 1, none⟩ = some (strA h) := cell_blkA hk (i := 1) rfl; have y2 : u2.cell? ⟨w.heap.size, 2, none⟩ = some (.int .i64 r) := cell_blkA hk (i := 2) rfl; have HK2 := (show Hid _ from hk); clear hb2 hk) | (go_at_call 26; refine Calls.mono (HS.out _ HB2.out) ?_; rintro e u3 ⟨rfl, hb3⟩; have HB3 := (show Hid (Below w.heap.size w u3) from HB2.out.trans (hb3.mono HB2.out.size)); have hk := blk_belowA HK2.out hb3; have z0 : u3.cell? ⟨w.heap.size, 0, none⟩ = some (strA t) := cell_blkA hk (i := 0) rfl; have z1 : u3.cell? ⟨w.heap.size, 1, none⟩ = some (strA h) := cell_blkA hk (i := 1) rfl; have z2 : u3.cell? ⟨w.heap.size, 2, none⟩ = some (.int .i64 r) := cell_blkA hk (i := 2) rfl; have HK3 := (show Hid _ from hk); clear hb3 hk) | (at_builtin; refine wpList_append_own_at _ rfl _ _ 22 rfl w.heap.size 33 i0 (.agg #[.string ⟨#[]⟩, .string ⟨#[]⟩, .int .i64 0]) 3 40 Try.underlying22 hi hz0 hz1 hz2 rfl (by decide) _ _ _ rfl (World.ownsRow_nil _ _ _ _) ad 0 0 [] rfl rfl (fun j u hj => by cases hj) (fun u hu => by cases hu) (by unfold maxLen; omega) (by omega) HB3.out.size ?_))
    intro v1 w1 hown1 hgrow1 hiff _
    have hv1 : v1 = .slice none 0 0 := by first | exact hiff | exact hiff.2 ⟨rfl, rfl⟩ | exact hiff.2 trivial
    subst hv1
    have hb4 : Below u3.heap.size u3 w1 := (Below.refl _ _).grown hgrow1 (Nat.le_refl _) (fun k hk => by cases hk)
    have HB4 := (show Hid (Below w.heap.size w w1) from HB3.out.trans (hb4.mono HB3.out.size))
    clear hown1 hgrow1 hb4 x0 x1 x2 y0 y1 y2 z0 z1 z2 HK1 HK2 HK3 HB1 HB2 HB3 HR HF HS HA
    go_wp2_with (at_builtin; refine wpList_append_own_at _ rfl _ _ 22 rfl w.heap.size 33 i0 (.agg #[.string ⟨#[]⟩, .string ⟨#[]⟩, .int .i64 0]) 3 40 Try.underlying22 hi hz0 hz1 hz2 rfl (by decide) _ _ _ rfl (World.ownsRow_nil _ _ _ _) ad 0 0 [] rfl rfl (fun j u hj => by cases hj) (fun u hu => by cases hu) (by unfold maxLen; omega) (by omega) HB4.out.size ?_)
    intro v3 w3 hown3 hgrow3 hiff3 _
    have hv3 : v3 = .slice none 0 0 := by first | exact hiff3 | exact hiff3.2 ⟨rfl, rfl⟩ | exact hiff3.2 trivial
    subst hv3
    have HB6 := (show Hid (Below w.heap.size w w3) from HB4.out.grown hgrow3 HB4.out.size (fun k hk => by cases hk))
    clear hown3 hgrow3
    go_wp2
    go_ret2
    exact ⟨⟨_, rfl, by rw [HSL2.out]; exact World.ownsRow_nil _ _ _ _⟩, HB6.out⟩
end Go.Proofs.Ytocfdpjclmieiaa
