/- fits; walked. -/
import Derived.Test.YtocfdpjclmieiaaAOrd
set_option linter.unusedVariables false
namespace Go.Proofs.Ytocfdpjclmieiaa
open Go.RowKit

theorem fits_is (g : GrA) (least : Int) : fitsA g least = ((whoT g.who).2.2 && nameA g.tenant && !((whoT g.who).1 == g.tenant) && decide (least ≤ g.right) && decide (g.right ≤ 3)) := by
  unfold fitsA whoT
  cases whoA g.who with
  | none => rfl
  | some p =>
    obtain ⟨t, o⟩ := p
    simp only [Bool.true_and]
    rw [Bool.eq_iff_iff]
    simp
    constructor
    · rintro ⟨⟨a, b⟩, c, d⟩; exact ⟨⟨⟨a, b⟩, c⟩, d⟩
    · rintro ⟨⟨⟨a, b⟩, c⟩, d⟩; exact ⟨⟨a, b⟩, c, d⟩

set_option maxHeartbeats 4000000 in
set_option maxRecDepth 8000 in
theorem afits_any (g : GrA) (hg : g.who.length ≤ 9223372036854775000) (least : Int) (w : World) : Calls Try.prog 22 #[aggA g, .int .i64 least] w fun e w' => e = .returned (.bool (fitsA g least)) ∧ Below w.heap.size w w' := by
  have HF := (show Hid (fitsA g least = ((whoT g.who).2.2 && nameA g.tenant && !((whoT g.who).1 == g.tenant) && decide (least ≤ g.right) && decide (g.right ≤ 3))) from fits_is g least)
  obtain ⟨t, h, r⟩ := g
  simp only at HF hg
  generalize fitsA ⟨t, h, r⟩ least = R at *
  have HW : Hid (∀ u, Calls Try.prog 6 #[strA h] u fun e w' => e = .returned (.tuple #[strA (whoT h).1, strA (whoT h).2.1, .bool (whoT h).2.2]) ∧ Below u.heap.size u w') := fun u => awho_any h hg u
  have HN : Hid (∀ u, Calls Try.prog 19 #[strA t] u fun e w' => e = .returned (.bool (nameA t)) ∧ w' = u) := fun u => aname_any t u
  generalize whoT h = R3 at *
  obtain ⟨ho, ow, ok⟩ := R3
  simp only at HF HW
  generalize nameA t = nt at *
  have hb0 : Below w.heap.size w (w.alloc (.cells #[strA t, strA h, .int .i64 r] 33)) := (Below.refl _ _).alloc (Nat.le_refl _) _
  have HB0 := (show Hid _ from hb0)
  have HK : Hid ((w.alloc (.cells #[strA t, strA h, .int .i64 r] 33)).heap[w.heap.size]? = some (.cells #[strA t, strA h, .int .i64 r] 33 (0, 0))) := blk_new _ _ _
  clear hb0
  cases ok
  · have hR : R = false := by rw [HF.out]; simp
    subst hR
    clear HF
    go_enter Try.func22, Try.ntmps22
    go_wp2_with (first | (go_at_call 6; refine Calls.mono (HW.out _) ?_; rintro e u1 ⟨rfl, hb1⟩; have HB1 := (show Hid (Below w.heap.size w u1) from HB0.out.trans (hb1.mono HB0.out.size)); have hk := blk_belowA HK.out hb1; have c0 : u1.cell? ⟨w.heap.size, 0, none⟩ = some (strA t) := cell_blkA hk (i := 0) rfl; have c2 : u1.cell? ⟨w.heap.size, 2, none⟩ = some (.int .i64 r) := cell_blkA hk (i := 2) rfl; clear hb1 hk) | (go_at_call 19; refine Calls.mono (HN.out _) ?_; rintro e u2 ⟨rfl, hu⟩; subst hu))
    go_ret
    exact ⟨rfl, HB1.out⟩
  · cases nt
    · have hR : R = false := by rw [HF.out]; simp
      subst hR
      clear HF
      go_enter Try.func22, Try.ntmps22
      go_wp2_with (first | (go_at_call 6; refine Calls.mono (HW.out _) ?_; rintro e u1 ⟨rfl, hb1⟩; have HB1 := (show Hid (Below w.heap.size w u1) from HB0.out.trans (hb1.mono HB0.out.size)); have hk := blk_belowA HK.out hb1; have c0 : u1.cell? ⟨w.heap.size, 0, none⟩ = some (strA t) := cell_blkA hk (i := 0) rfl; have c2 : u1.cell? ⟨w.heap.size, 2, none⟩ = some (.int .i64 r) := cell_blkA hk (i := 2) rfl; clear hb1 hk) | (go_at_call 19; refine Calls.mono (HN.out _) ?_; rintro e u2 ⟨rfl, hu⟩; subst hu))
      go_ret
      exact ⟨rfl, HB1.out⟩
    · by_cases hht : ho = t
      · have hb : (ho == t) = true := by simpa using hht
        have hb2 : (ho != t) = false := by simpa using hht
        rw [hb] at HF
        clear hht
        have hR : R = false := by rw [HF.out]; simp
        subst hR
        clear HF
        go_enter Try.func22, Try.ntmps22
        go_wp2_with (first | (go_at_call 6; refine Calls.mono (HW.out _) ?_; rintro e u1 ⟨rfl, hb1⟩; have HB1 := (show Hid (Below w.heap.size w u1) from HB0.out.trans (hb1.mono HB0.out.size)); have hk := blk_belowA HK.out hb1; have c0 : u1.cell? ⟨w.heap.size, 0, none⟩ = some (strA t) := cell_blkA hk (i := 0) rfl; have c2 : u1.cell? ⟨w.heap.size, 2, none⟩ = some (.int .i64 r) := cell_blkA hk (i := 2) rfl; clear hb1 hk) | (go_at_call 19; refine Calls.mono (HN.out _) ?_; rintro e u2 ⟨rfl, hu⟩; subst hu))
        go_ret
        exact ⟨rfl, HB1.out⟩
      · have hb : (ho == t) = false := by simpa using hht
        have hb2 : (ho != t) = true := by simpa using hht
        rw [hb] at HF
        clear hht
        by_cases hl : least ≤ r
        · by_cases h3 : r ≤ 3
          · have hR : R = true := by rw [HF.out, decide_eq_true hl, decide_eq_true h3]; rfl
            subst hR
            clear HF
            go_enter Try.func22, Try.ntmps22
            go_wp2_with (first | (go_at_call 6; refine Calls.mono (HW.out _) ?_; rintro e u1 ⟨rfl, hb1⟩; have HB1 := (show Hid (Below w.heap.size w u1) from HB0.out.trans (hb1.mono HB0.out.size)); have hk := blk_belowA HK.out hb1; have c0 : u1.cell? ⟨w.heap.size, 0, none⟩ = some (strA t) := cell_blkA hk (i := 0) rfl; have c2 : u1.cell? ⟨w.heap.size, 2, none⟩ = some (.int .i64 r) := cell_blkA hk (i := 2) rfl; clear hb1 hk) | (go_at_call 19; refine Calls.mono (HN.out _) ?_; rintro e u2 ⟨rfl, hu⟩; subst hu))
            go_ret
            exact ⟨rfl, HB1.out⟩
          · have hR : R = false := by rw [HF.out, decide_eq_false h3]; simp
            subst hR
            clear HF
            go_enter Try.func22, Try.ntmps22
            go_wp2_with (first | (go_at_call 6; refine Calls.mono (HW.out _) ?_; rintro e u1 ⟨rfl, hb1⟩; have HB1 := (show Hid (Below w.heap.size w u1) from HB0.out.trans (hb1.mono HB0.out.size)); have hk := blk_belowA HK.out hb1; have c0 : u1.cell? ⟨w.heap.size, 0, none⟩ = some (strA t) := cell_blkA hk (i := 0) rfl; have c2 : u1.cell? ⟨w.heap.size, 2, none⟩ = some (.int .i64 r) := cell_blkA hk (i := 2) rfl; clear hb1 hk) | (go_at_call 19; refine Calls.mono (HN.out _) ?_; rintro e u2 ⟨rfl, hu⟩; subst hu))
            go_ret
            exact ⟨ret_bool (by rw [decide_eq_false_iff_not]; omega), HB1.out⟩
        · have hR : R = false := by rw [HF.out, decide_eq_false hl]; simp
          subst hR
          clear HF
          go_enter Try.func22, Try.ntmps22
          go_wp2_with (first | (go_at_call 6; refine Calls.mono (HW.out _) ?_; rintro e u1 ⟨rfl, hb1⟩; have HB1 := (show Hid (Below w.heap.size w u1) from HB0.out.trans (hb1.mono HB0.out.size)); have hk := blk_belowA HK.out hb1; have c0 : u1.cell? ⟨w.heap.size, 0, none⟩ = some (strA t) := cell_blkA hk (i := 0) rfl; have c2 : u1.cell? ⟨w.heap.size, 2, none⟩ = some (.int .i64 r) := cell_blkA hk (i := 2) rfl; clear hb1 hk) | (go_at_call 19; refine Calls.mono (HN.out _) ?_; rintro e u2 ⟨rfl, hu⟩; subst hu))
          go_ret
          exact ⟨rfl, HB1.out⟩
end Go.Proofs.Ytocfdpjclmieiaa
