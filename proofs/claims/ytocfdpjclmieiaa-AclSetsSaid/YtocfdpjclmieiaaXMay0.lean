/- may and below of the document's answer (layer 11); walked. -/
import Derived.Test.YtocfdpjclmieiaaXWho
set_option linter.unusedVariables false
namespace Go.Proofs.Ytocfdpjclmieiaa
open Go.RowKit

/-- May a grant stand among others, but for its right? -/
def keyA (g : GrA) : Bool := nameA g.tenant && (whoT g.who).2.2 && !((whoT g.who).1 == g.tenant)
theorem fits_key (g : GrA) (k : Int) : fitsA g k = (keyA g && decide (k ≤ g.right) && decide (g.right ≤ 3)) := by
  rw [fits_is]
  unfold keyA
  cases nameA g.tenant <;> cases (whoT g.who).2.2 <;> simp

set_option maxHeartbeats 4000000 in
set_option maxRecDepth 8000 in
theorem xmay0_any (g : GrA) (h1 : g.tenant.length ≤ 9223372036854775000) (hg : g.who.length ≤ 9223372036854775000) (w : World) : Calls Try.prog 24 #[aggA g] w fun e w' => e = .returned (.bool (keyA g)) ∧ Below w.heap.size w w' := by
  have HF : Hid (keyA g = (nameA g.tenant && (whoT g.who).2.2 && !((whoT g.who).1 == g.tenant))) := rfl
  obtain ⟨t, h, r⟩ := g
  simp only at HF hg h1
  generalize keyA ⟨t, h, r⟩ = R at *
  have HW : Hid (∀ u, Calls Try.prog 7 #[strA h] u fun e w' => e = .returned (.tuple #[strA (whoT h).1, strA (whoT h).2.1, .bool (whoT h).2.2]) ∧ Below u.heap.size u w') := fun u => xwho_any h hg u
  have HN : Hid (∀ u, Calls Try.prog 20 #[strA t] u fun e w' => e = .returned (.bool (nameA t)) ∧ Below u.heap.size u w') := fun u => xname_any t h1 u
  generalize whoT h = R3 at *
  obtain ⟨ho, ow, ok⟩ := R3
  simp only at HF HW
  generalize nameA t = nt at *
  have hb0 : Below w.heap.size w (w.alloc (.cells #[strA t, strA h, .int .i64 r] 33)) := (Below.refl _ _).alloc (Nat.le_refl _) _
  have HB0 := (show Hid _ from hb0)
  have HK : Hid ((w.alloc (.cells #[strA t, strA h, .int .i64 r] 33)).heap[w.heap.size]? = some (.cells #[strA t, strA h, .int .i64 r] 33 (0, 0))) := blk_new _ _ _
  have hcase : ∃ b, (ho == t) = b := ⟨_, rfl⟩
  obtain ⟨b, hb⟩ := hcase
  have hb2 : (ho != t) = !b := by rw [← hb]; rfl
  rw [hb] at HF
  clear hb0
  go_enter Try.func24, Try.ntmps24
  go_wp2_with (go_at_call 20; refine Calls.mono (HN.out _) ?_)
  rintro e u1 ⟨rfl, hb1⟩
  have HB1 := (show Hid (Below w.heap.size w u1) from HB0.out.trans (hb1.mono HB0.out.size))
  have hk := blk_belowA HK.out hb1
  have c0 : u1.cell? ⟨w.heap.size, 0, none⟩ = some (strA t) := cell_blkA hk (i := 0) rfl
  have c1 : u1.cell? ⟨w.heap.size, 1, none⟩ = some (strA h) := cell_blkA hk (i := 1) rfl
  have HK1 := (show Hid _ from hk)
  clear hb1 hk HK HB0 HN
  go_wp2_with (go_at_call 7; refine Calls.mono (HW.out _) ?_)
  rintro e u2 ⟨rfl, hb2'⟩
  have HB2 := (show Hid (Below w.heap.size w u2) from HB1.out.trans (hb2'.mono HB1.out.size))
  have hk := blk_belowA HK1.out hb2'
  have d0 : u2.cell? ⟨w.heap.size, 0, none⟩ = some (strA t) := cell_blkA hk (i := 0) rfl
  clear hb2' hk HK1 HB1 HW c0 c1
  cases nt
  · have hR : R = false := by rw [HF.out]; simp
    subst hR
    clear HF
    go_wp2
    go_ret
    exact ⟨rfl, HB2.out⟩
  · cases ok
    · have hR : R = false := by rw [HF.out]; simp
      subst hR
      clear HF
      go_wp2
      go_ret
      exact ⟨rfl, HB2.out⟩
    · have hR : R = !b := by rw [HF.out]; simp
      subst hR
      clear HF
      cases b
      all_goals
        go_wp2
        go_ret
        exact ⟨rfl, HB2.out⟩
end Go.Proofs.Ytocfdpjclmieiaa
