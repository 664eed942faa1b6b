/- The law's small case; walked. -/
import Derived.Test.YtkjicdldlnefeaaDoorNShown
set_option linter.unusedVariables false
namespace Go.Proofs.YtkjicdldlnefeaaDoor
open Go.RowKit

set_option maxHeartbeats 8000000 in
set_option maxRecDepth 8000 in
theorem nshown_any (w : World) : Calls Tryd.prog 9 #[] w fun e w' => e = .returned (.bool true) ∧ Below w.heap.size w w' := by
  have P1 : Hid (∀ u, Calls Tryd.prog 19 #[.string ⟨#[120]⟩, .int .i64 1, .string ⟨#[49, 10, 32, 123, 123, 105, 110, 99, 108, 117, 100, 101, 32, 97, 47, 121, 125, 125, 10, 50]⟩] u fun e w' => e = .returned (.agg #[.string ⟨#[97]⟩, .string ⟨#[120]⟩, .int .i64 1, .string ⟨#[49, 10, 32, 123, 123, 105, 110, 99, 108, 117, 100, 101, 32, 97, 47, 121, 125, 125, 10, 50]⟩]) ∧ Below u.heap.size u w') := fun u => npage_any [120] 1 shT u
  have P2 : Hid (∀ u, Calls Tryd.prog 19 #[.string ⟨#[121]⟩, .int .i64 2, .string ⟨#[110, 101, 119]⟩] u fun e w' => e = .returned (.agg #[.string ⟨#[97]⟩, .string ⟨#[121]⟩, .int .i64 2, .string ⟨#[110, 101, 119]⟩]) ∧ Below u.heap.size u w') := fun u => npage_any [121] 2 [110, 101, 119] u
  have P3 : Hid (∀ u, Calls Tryd.prog 19 #[.string ⟨#[121]⟩, .int .i64 1, .string ⟨#[111, 108, 100]⟩] u fun e w' => e = .returned (.agg #[.string ⟨#[97]⟩, .string ⟨#[121]⟩, .int .i64 1, .string ⟨#[111, 108, 100]⟩]) ∧ Below u.heap.size u w') := fun u => npage_any [121] 1 [111, 108, 100] u
  have htx : ∀ p ∈ shL, p.text.length ≤ 200000000 := fun p hp => by
    simp only [shL, List.mem_cons, List.not_mem_nil, or_false] at hp
    rcases hp with rfl | rfl | rfl <;> decide
  have X1 : Hid (∀ (u : World) (vp vm : Value), PgsN u vp shL → StrsN u vm [[97]] → Calls Tryd.prog 16 #[vp, vm, .agg #[.string ⟨#[97]⟩, .string ⟨#[120]⟩, .int .i64 0]] u fun e w' => (∃ v', e = .returned (.tuple #[.string ⟨#[49, 10, 110, 101, 119, 10, 50, 10]⟩, v', .int .i64 0]) ∧ w'.ownsRow u.heap.size 24 3 v' 1 (rfCs [⟨[97], [121], 2⟩])) ∧ Below u.heap.size u w') := fun u vp vm q1 q2 => by
    have := nexpand_any shL (by decide) htx [[97]] (by decide) ⟨[97], [120], 0⟩ vp vm u q1 q2
    rw [sh_one] at this
    exact this
  have X2 : Hid (∀ (u : World) (vp vm : Value), PgsN u vp shL → StrsN u vm [] → Calls Tryd.prog 16 #[vp, vm, .agg #[.string ⟨#[97]⟩, .string ⟨#[120]⟩, .int .i64 0]] u fun e w' => (∃ v', e = .returned (.tuple #[.string ⟨#[]⟩, v', .int .i64 6]) ∧ w'.ownsRow u.heap.size 24 3 v' 0 (rfCs [])) ∧ Below u.heap.size u w') := fun u vp vm q1 q2 => by
    have := nexpand_any shL (by decide) htx [] (by decide) ⟨[97], [120], 0⟩ vp vm u q1 q2
    rw [sh_two] at this
    exact this
  clear htx
  go_enter Tryd.func9, Tryd.ntmps9
  go_wp2_with (go_at_call 19; refine Calls.mono (P1.out _) ?_)
  rintro e wa1 ⟨rfl, hb1⟩
  have HB1 := (show Hid (Below w.heap.size w wa1) from hb1)
  clear hb1 P1
  go_wp2_with (go_at_call 19; refine Calls.mono (P2.out _) ?_)
  rintro e wa2 ⟨rfl, hb2⟩
  have HB2 := (show Hid (Below w.heap.size w wa2) from HB1.out.trans (hb2.mono HB1.out.size))
  clear hb2 P2 HB1
  go_wp2_with (go_at_call 19; refine Calls.mono (P3.out _) ?_)
  rintro e wa3 ⟨rfl, hb3⟩
  have HB3 := (show Hid (Below w.heap.size w wa3) from HB2.out.trans (hb3.mono HB2.out.size))
  clear hb3 P3 HB2
  obtain ⟨W4, hW4⟩ : ∃ W4, W4 = wa3.alloc (.cells #[.string ⟨#[97]⟩, .string ⟨#[120]⟩, .int .i64 1, .string ⟨#[49, 10, 32, 123, 123, 105, 110, 99, 108, 117, 100, 101, 32, 97, 47, 121, 125, 125, 10, 50]⟩, .string ⟨#[97]⟩, .string ⟨#[121]⟩, .int .i64 2, .string ⟨#[110, 101, 119]⟩, .string ⟨#[97]⟩, .string ⟨#[121]⟩, .int .i64 1, .string ⟨#[111, 108, 100]⟩] 38) := ⟨_, rfl⟩
  have hk4 : W4.heap[wa3.heap.size]? = some (.cells (pgCs shL).toArray 38 (0, 0)) := by rw [hW4]; exact blk_newN _ _ _
  have hb4 : Below w.heap.size w W4 := by rw [hW4]; exact HB3.out.alloc HB3.out.size _
  have hs4 : W4.heap.size = wa3.heap.size + 1 := by rw [hW4]; simp
  obtain ⟨W5, hW5⟩ : ∃ W5, W5 = W4.alloc (.cells #[.string ⟨#[97]⟩] 9) := ⟨_, rfl⟩
  have hk5 : W5.heap[wa3.heap.size + 1]? = some (.cells ([[97]].map strA).toArray 9 (0, 0)) := by rw [hW5, ← hs4]; exact blk_newN _ _ _
  have HB5 : Hid (Below w.heap.size w W5) := by show Below _ _ _; rw [hW5]; exact hb4.alloc hb4.size _
  have hk45 : W5.heap[wa3.heap.size]? = some (.cells (pgCs shL).toArray 38 (0, 0)) := by rw [hW5]; exact blk_allocN hk4 _
  have HP5 : Hid (PgsN W5 (.slice (some ⟨wa3.heap.size, 0, none⟩) 3 3) shL) := pgs_blk (l := shL) hk45
  have HS5 : Hid (StrsN W5 (.slice (some ⟨wa3.heap.size + 1, 0, none⟩) 1 1) [[97]]) := strs_blk (l := [[97]]) hk5
  have hX := X1.out W5 _ _ HP5.out HS5.out
  rw [hW5, hW4] at hX
  have HX := (show Hid _ from hX)
  clear hk4 hk45 hb4 hs4 hk5 hX X1 HS5
  go_wp2_with (go_at_call 16; refine Calls.mono HX.out ?_)
  rw [← hW4, ← hW5]
  rintro e wa6 ⟨⟨v6, rfl, h6⟩, hb6⟩
  have HB6 := (show Hid (Below w.heap.size w wa6) from HB5.out.trans (hb6.mono HB5.out.size))
  have HP6 := (show Hid (PgsN wa6 (.slice (some ⟨wa3.heap.size, 0, none⟩) 3 3) shL) from HP5.out.below hb6)
  have HX2 := (show Hid _ from X2.out wa6 _ (.slice none 0 0) HP6.out (strs_nil _ _ _))
  obtain ⟨a6, c6, hv6⟩ := nrow_len h6
  subst hv6
  have HR6 := (show Hid (RfsN wa6 (.slice a6 1 c6) [⟨[97], [121], 2⟩]) from rfs_row (l := [⟨[97], [121], 2⟩]) h6)
  clear hb6 h6 HX HB5 HP5 HP6 X2 hW4 hW5 HB3
  go_wp2_with (go_at_call 16; refine Calls.mono HX2.out ?_)
  rintro e wa7 ⟨⟨v7, rfl, h7⟩, hb7⟩
  have HB7 := (show Hid (Below w.heap.size w wa7) from HB6.out.trans (hb7.mono HB6.out.size))
  obtain ⟨a', c', e', hc⟩ := HR6.out.below hb7
  cases e'
  obtain ⟨b, o, ha, hbw, q0, q1, q2⟩ := hc 0 ⟨[97], [121], 2⟩ rfl
  subst ha
  have q0' : wa7.cell? ⟨b, o, none⟩ = some (.string ⟨#[97]⟩) := q0
  have q1' : wa7.cell? ⟨b, o + 1, none⟩ = some (.string ⟨#[121]⟩) := by have := q1; rwa [show o + 0 * 3 + 1 = o + 1 by omega] at this
  have q2' : wa7.cell? ⟨b, o + 2, none⟩ = some (.int .i64 2) := by have := q2; rwa [show o + 0 * 3 + 2 = o + 2 by omega] at this
  clear hb7 h7 hc q0 q1 q2 HX2 HR6 HB6
  go_wp2
  go_ret
  exact ⟨rfl, HB7.out⟩
end Go.Proofs.YtkjicdldlnefeaaDoor
