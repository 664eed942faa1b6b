/- IncludeScans: a line includes one document, or none; walked. -/
import Derived.Test.YtkjicdldlnefeaaDoorYScan
set_option linter.unusedVariables false
namespace Go.Proofs.YtkjicdldlnefeaaDoor
open Go.RowKit

set_option maxHeartbeats 16000000 in
set_option maxRecDepth 8000 in
theorem wscans (s : StrA) (hs : s.length ≤ 9223372036854775000) (w : World) :
    Calls Tryd.prog 3 #[strA s] w fun e w' => e = .returned (.bool true) ∧ Below w.heap.size w w' := by
  have HS : Hid (∀ u, Calls Tryd.prog 9 #[] u fun e w' => e = .returned (.bool true) ∧ Below u.heap.size u w') := fun u => nshown_any u
  have X1 := (show Hid (∀ u, Calls Tryd.prog 10 #[strA s] u fun e w' => e = .returned (.tuple #[.agg #[strA (scanA s).1.tenant, strA (scanA s).1.doc, .int .i64 (scanA s).1.ver], .bool (scanA s).2]) ∧ Below u.heap.size u w') from fun u => nscan_any s hs u)
  have X2 := (show Hid (∀ u, Calls Tryd.prog 11 #[strA s] u fun e w' => e = .returned (.tuple #[.agg #[strA (scanA s).1.tenant, strA (scanA s).1.doc, .int .i64 (scanA s).1.ver], .bool (scanA s).2]) ∧ Below u.heap.size u w') from fun u => yscan_any s hs u)
  have N1 := (show Hid (∀ u, Calls Tryd.prog 12 #[strA s] u fun e w' => e = .returned (.bool (nameA s)) ∧ w' = u) from fun u => aname_any s u)
  have N2 := (show Hid (∀ u, Calls Tryd.prog 13 #[strA s] u fun e w' => e = .returned (.bool (nameA s)) ∧ Below u.heap.size u w') from fun u => xname_any s hs u)
  generalize scanA s = R at *
  obtain ⟨⟨t, d, v⟩, q⟩ := R
  simp only at X1 X2
  generalize nameA s = nm at *
  have e1 : (t == t) = true := by simp
  have e2 : (d == d) = true := by simp
  clear hs
  go_enter Tryd.func3, Tryd.ntmps3
  go_wp2_with (go_at_call 9; refine Calls.mono (HS.out _) ?_)
  first | (intro e wb he hb1; subst he) | (rintro e wb ⟨rfl, hb1⟩)
  have HB1 := (show Hid (Below w.heap.size w wb) from hb1)
  clear hb1 HS
  go_wp2_with (go_at_call 10; refine Calls.mono (X1.out _) ?_)
  first | (intro e wc he hb2; subst he) | (rintro e wc ⟨rfl, hb2⟩)
  have HB2 := (show Hid (Below w.heap.size w wc) from HB1.out.trans (hb2.mono HB1.out.size))
  clear hb2 X1 HB1
  obtain ⟨W5, hW5⟩ : ∃ W5, W5 = wc.alloc (.cells #[strA t, strA d, .int .i64 v] 24) := ⟨_, rfl⟩
  have hk5 : W5.heap[wc.heap.size]? = some (.cells #[strA t, strA d, .int .i64 v] 24 (0, 0)) := by rw [hW5]; exact blk_newN _ _ _
  have HB5 : Hid (Below w.heap.size w W5) := by show Below _ _ _; rw [hW5]; exact HB2.out.alloc HB2.out.size _
  have hX := X2.out W5
  rw [hW5] at hX
  have HX := (show Hid _ from hX)
  have HK5 := (show Hid _ from hk5)
  have HSZ : Hid (wc.heap.size + 1 = W5.heap.size) := by show _ = _; rw [hW5]; simp
  clear hX hk5 X2
  go_wp2_with (go_at_call 11; refine Calls.mono HX.out ?_)
  rw [← hW5]
  first | (intro e wd he hb3; subst he) | (rintro e wd ⟨rfl, hb3⟩)
  (try rw [HSZ.out] at hb3)
  have HB3 := (show Hid (Below w.heap.size w wd) from HB5.out.trans (hb3.mono HB5.out.size))
  have hk := blk_belowN HK5.out hb3
  have hA := blk_allocN hk (.cells #[strA t, strA d, .int .i64 v] 24)
  have g0 := cell_blkN hA (i := 0) (v := strA t) rfl
  have g1 := cell_blkN hA (i := 1) (v := strA d) rfl
  have g2 := cell_blkN hA (i := 2) (v := .int .i64 v) rfl
  have hN := blk_newN wd #[strA t, strA d, .int .i64 v] 24
  have k0 := cell_blkN hN (i := 0) (v := strA t) rfl
  have k1 := cell_blkN hN (i := 1) (v := strA d) rfl
  have k2 := cell_blkN hN (i := 2) (v := .int .i64 v) rfl
  have HB6 := (show Hid (Below w.heap.size w (wd.alloc (.cells #[strA t, strA d, .int .i64 v] 24))) from HB3.out.alloc HB3.out.size _)
  clear hb3 hk hA hN HX HK5 HB5 HSZ hW5 HB3
  cases q
  all_goals
    go_wp2_with (go_at_call 12; refine Calls.mono (N1.out _) ?_)
    first | (intro e we he hb4; subst he) | (rintro e we ⟨rfl, hb4⟩)
    subst hb4
    go_wp2_with (go_at_call 13; refine Calls.mono (N2.out _) ?_)
    first | (intro e wf he hb5; subst he) | (rintro e wf ⟨rfl, hb5⟩)
    have HB7 := (show Hid (Below w.heap.size w wf) from HB6.out.trans (Below.mono (by first | exact hb5 | (simp at hb5 ⊢; exact hb5)) HB6.out.size))
    clear hb5
    go_wp2
    go_ret
    exact ⟨by first | rfl | simp, HB7.out⟩
end Go.Proofs.YtkjicdldlnefeaaDoor
