/- Scan (include); walked. -/
import Derived.Test.YtkjicdldlnefeaaDoorNNum
import Derived.Shelf.Strings.SlTrimAscii
import Derived.Laws.ResultCell
import Derived.BigQuiet
set_option linter.unusedVariables false
namespace Go.Proofs.YtkjicdldlnefeaaDoor
open Go.RowKit

abbrev aggR (r : RfA) : Value := .agg #[strA r.tenant, strA r.doc, .int .i64 r.ver]
theorem blk_newN (w : World) (cs : Array Value) (t : TypeId) : (w.alloc (.cells cs t)).heap[w.heap.size]? = some (.cells cs t (0, 0)) := heap_alloc_new w (.cells cs t)
theorem cell_blkN {w : World} {b : Nat} {cs : Array Value} {t : TypeId} (h : w.heap[b]? = some (.cells cs t (0, 0))) {i : Nat} {v : Value} (hi : cs[i]? = some v) : w.cell? ⟨b, i, none⟩ = some v := by
  simp [World.cell?, h, hi]
theorem free_blkN {w : World} {b : Nat} {cs : Array Value} {t : TypeId} (h : w.heap[b]? = some (.cells cs t (0, 0))) (i : Nat) : w.frozen? ⟨b, i, none⟩ = false := by
  simp [World.frozen?, h]
theorem blk_belowN {w w' : World} {b : Nat} {o : Obj} (h : w.heap[b]? = some o) (hb : Below w.heap.size w w') : w'.heap[b]? = some o := (hb.block b (Array.getElem?_eq_some_iff.1 h).1).trans h
theorem set_blkN {w : World} {b : Nat} {cs : Array Value} {t : TypeId} (h : w.heap[b]? = some (.cells cs t (0, 0))) (i : Nat) (u : Value) : (w.setCell ⟨b, i, none⟩ u).heap[b]? = some (.cells (cs.setIfInBounds i u) t (0, 0)) := heap_setCell_same w b i cs t u h

theorem ntrim_any (s : StrA) (hs : s.length ≤ 9223372036854775000) (w : World) : Calls Tryd.prog 21 #[strA s, .string ⟨#[32, 9]⟩] w fun e w' => e = .returned (strA (scan1 s)) ∧ Below w.heap.size w w' := by
  have := Go.Proofs.Any.strings_Trim_laid Tryd.lays160 (by kernel_rfl) ⟨s.toArray⟩ ⟨#[32, 9]⟩ w (by rw [size_list]; omega) (by decide) (Go.Proofs.ascii_of_all (by decide))
  rw [list_data] at this
  exact this
theorem npre_any (s : StrA) (w : World) : Calls Tryd.prog 20 #[strA s, .string ⟨#[123, 123, 105, 110, 99, 108, 117, 100, 101, 32]⟩] w fun e w' => e = .returned (.tuple #[strA (Lib.trimPrefix s incP), .bool (Lib.hasPrefix s incP)]) ∧ w' = w := by
  have := Tryd.strings_CutPrefix ⟨s.toArray⟩ ⟨#[123, 123, 105, 110, 99, 108, 117, 100, 101, 32]⟩ w
  rw [list_data] at this
  exact this
theorem nsuf_any (s : StrA) (hs : s.length ≤ 9223372036854775000) (w : World) : Calls Tryd.prog 22 #[strA s, .string ⟨#[125, 125]⟩] w fun e w' => e = .returned (.tuple #[strA (Lib.trimSuffix s incE), .bool (Lib.hasSuffix s incE)]) ∧ w' = w := by
  have := Tryd.strings_CutSuffix ⟨s.toArray⟩ ⟨#[125, 125]⟩ w (by rw [size_list]; omega)
  rw [list_data] at this
  exact this

set_option maxHeartbeats 4000000 in
set_option maxRecDepth 8000 in
theorem nscan_any (s : StrA) (hs : s.length ≤ 9223372036854775000) (w : World) : Calls Tryd.prog 10 #[strA s] w fun e w' => e = .returned (.tuple #[aggR (scanA s).1, .bool (scanA s).2]) ∧ Below w.heap.size w w' := by
  have HT : Hid (∀ u, Calls Tryd.prog 21 #[strA s, .string ⟨#[32, 9]⟩] u fun e w' => e = .returned (strA (scan1 s)) ∧ Below u.heap.size u w') := fun u => ntrim_any s hs u
  have HP : Hid (∀ u, Calls Tryd.prog 20 #[strA (scan1 s), .string ⟨#[123, 123, 105, 110, 99, 108, 117, 100, 101, 32]⟩] u fun e w' => e = .returned (.tuple #[strA (scan2 s), .bool (Lib.hasPrefix (scan1 s) incP)]) ∧ w' = u) := fun u => npre_any (scan1 s) u
  have HSf : Hid (∀ u, Calls Tryd.prog 22 #[strA (scan2 s), .string ⟨#[125, 125]⟩] u fun e w' => e = .returned (.tuple #[strA (scan3 s), .bool (Lib.hasSuffix (scan2 s) incE)]) ∧ w' = u) := fun u => nsuf_any (scan2 s) (Nat.le_trans (scan2_len s) hs) u
  have HC1 : Hid (∀ u, Calls Tryd.prog 23 #[strA (scan3 s), .string ⟨#[47]⟩] u fun e w' => e = .returned (.tuple #[strA (scan4 s).1, strA (scan4 s).2.1, .bool (scan4 s).2.2]) ∧ Below u.heap.size u w') := fun u => ncut_any 47 (scan3 s) (Nat.le_trans (scan3_len s) hs) u
  have HC2 : Hid (∀ u, Calls Tryd.prog 23 #[strA (scan4 s).2.1, .string ⟨#[64]⟩] u fun e w' => e = .returned (.tuple #[strA (scan5 s).1, strA (scan5 s).2.1, .bool (scan5 s).2.2]) ∧ Below u.heap.size u w') := fun u => ncut_any 64 (scan4 s).2.1 (Nat.le_trans (cutC_len 47 (scan3 s)).2 (Nat.le_trans (scan3_len s) hs)) u
  have HN1 : Hid (∀ u, Calls Tryd.prog 12 #[strA (scan4 s).1] u fun e w' => e = .returned (.bool (nameA (scan4 s).1)) ∧ w' = u) := fun u => aname_any _ u
  have HN2 : Hid (∀ u, Calls Tryd.prog 12 #[strA (scan5 s).1] u fun e w' => e = .returned (.bool (nameA (scan5 s).1)) ∧ w' = u) := fun u => aname_any _ u
  have HNu : Hid (∀ u, Calls Tryd.prog 24 #[strA (scan5 s).2.1] u fun e w' => e = .returned (.tuple #[.int .i64 (numberA (scan5 s).2.1).1, .bool (numberA (scan5 s).2.1).2]) ∧ w' = u) := fun u => nnumber_any _ u
  have HOk : Hid (scanOk s = (Lib.hasPrefix (scan1 s) incP && Lib.hasSuffix (scan2 s) incE && (scan4 s).2.2 && nameA (scan4 s).1 && nameA (scan5 s).1)) := rfl
  have HSc : Hid (scanA s = if scanOk s = false then ({}, false) else if (scan5 s).2.2 = false then (⟨(scan4 s).1, (scan5 s).1, 0⟩, true) else if (numberA (scan5 s).2.1).2 = false then ({}, false) else (⟨(scan4 s).1, (scan5 s).1, (numberA (scan5 s).2.1).1⟩, true)) := rfl
  rw [HOk.out] at HSc
  have HA1 : Hid (Below w.heap.size w (w.alloc (.cells #[.string ⟨#[]⟩, .string ⟨#[]⟩, .int .i64 0] 24))) := (Below.refl _ _).alloc (Nat.le_refl _) _
  have HKB : Hid ((w.alloc (.cells #[.string ⟨#[]⟩, .string ⟨#[]⟩, .int .i64 0] 24)).heap[w.heap.size]? = some (.cells #[.string ⟨#[]⟩, .string ⟨#[]⟩, .int .i64 0] 24 (0, 0))) := blk_newN _ _ _
  clear HOk hs
  generalize Lib.hasPrefix (scan1 s) incP = B1 at *
  generalize Lib.hasSuffix (scan2 s) incE = B2 at *
  generalize scan1 s = S1 at *
  generalize scan2 s = S2 at *
  generalize scan3 s = S3 at *
  generalize scan5 s = P5 at *
  generalize scan4 s = P4 at *
  obtain ⟨T, R, B3⟩ := P4
  obtain ⟨D, G, B4⟩ := P5
  simp only at HC1 HC2 HN1 HN2 HNu HSc
  generalize nameA T = N1 at *
  generalize nameA D = N2 at *
  generalize numberA G = PG at *
  obtain ⟨V, B5⟩ := PG
  simp only at HNu HSc
  go_enter Tryd.func10, Tryd.ntmps10
  go_wp2_with (go_at_call 21; refine Calls.mono (HT.out _) ?_)
  rintro e wa1 ⟨rfl, hb1⟩
  have HB1 := (show Hid (Below (w.alloc (.cells #[.string ⟨#[]⟩, .string ⟨#[]⟩, .int .i64 0] 24)).heap.size (w.alloc (.cells #[.string ⟨#[]⟩, .string ⟨#[]⟩, .int .i64 0] 24)) wa1) from hb1)
  clear hb1 HT
  go_wp2_with (go_at_call 20; refine Calls.mono (HP.out _) ?_)
  rintro e wa2 ⟨rfl, hb2⟩
  subst hb2
  clear HP
  go_wp2_with (go_at_call 22; refine Calls.mono (HSf.out _) ?_)
  rintro e wa3 ⟨rfl, hb3⟩
  subst hb3
  clear HSf
  go_wp2_with (go_at_call 23; refine Calls.mono (HC1.out _) ?_)
  rintro e wa4 ⟨rfl, hb4⟩
  have HB4 := (show Hid (Below (w.alloc (.cells #[.string ⟨#[]⟩, .string ⟨#[]⟩, .int .i64 0] 24)).heap.size (w.alloc (.cells #[.string ⟨#[]⟩, .string ⟨#[]⟩, .int .i64 0] 24)) wa4) from HB1.out.trans (hb4.mono HB1.out.size))
  clear hb4 HC1 HB1
  go_wp2_with (go_at_call 23; refine Calls.mono (HC2.out _) ?_)
  rintro e wa5 ⟨rfl, hb5⟩
  have HBx := (show Hid (Below (w.alloc (.cells #[.string ⟨#[]⟩, .string ⟨#[]⟩, .int .i64 0] 24)).heap.size (w.alloc (.cells #[.string ⟨#[]⟩, .string ⟨#[]⟩, .int .i64 0] 24)) wa5) from HB4.out.trans (hb5.mono HB4.out.size))
  clear hb5 HC2 HB4
  cases B1
  · have HS := (show Hid (scanA s = ({}, false)) from by show _ = _; rw [HSc.out]; simp)
    clear HSc HN1 HN2 HNu
    have hk := blk_belowN HKB.out HBx.out
    have f0 : wa5.frozen? ⟨w.heap.size, 0, none⟩ = false := free_blkN hk 0
    have f1 : wa5.frozen? ⟨w.heap.size, 1, none⟩ = false := free_blkN hk 1
    have f2 : wa5.frozen? ⟨w.heap.size, 2, none⟩ = false := free_blkN hk 2
    have k0 := cell_blkN hk (i := 0) (v := .string ⟨#[]⟩) rfl
    have k1 := cell_blkN hk (i := 1) (v := .string ⟨#[]⟩) rfl
    have k2 := cell_blkN hk (i := 2) (v := .int .i64 0) rfl
    have HK := (show Hid _ from hk)
    clear hk
    go_wp2
    (try simp only [Exit.inBlock, Exit.then])
    have hB3 := set_blkN (set_blkN (set_blkN HK.out 0 (.string ⟨#[]⟩)) 1 (.string ⟨#[]⟩)) 2 (.int .i64 0)
    have d0 := cell_blkN hB3 (i := 0) (v := .string ⟨#[]⟩) rfl
    have d1 := cell_blkN hB3 (i := 1) (v := .string ⟨#[]⟩) rfl
    have d2 := cell_blkN hB3 (i := 2) (v := .int .i64 0) rfl
    refine bodyPost_ret (v := .tuple #[.agg #[.string ⟨#[]⟩, .string ⟨#[]⟩, .int .i64 0], .bool false]) ?_ rfl ⟨?_, ?_⟩
    · rw [results_cell_tmp rfl]
      go_simp
    · rw [HS.out]
    · exact ((HA1.out.trans (HBx.out.mono HA1.out.size)).setCell (Nat.le_refl _) _ |>.setCell (Nat.le_refl _) _ |>.setCell (Nat.le_refl _) _)
  cases B2
  · have HS := (show Hid (scanA s = ({}, false)) from by show _ = _; rw [HSc.out]; simp)
    clear HSc HN1 HN2 HNu
    have hk := blk_belowN HKB.out HBx.out
    have f0 : wa5.frozen? ⟨w.heap.size, 0, none⟩ = false := free_blkN hk 0
    have f1 : wa5.frozen? ⟨w.heap.size, 1, none⟩ = false := free_blkN hk 1
    have f2 : wa5.frozen? ⟨w.heap.size, 2, none⟩ = false := free_blkN hk 2
    have k0 := cell_blkN hk (i := 0) (v := .string ⟨#[]⟩) rfl
    have k1 := cell_blkN hk (i := 1) (v := .string ⟨#[]⟩) rfl
    have k2 := cell_blkN hk (i := 2) (v := .int .i64 0) rfl
    have HK := (show Hid _ from hk)
    clear hk
    go_wp2
    (try simp only [Exit.inBlock, Exit.then])
    have hB3 := set_blkN (set_blkN (set_blkN HK.out 0 (.string ⟨#[]⟩)) 1 (.string ⟨#[]⟩)) 2 (.int .i64 0)
    have d0 := cell_blkN hB3 (i := 0) (v := .string ⟨#[]⟩) rfl
    have d1 := cell_blkN hB3 (i := 1) (v := .string ⟨#[]⟩) rfl
    have d2 := cell_blkN hB3 (i := 2) (v := .int .i64 0) rfl
    refine bodyPost_ret (v := .tuple #[.agg #[.string ⟨#[]⟩, .string ⟨#[]⟩, .int .i64 0], .bool false]) ?_ rfl ⟨?_, ?_⟩
    · rw [results_cell_tmp rfl]
      go_simp
    · rw [HS.out]
    · exact ((HA1.out.trans (HBx.out.mono HA1.out.size)).setCell (Nat.le_refl _) _ |>.setCell (Nat.le_refl _) _ |>.setCell (Nat.le_refl _) _)
  cases B3
  · have HS := (show Hid (scanA s = ({}, false)) from by show _ = _; rw [HSc.out]; simp)
    clear HSc HN1 HN2 HNu
    have hk := blk_belowN HKB.out HBx.out
    have f0 : wa5.frozen? ⟨w.heap.size, 0, none⟩ = false := free_blkN hk 0
    have f1 : wa5.frozen? ⟨w.heap.size, 1, none⟩ = false := free_blkN hk 1
    have f2 : wa5.frozen? ⟨w.heap.size, 2, none⟩ = false := free_blkN hk 2
    have k0 := cell_blkN hk (i := 0) (v := .string ⟨#[]⟩) rfl
    have k1 := cell_blkN hk (i := 1) (v := .string ⟨#[]⟩) rfl
    have k2 := cell_blkN hk (i := 2) (v := .int .i64 0) rfl
    have HK := (show Hid _ from hk)
    clear hk
    go_wp2
    (try simp only [Exit.inBlock, Exit.then])
    have hB3 := set_blkN (set_blkN (set_blkN HK.out 0 (.string ⟨#[]⟩)) 1 (.string ⟨#[]⟩)) 2 (.int .i64 0)
    have d0 := cell_blkN hB3 (i := 0) (v := .string ⟨#[]⟩) rfl
    have d1 := cell_blkN hB3 (i := 1) (v := .string ⟨#[]⟩) rfl
    have d2 := cell_blkN hB3 (i := 2) (v := .int .i64 0) rfl
    refine bodyPost_ret (v := .tuple #[.agg #[.string ⟨#[]⟩, .string ⟨#[]⟩, .int .i64 0], .bool false]) ?_ rfl ⟨?_, ?_⟩
    · rw [results_cell_tmp rfl]
      go_simp
    · rw [HS.out]
    · exact ((HA1.out.trans (HBx.out.mono HA1.out.size)).setCell (Nat.le_refl _) _ |>.setCell (Nat.le_refl _) _ |>.setCell (Nat.le_refl _) _)
  go_wp2_with (go_at_call 12; refine Calls.mono (HN1.out _) ?_)
  rintro e wa6 ⟨rfl, hb6⟩
  subst hb6
  clear HN1
  cases N1
  · have HS := (show Hid (scanA s = ({}, false)) from by show _ = _; rw [HSc.out]; simp)
    clear HSc HN2 HNu
    have hk := blk_belowN HKB.out HBx.out
    have f0 : wa6.frozen? ⟨w.heap.size, 0, none⟩ = false := free_blkN hk 0
    have f1 : wa6.frozen? ⟨w.heap.size, 1, none⟩ = false := free_blkN hk 1
    have f2 : wa6.frozen? ⟨w.heap.size, 2, none⟩ = false := free_blkN hk 2
    have k0 := cell_blkN hk (i := 0) (v := .string ⟨#[]⟩) rfl
    have k1 := cell_blkN hk (i := 1) (v := .string ⟨#[]⟩) rfl
    have k2 := cell_blkN hk (i := 2) (v := .int .i64 0) rfl
    have HK := (show Hid _ from hk)
    clear hk
    go_wp2
    (try simp only [Exit.inBlock, Exit.then])
    have hB3 := set_blkN (set_blkN (set_blkN HK.out 0 (.string ⟨#[]⟩)) 1 (.string ⟨#[]⟩)) 2 (.int .i64 0)
    have d0 := cell_blkN hB3 (i := 0) (v := .string ⟨#[]⟩) rfl
    have d1 := cell_blkN hB3 (i := 1) (v := .string ⟨#[]⟩) rfl
    have d2 := cell_blkN hB3 (i := 2) (v := .int .i64 0) rfl
    refine bodyPost_ret (v := .tuple #[.agg #[.string ⟨#[]⟩, .string ⟨#[]⟩, .int .i64 0], .bool false]) ?_ rfl ⟨?_, ?_⟩
    · rw [results_cell_tmp rfl]
      go_simp
    · rw [HS.out]
    · exact ((HA1.out.trans (HBx.out.mono HA1.out.size)).setCell (Nat.le_refl _) _ |>.setCell (Nat.le_refl _) _ |>.setCell (Nat.le_refl _) _)
  go_wp2_with (go_at_call 12; refine Calls.mono (HN2.out _) ?_)
  rintro e wa7 ⟨rfl, hb7⟩
  subst hb7
  clear HN2
  cases N2
  · have HS := (show Hid (scanA s = ({}, false)) from by show _ = _; rw [HSc.out]; simp)
    clear HSc HNu
    have hk := blk_belowN HKB.out HBx.out
    have f0 : wa7.frozen? ⟨w.heap.size, 0, none⟩ = false := free_blkN hk 0
    have f1 : wa7.frozen? ⟨w.heap.size, 1, none⟩ = false := free_blkN hk 1
    have f2 : wa7.frozen? ⟨w.heap.size, 2, none⟩ = false := free_blkN hk 2
    have k0 := cell_blkN hk (i := 0) (v := .string ⟨#[]⟩) rfl
    have k1 := cell_blkN hk (i := 1) (v := .string ⟨#[]⟩) rfl
    have k2 := cell_blkN hk (i := 2) (v := .int .i64 0) rfl
    have HK := (show Hid _ from hk)
    clear hk
    go_wp2
    (try simp only [Exit.inBlock, Exit.then])
    have hB3 := set_blkN (set_blkN (set_blkN HK.out 0 (.string ⟨#[]⟩)) 1 (.string ⟨#[]⟩)) 2 (.int .i64 0)
    have d0 := cell_blkN hB3 (i := 0) (v := .string ⟨#[]⟩) rfl
    have d1 := cell_blkN hB3 (i := 1) (v := .string ⟨#[]⟩) rfl
    have d2 := cell_blkN hB3 (i := 2) (v := .int .i64 0) rfl
    refine bodyPost_ret (v := .tuple #[.agg #[.string ⟨#[]⟩, .string ⟨#[]⟩, .int .i64 0], .bool false]) ?_ rfl ⟨?_, ?_⟩
    · rw [results_cell_tmp rfl]
      go_simp
    · rw [HS.out]
    · exact ((HA1.out.trans (HBx.out.mono HA1.out.size)).setCell (Nat.le_refl _) _ |>.setCell (Nat.le_refl _) _ |>.setCell (Nat.le_refl _) _)
  cases B4
  · have HS := (show Hid (scanA s = (⟨T, D, 0⟩, true)) from by show _ = _; rw [HSc.out]; simp)
    clear HSc HNu
    have hk := blk_belowN HKB.out HBx.out
    have f0 : wa7.frozen? ⟨w.heap.size, 0, none⟩ = false := free_blkN hk 0
    have f1 : wa7.frozen? ⟨w.heap.size, 1, none⟩ = false := free_blkN hk 1
    have f2 : wa7.frozen? ⟨w.heap.size, 2, none⟩ = false := free_blkN hk 2
    have k0 := cell_blkN hk (i := 0) (v := .string ⟨#[]⟩) rfl
    have k1 := cell_blkN hk (i := 1) (v := .string ⟨#[]⟩) rfl
    have k2 := cell_blkN hk (i := 2) (v := .int .i64 0) rfl
    have HK := (show Hid _ from hk)
    clear hk
    go_wp2
    (try simp only [Exit.inBlock, Exit.then])
    have hB3 := set_blkN (set_blkN (set_blkN HK.out 0 (strA T)) 1 (strA D)) 2 (.int .i64 0)
    have d0 := cell_blkN hB3 (i := 0) (v := strA T) rfl
    have d1 := cell_blkN hB3 (i := 1) (v := strA D) rfl
    have d2 := cell_blkN hB3 (i := 2) (v := .int .i64 0) rfl
    refine bodyPost_ret (v := .tuple #[.agg #[strA T, strA D, .int .i64 0], .bool true]) ?_ rfl ⟨?_, ?_⟩
    · rw [results_cell_tmp rfl]
      go_simp
    · rw [HS.out]
    · exact ((HA1.out.trans (HBx.out.mono HA1.out.size)).setCell (Nat.le_refl _) _ |>.setCell (Nat.le_refl _) _ |>.setCell (Nat.le_refl _) _)
  go_wp2_with (go_at_call 24; refine Calls.mono (HNu.out _) ?_)
  rintro e wa8 ⟨rfl, hb8⟩
  subst hb8
  clear HNu
  cases B5
  · have HS := (show Hid (scanA s = ({}, false)) from by show _ = _; rw [HSc.out]; simp)
    clear HSc
    have hk := blk_belowN HKB.out HBx.out
    have f0 : wa8.frozen? ⟨w.heap.size, 0, none⟩ = false := free_blkN hk 0
    have f1 : wa8.frozen? ⟨w.heap.size, 1, none⟩ = false := free_blkN hk 1
    have f2 : wa8.frozen? ⟨w.heap.size, 2, none⟩ = false := free_blkN hk 2
    have k0 := cell_blkN hk (i := 0) (v := .string ⟨#[]⟩) rfl
    have k1 := cell_blkN hk (i := 1) (v := .string ⟨#[]⟩) rfl
    have k2 := cell_blkN hk (i := 2) (v := .int .i64 0) rfl
    have HK := (show Hid _ from hk)
    clear hk
    go_wp2
    (try simp only [Exit.inBlock, Exit.then])
    have hB3 := set_blkN (set_blkN (set_blkN HK.out 0 (.string ⟨#[]⟩)) 1 (.string ⟨#[]⟩)) 2 (.int .i64 0)
    have d0 := cell_blkN hB3 (i := 0) (v := .string ⟨#[]⟩) rfl
    have d1 := cell_blkN hB3 (i := 1) (v := .string ⟨#[]⟩) rfl
    have d2 := cell_blkN hB3 (i := 2) (v := .int .i64 0) rfl
    refine bodyPost_ret (v := .tuple #[.agg #[.string ⟨#[]⟩, .string ⟨#[]⟩, .int .i64 0], .bool false]) ?_ rfl ⟨?_, ?_⟩
    · rw [results_cell_tmp rfl]
      go_simp
    · rw [HS.out]
    · exact ((HA1.out.trans (HBx.out.mono HA1.out.size)).setCell (Nat.le_refl _) _ |>.setCell (Nat.le_refl _) _ |>.setCell (Nat.le_refl _) _)
  · have HS := (show Hid (scanA s = (⟨T, D, V⟩, true)) from by show _ = _; rw [HSc.out]; simp)
    clear HSc
    have hk := blk_belowN HKB.out HBx.out
    have f0 : wa8.frozen? ⟨w.heap.size, 0, none⟩ = false := free_blkN hk 0
    have f1 : wa8.frozen? ⟨w.heap.size, 1, none⟩ = false := free_blkN hk 1
    have f2 : wa8.frozen? ⟨w.heap.size, 2, none⟩ = false := free_blkN hk 2
    have k0 := cell_blkN hk (i := 0) (v := .string ⟨#[]⟩) rfl
    have k1 := cell_blkN hk (i := 1) (v := .string ⟨#[]⟩) rfl
    have k2 := cell_blkN hk (i := 2) (v := .int .i64 0) rfl
    have HK := (show Hid _ from hk)
    clear hk
    go_wp2
    (try simp only [Exit.inBlock, Exit.then])
    have hB3 := set_blkN (set_blkN (set_blkN HK.out 0 (strA T)) 1 (strA D)) 2 (.int .i64 V)
    have d0 := cell_blkN hB3 (i := 0) (v := strA T) rfl
    have d1 := cell_blkN hB3 (i := 1) (v := strA D) rfl
    have d2 := cell_blkN hB3 (i := 2) (v := .int .i64 V) rfl
    refine bodyPost_ret (v := .tuple #[.agg #[strA T, strA D, .int .i64 V], .bool true]) ?_ rfl ⟨?_, ?_⟩
    · rw [results_cell_tmp rfl]
      go_simp
    · rw [HS.out]
    · exact ((HA1.out.trans (HBx.out.mono HA1.out.size)).setCell (Nat.le_refl _) _ |>.setCell (Nat.le_refl _) _ |>.setCell (Nat.le_refl _) _)
end Go.Proofs.YtkjicdldlnefeaaDoor
