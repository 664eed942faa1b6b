/- Scan of the document's answer (layer 10); walked. -/
import Derived.Test.YtkjicdldlnefeaaDoorYTrim
import Derived.Test.YtkjicdldlnefeaaDoorPlainScan2
import Derived.Laws.ResultCell
import Derived.BigQuiet
set_option linter.unusedVariables false
namespace Go.Proofs.YtkjicdldlnefeaaDoor
open Go.RowKit

set_option maxHeartbeats 16000000 in
set_option maxRecDepth 8000 in
theorem yscan_any (s : StrA) (hs : s.length ≤ 9223372036854775000) (w : World) : Calls Tryd.prog 11 #[strA s] w fun e w' => e = .returned (.tuple #[aggR (scanA s).1, .bool (scanA s).2]) ∧ Below w.heap.size w w' := by
  have HT := (show Hid (∀ u, Calls Tryd.prog 25 #[strA s] u fun e w' => e = .returned (strA (scan1 s)) ∧ Below u.heap.size u w') from fun u => ytrim_any s hs u)
  have HA1 : Hid (Below w.heap.size w (w.alloc (.cells #[.string ⟨#[]⟩, .string ⟨#[]⟩, .int .i64 0] 24))) := (Below.refl _ _).alloc (Nat.le_refl _) _
  have HKB : Hid ((w.alloc (.cells #[.string ⟨#[]⟩, .string ⟨#[]⟩, .int .i64 0] 24)).heap[w.heap.size]? = some (.cells #[.string ⟨#[]⟩, .string ⟨#[]⟩, .int .i64 0] 24 (0, 0))) := blk_newN _ _ _
  have hSl : (scan1 s).length ≤ 9223372036854775000 := Nat.le_trans (trim_len s) hs
  obtain ⟨S, hS1⟩ : ∃ S, scan1 s = S := ⟨_, rfl⟩
  rw [hS1] at HT hSl
  have hSi : (S.length : Int) ≤ 9223372036854775000 := by omega
  go_enter Tryd.func11, Tryd.ntmps11
  go_wp2_with (go_at_call 25; refine Calls.mono (HT.out _) ?_)
  first | (intro e wx he hb1; subst he) | (rintro e wx ⟨rfl, hb1⟩)
  have HBx := (show Hid (Below (w.alloc (.cells #[.string ⟨#[]⟩, .string ⟨#[]⟩, .int .i64 0] 24)).heap.size (w.alloc (.cells #[.string ⟨#[]⟩, .string ⟨#[]⟩, .int .i64 0] 24)) wx) from hb1)
  clear hb1 HT
  by_cases hin : scIn S
  · have HIn := (show Hid (scIn (scan1 s)) from (by rw [hS1]; exact hin))
    obtain ⟨i1, i2, i3⟩ := hin
    obtain ⟨U, hUd⟩ : ∃ U, U = scU S := ⟨_, rfl⟩
    have HU := (show Hid (scU (scan1 s) = U) from (by show _ = _; rw [hS1, hUd]))
    have j1 : ¬ (S.length : Int) < 12 := by omega
    have e1 : (ByteArray.mk S.toArray).extract 0 10 = ⟨#[123, 123, 105, 110, 99, 108, 117, 100, 101, 32]⟩ := by rw [extract_eq, list_data]; show ByteArray.mk (S.take 10).toArray = _; rw [i2]; rfl
    have e2 : (ByteArray.mk S.toArray).extract (S.length - 2) S.length = ⟨#[125, 125]⟩ := by
      have := extract_end (ByteArray.mk S.toArray) (S.length - 2)
      rw [size_list, list_data, i3] at this
      exact this
    have e3 : (ByteArray.mk S.toArray).extract 10 (S.length - 2) = ⟨U.toArray⟩ := by rw [extract_eq, list_data, hUd]; rfl
    have hlS : (S.length : Int) - 2 = ((S.length - 2 : Nat) : Int) := by omega
    have hUl : U.length ≤ 9223372036854775000 := by rw [hUd]; unfold scU; rw [List.length_take, List.length_drop]; omega
    have hUi : (U.length : Int) ≤ 9223372036854775000 := by omega
    clear i2 i3 hUd hS1
    obtain ⟨M, hM⟩ : ∃ M, M = S.length - 2 := ⟨_, rfl⟩
    have hMl : M + 2 = S.length := by omega
    rw [← hM] at e2 e3 hlS
    have hM10 : 10 ≤ M := by omega
    have hMi : (10 : Int) ≤ (M : Int) := by omega
    have hMi2 : (M : Int) ≤ (S.length : Int) := by omega
    clear hM i1
    go_wp2
    go_loopw [5, 6, 7] (fun sl at0 i wr => ∃ (k : Nat) (iv : Int), i = .int .i64 iv ∧ iv = (k : Int) - 1 ∧ k ≤ U.length ∧ sl = .int .i64 (fstI 47 (-1) (U.drop k) k) ∧ at0 = .int .i64 (fstI 64 (U.length : Int) (U.drop k) k) ∧ wr = wx) (fun _ _ i _ => (intOf i + 1).toNat)
    case atStart => exact ⟨U.length, _, rfl, by omega, Nat.le_refl _, by rw [List.drop_length]; rfl, by rw [List.drop_length]; rfl, rfl⟩
    case round =>
      obtain ⟨k, iv, rfl, hiv, hk, rfl, rfl, hwr⟩ := hrel
      subst hwr
      have hkb : (k : Int) ≤ (U.length : Int) := by omega
      by_cases h0 : k = 0
      · have hiv1 : iv = -1 := by omega
        subst hiv1
        subst h0
        rw [List.drop_zero]
        clear hiv hk hkb
        obtain ⟨wo, hwo⟩ : ∃ wo, wo = wr := ⟨_, rfl⟩
        subst hwo
        have hslash := True.intro
        rcases nsplit 47 U with hno | ⟨T, B, hU, hT⟩
        · have HS := (show Hid (scanA s = ({}, false)) from sc_none HIn.out (by rw [HU.out]; exact hno))
          have s1 : fstI 47 (-1) U 0 = -1 := fst_miss 0 hno
          rw [s1]
          generalize fstI 64 (U.length : Int) U 0 = AT at *
          clear s1 hno hslash
          have hk := blk_belowN HKB.out HBx.out
          have f0 : wo.frozen? ⟨w.heap.size, 0, none⟩ = false := free_blkN hk 0
          have f1 : wo.frozen? ⟨w.heap.size, 1, none⟩ = false := free_blkN hk 1
          have f2 : wo.frozen? ⟨w.heap.size, 2, none⟩ = false := free_blkN hk 2
          have k0 := cell_blkN hk (i := 0) (v := .string ⟨#[]⟩) rfl
          have k1 := cell_blkN hk (i := 1) (v := .string ⟨#[]⟩) rfl
          have k2 := cell_blkN hk (i := 2) (v := .int .i64 0) rfl
          have HK := (show Hid _ from hk)
          clear hk
          go_wp2
          (try simp only [Exit.inBlock, Exit.then])
          have hB3 := set_blkN (set_blkN (set_blkN HK.out 0 (.string ⟨#[]⟩)) 1 (.string ⟨#[]⟩)) 2 (.int .i64 0)
          have d0 := cell_blkN hB3 (i := 0) (v := .string ⟨#[]⟩) rfl
          have d1 := cell_blkN hB3 (i := 1) (v := .string ⟨#[]⟩) rfl
          have d2 := cell_blkN hB3 (i := 2) (v := .int .i64 0) rfl
          refine bodyPost_ret (v := .tuple #[.agg #[.string ⟨#[]⟩, .string ⟨#[]⟩, .int .i64 0], .bool false]) ?_ rfl ⟨?_, ?_⟩
          · rw [results_cell_tmp rfl]
            go_simp
          · rw [HS.out]
          · exact ((HA1.out.trans (HBx.out.mono HA1.out.size)).setCell (Nat.le_refl _) _ |>.setCell (Nat.le_refl _) _ |>.setCell (Nat.le_refl _) _)
        · have t1 : fstI 47 (-1) U 0 = (T.length : Int) := by rw [hU, fst_hit 0 hT]; omega
          have hul : U.length = T.length + 1 + B.length := by rw [hU]; simp; omega
          have HSl := sc_slash HIn.out (HU.out.trans hU) hT
          rw [t1]
          have ti0 : ¬ (T.length : Int) < 0 := by omega
          have ti1 : (T.length : Int) + 1 ≤ (U.length : Int) := by omega
          clear t1 hslash
          by_cases ha : (64 : UInt8) ∈ T
          · have HS := (show Hid (scanA s = ({}, false)) from (by
              show _ = _
              rw [HSl, if_pos (.inl (by cases q : nameA T with | false => rfl | true => exact absurd ha (name_at q)))]))
            obtain ⟨AT, hAT, hlt⟩ : ∃ AT : Int, fstI 64 (U.length : Int) U 0 = AT ∧ AT < (T.length : Int) := by
              rcases nsplit 64 T with q | ⟨p, t, q, hp⟩
              · exact absurd ha q
              · refine ⟨(p.length : Int), ?_, ?_⟩
                · rw [hU, q, List.append_assoc, List.cons_append, fst_hit 0 hp]; omega
                · rw [q]; simp; omega
            rw [hAT]
            clear hAT HSl ha hU hT hul
            have hk := blk_belowN HKB.out HBx.out
            have f0 : wo.frozen? ⟨w.heap.size, 0, none⟩ = false := free_blkN hk 0
            have f1 : wo.frozen? ⟨w.heap.size, 1, none⟩ = false := free_blkN hk 1
            have f2 : wo.frozen? ⟨w.heap.size, 2, none⟩ = false := free_blkN hk 2
            have k0 := cell_blkN hk (i := 0) (v := .string ⟨#[]⟩) rfl
            have k1 := cell_blkN hk (i := 1) (v := .string ⟨#[]⟩) rfl
            have k2 := cell_blkN hk (i := 2) (v := .int .i64 0) rfl
            have HK := (show Hid _ from hk)
            clear hk
            go_wp2
            (try simp only [Exit.inBlock, Exit.then])
            have hB3 := set_blkN (set_blkN (set_blkN HK.out 0 (.string ⟨#[]⟩)) 1 (.string ⟨#[]⟩)) 2 (.int .i64 0)
            have d0 := cell_blkN hB3 (i := 0) (v := .string ⟨#[]⟩) rfl
            have d1 := cell_blkN hB3 (i := 1) (v := .string ⟨#[]⟩) rfl
            have d2 := cell_blkN hB3 (i := 2) (v := .int .i64 0) rfl
            refine bodyPost_ret (v := .tuple #[.agg #[.string ⟨#[]⟩, .string ⟨#[]⟩, .int .i64 0], .bool false]) ?_ rfl ⟨?_, ?_⟩
            · rw [results_cell_tmp rfl]
              go_simp
            · rw [HS.out]
            · exact ((HA1.out.trans (HBx.out.mono HA1.out.size)).setCell (Nat.le_refl _) _ |>.setCell (Nat.le_refl _) _ |>.setCell (Nat.le_refl _) _)
          · have HPk : ∃ (D G : StrA) (Q : Bool) (A : Nat), fstI 64 (U.length : Int) U 0 = (A : Int) ∧ cutC 64 B = (D, G, Q) ∧ A = T.length + 1 + D.length ∧ A ≤ U.length ∧ (ByteArray.mk U.toArray).extract (T.length + 1) A = ⟨D.toArray⟩ ∧ (Q = false → A = U.length) ∧ (Q = true → A < U.length ∧ (ByteArray.mk U.toArray).extract (A + 1) U.length = ⟨G.toArray⟩) := by
              rcases nsplit 64 B with q | ⟨D, G, q, hD⟩
              · refine ⟨B, [], false, U.length, ?_, cut_miss q, by omega, Nat.le_refl _, ?_, fun _ => rfl, (fun h => by cases h)⟩
                · rw [fst_miss 0]
                  rw [hU]
                  simp
                  exact ⟨ha, q⟩
                · have := extract_end (ByteArray.mk U.toArray) (T.length + 1)
                  rw [size_list, list_data] at this
                  rw [this, hU, ← List.drop_drop, List.drop_left]
                  rfl
              · have hl : B.length = D.length + 1 + G.length := by rw [q]; simp; omega
                refine ⟨D, G, true, T.length + 1 + D.length, ?_, by rw [q]; exact cut_hit hD, rfl, (by omega), ?_, (fun h => by cases h), fun _ => ⟨by omega, ?_⟩⟩
                · have : U = (T ++ 47 :: D) ++ 64 :: G := by rw [hU, q]; simp
                  rw [this, fst_hit 0 (by simp; exact ⟨ha, hD⟩)]
                  simp <;> (try omega)
                · rw [extract_eq, list_data, hU, ← List.drop_drop, List.drop_left, q]
                  show ByteArray.mk ((D ++ 64 :: G).take (T.length + 1 + D.length - (T.length + 1))).toArray = _
                  rw [Nat.add_sub_cancel_left, List.take_left]
                · have := extract_end (ByteArray.mk U.toArray) (T.length + 1 + D.length + 1)
                  rw [size_list, list_data] at this
                  rw [this, hU, q]
                  rw [show T ++ 47 :: (D ++ 64 :: G) = (T ++ 47 :: D ++ [64]) ++ G by simp, show T.length + 1 + D.length + 1 = (T ++ 47 :: D ++ [64]).length by (simp <;> try omega), List.drop_left]
            obtain ⟨D, G, Q, A, hA1, hcut, hA2, hA3, x2, hQ0, hQ1⟩ := HPk
            rw [hcut] at HSl
            simp only at HSl
            have HSc := (show Hid _ from HSl)
            have x1 : (ByteArray.mk U.toArray).extract 0 T.length = ⟨T.toArray⟩ := by rw [extract_eq, list_data, hU]; simp
            rw [hA1]
            have y1 : ¬ (A : Int) < (T.length : Int) := by omega
            have y2 : (T.length : Int) + 1 ≤ (A : Int) := by omega
            have y3 : (A : Int) ≤ (U.length : Int) := by omega
            have y4 : (T.length : Int) ≤ (U.length : Int) := by omega
            have HQ0 := (show Hid _ from hQ0)
            have HQ1 := (show Hid _ from hQ1)
            have HN1 := (show Hid (∀ u, Calls Tryd.prog 13 #[strA T] u fun e w' => e = .returned (.bool (nameA T)) ∧ Below u.heap.size u w') from fun u => xname_any T (by omega) u)
            have HN2 := (show Hid (∀ u, Calls Tryd.prog 13 #[strA D] u fun e w' => e = .returned (.bool (nameA D)) ∧ Below u.heap.size u w') from fun u => xname_any D (by omega) u)
            have HA2 := (show Hid _ from hA2)
            clear HSl hA1 hcut hQ0 hQ1 ha hT hU hul hA2 hA3
            go_wp2
            go_region
            obtain ⟨W9, hW9⟩ : ∃ W9, W9 = (wo.alloc (.cells #[strA T, strA D, .int .i64 0] 24)).drew := ⟨_, rfl⟩
            have hk9 : W9.heap[wo.heap.size]? = some (.cells #[strA T, strA D, .int .i64 0] 24 (0, 0)) := by rw [hW9]; exact blk_newN _ _ _
            have hb9 : Below wo.heap.size wo W9 := by rw [hW9]; exact below_drewA ((Below.refl _ _).alloc (Nat.le_refl _) _)
            have HB9 := (show Hid (Below (w.alloc (.cells #[.string ⟨#[]⟩, .string ⟨#[]⟩, .int .i64 0] 24)).heap.size (w.alloc (.cells #[.string ⟨#[]⟩, .string ⟨#[]⟩, .int .i64 0] 24)) W9) from HBx.out.trans (hb9.mono HBx.out.size))
            have hs9 : W9.heap.size = wo.heap.size + 1 := by rw [hW9]; show (wo.alloc _).heap.size = _; simp
            have g0 := cell_blkN hk9 (i := 0) (v := strA T) rfl
            rw [hW9] at g0
            have hX1 := HN1.out W9
            rw [hW9] at hX1
            have HX1 := (show Hid _ from hX1)
            have HK9 := (show Hid _ from hk9)
            clear hX1 hb9 hk9 hs9
            go_wp2_with (go_at_call 13; refine Calls.mono HX1.out ?_)
            rw [← hW9]
            first | (intro e wp1 he hbp; subst he) | (rintro e wp1 ⟨rfl, hbp⟩)
            have HSZ9 : Hid (wo.heap.size + 1 = W9.heap.size) := by show _ = _; rw [hW9]; show _ = (wo.alloc _).heap.size; simp
            (try rw [HSZ9.out] at hbp)
            have HBp := (show Hid (Below (w.alloc (.cells #[.string ⟨#[]⟩, .string ⟨#[]⟩, .int .i64 0] 24)).heap.size (w.alloc (.cells #[.string ⟨#[]⟩, .string ⟨#[]⟩, .int .i64 0] 24)) wp1) from HB9.out.trans (hbp.mono HB9.out.size))
            have HKp := (show Hid (wp1.heap[wo.heap.size]? = some (.cells #[strA T, strA D, .int .i64 0] 24 (0, 0))) from blk_belowN HK9.out hbp)
            have g1 := cell_blkN HKp.out (i := 1) (v := strA D) rfl
            clear hbp HX1 HK9 HB9 hW9 g0 HSZ9
            go_wp2_with (go_at_call 13; refine Calls.mono (HN2.out _) ?_)
            first | (intro e wq he hbq; subst he) | (rintro e wq ⟨rfl, hbq⟩)
            have HBq := (show Hid (Below (w.alloc (.cells #[.string ⟨#[]⟩, .string ⟨#[]⟩, .int .i64 0] 24)).heap.size (w.alloc (.cells #[.string ⟨#[]⟩, .string ⟨#[]⟩, .int .i64 0] 24)) wq) from HBp.out.trans (hbq.mono HBp.out.size))
            have HKq := (show Hid (wq.heap[wo.heap.size]? = some (.cells #[strA T, strA D, .int .i64 0] 24 (0, 0))) from blk_belowN HKp.out hbq)
            clear hbq g1 HKp HBp
            generalize nameA T = N1 at *
            generalize nameA D = N2 at *
            cases N1
            · have HS := (show Hid (scanA s = ({}, false)) from (by show _ = _; rw [HSc.out]; simp))
              clear HSc
              have hk := blk_belowN HKB.out HBq.out
              have f0 : wq.frozen? ⟨w.heap.size, 0, none⟩ = false := free_blkN hk 0
              have f1 : wq.frozen? ⟨w.heap.size, 1, none⟩ = false := free_blkN hk 1
              have f2 : wq.frozen? ⟨w.heap.size, 2, none⟩ = false := free_blkN hk 2
              have k0 := cell_blkN hk (i := 0) (v := .string ⟨#[]⟩) rfl
              have k1 := cell_blkN hk (i := 1) (v := .string ⟨#[]⟩) rfl
              have k2 := cell_blkN hk (i := 2) (v := .int .i64 0) rfl
              have HK := (show Hid _ from hk)
              clear hk
              go_wp2
              (try simp only [Exit.inBlock, Exit.then])
              have hB3 := set_blkN (set_blkN (set_blkN HK.out 0 (.string ⟨#[]⟩)) 1 (.string ⟨#[]⟩)) 2 (.int .i64 0)
              have d0 := cell_blkN hB3 (i := 0) (v := .string ⟨#[]⟩) rfl
              have d1 := cell_blkN hB3 (i := 1) (v := .string ⟨#[]⟩) rfl
              have d2 := cell_blkN hB3 (i := 2) (v := .int .i64 0) rfl
              refine bodyPost_ret (v := .tuple #[.agg #[.string ⟨#[]⟩, .string ⟨#[]⟩, .int .i64 0], .bool false]) ?_ rfl ⟨?_, ?_⟩
              · rw [results_cell_tmp rfl]
                go_simp
              · rw [HS.out]
              · exact ((HA1.out.trans (HBq.out.mono HA1.out.size)).setCell (Nat.le_refl _) _ |>.setCell (Nat.le_refl _) _ |>.setCell (Nat.le_refl _) _)
            cases N2
            · have HS := (show Hid (scanA s = ({}, false)) from (by show _ = _; rw [HSc.out]; simp))
              clear HSc
              have hk := blk_belowN HKB.out HBq.out
              have f0 : wq.frozen? ⟨w.heap.size, 0, none⟩ = false := free_blkN hk 0
              have f1 : wq.frozen? ⟨w.heap.size, 1, none⟩ = false := free_blkN hk 1
              have f2 : wq.frozen? ⟨w.heap.size, 2, none⟩ = false := free_blkN hk 2
              have k0 := cell_blkN hk (i := 0) (v := .string ⟨#[]⟩) rfl
              have k1 := cell_blkN hk (i := 1) (v := .string ⟨#[]⟩) rfl
              have k2 := cell_blkN hk (i := 2) (v := .int .i64 0) rfl
              have HK := (show Hid _ from hk)
              clear hk
              go_wp2
              (try simp only [Exit.inBlock, Exit.then])
              have hB3 := set_blkN (set_blkN (set_blkN HK.out 0 (.string ⟨#[]⟩)) 1 (.string ⟨#[]⟩)) 2 (.int .i64 0)
              have d0 := cell_blkN hB3 (i := 0) (v := .string ⟨#[]⟩) rfl
              have d1 := cell_blkN hB3 (i := 1) (v := .string ⟨#[]⟩) rfl
              have d2 := cell_blkN hB3 (i := 2) (v := .int .i64 0) rfl
              refine bodyPost_ret (v := .tuple #[.agg #[.string ⟨#[]⟩, .string ⟨#[]⟩, .int .i64 0], .bool false]) ?_ rfl ⟨?_, ?_⟩
              · rw [results_cell_tmp rfl]
                go_simp
              · rw [HS.out]
              · exact ((HA1.out.trans (HBq.out.mono HA1.out.size)).setCell (Nat.le_refl _) _ |>.setCell (Nat.le_refl _) _ |>.setCell (Nat.le_refl _) _)
            have r0 := cell_blkN HKq.out (i := 0) (v := strA T) rfl
            have r1 := cell_blkN HKq.out (i := 1) (v := strA D) rfl
            have r2 := cell_blkN HKq.out (i := 2) (v := .int .i64 0) rfl
            cases Q
            · have HS := (show Hid (scanA s = (⟨T, D, 0⟩, true)) from (by show _ = _; rw [HSc.out]; simp))
              have hAU : A = U.length := HQ0.out rfl
              subst hAU
              clear HSc HQ0 HQ1
              have hk := blk_belowN HKB.out HBq.out
              have f0 : wq.frozen? ⟨w.heap.size, 0, none⟩ = false := free_blkN hk 0
              have f1 : wq.frozen? ⟨w.heap.size, 1, none⟩ = false := free_blkN hk 1
              have f2 : wq.frozen? ⟨w.heap.size, 2, none⟩ = false := free_blkN hk 2
              have k0 := cell_blkN hk (i := 0) (v := .string ⟨#[]⟩) rfl
              have k1 := cell_blkN hk (i := 1) (v := .string ⟨#[]⟩) rfl
              have k2 := cell_blkN hk (i := 2) (v := .int .i64 0) rfl
              have HK := (show Hid _ from hk)
              clear hk
              go_wp2
              (try simp only [Exit.inBlock, Exit.then])
              have hB3 := set_blkN (set_blkN (set_blkN HK.out 0 (strA T)) 1 (strA D)) 2 (.int .i64 0)
              have d0 := cell_blkN hB3 (i := 0) (v := strA T) rfl
              have d1 := cell_blkN hB3 (i := 1) (v := strA D) rfl
              have d2 := cell_blkN hB3 (i := 2) (v := .int .i64 0) rfl
              refine bodyPost_ret (v := .tuple #[.agg #[strA T, strA D, .int .i64 0], .bool true]) ?_ rfl ⟨?_, ?_⟩
              · rw [results_cell_tmp rfl]
                go_simp
              · rw [HS.out]
              · exact ((HA1.out.trans (HBq.out.mono HA1.out.size)).setCell (Nat.le_refl _) _ |>.setCell (Nat.le_refl _) _ |>.setCell (Nat.le_refl _) _)
            have HQ := HQ1.out rfl
            obtain ⟨hAU, x3⟩ := HQ
            have hAi : ((A : Int) == (U.length : Int)) = false := by rw [beq_eq_false_iff_ne]; omega
            have hAi2 : (A : Int) + 1 ≤ (U.length : Int) := by omega
            have hGl : G.length ≤ U.length := by
              have h := (size_list G).symm
              rw [h, ← x3, extract_eq, size_list, list_data, List.length_take, List.length_drop]
              omega
            clear HQ0 HQ1
            by_cases n1 : G = []
            · have HNr : Hid (numberA G = (0, false)) := by show _ = _; unfold numberA; rw [if_pos (.inl n1)]
              have HS := (show Hid (scanA s = ({}, false)) from (by show _ = _; rw [HSc.out, HNr.out]; simp))
              have m1 : (G.length : Int) < 1 := by rw [n1]; simp
              clear HSc n1
              have hk := blk_belowN HKB.out HBq.out
              have f0 : wq.frozen? ⟨w.heap.size, 0, none⟩ = false := free_blkN hk 0
              have f1 : wq.frozen? ⟨w.heap.size, 1, none⟩ = false := free_blkN hk 1
              have f2 : wq.frozen? ⟨w.heap.size, 2, none⟩ = false := free_blkN hk 2
              have k0 := cell_blkN hk (i := 0) (v := .string ⟨#[]⟩) rfl
              have k1 := cell_blkN hk (i := 1) (v := .string ⟨#[]⟩) rfl
              have k2 := cell_blkN hk (i := 2) (v := .int .i64 0) rfl
              have HK := (show Hid _ from hk)
              clear hk
              go_wp2
              (try simp only [Exit.inBlock, Exit.then])
              have hB3 := set_blkN (set_blkN (set_blkN HK.out 0 (.string ⟨#[]⟩)) 1 (.string ⟨#[]⟩)) 2 (.int .i64 0)
              have d0 := cell_blkN hB3 (i := 0) (v := .string ⟨#[]⟩) rfl
              have d1 := cell_blkN hB3 (i := 1) (v := .string ⟨#[]⟩) rfl
              have d2 := cell_blkN hB3 (i := 2) (v := .int .i64 0) rfl
              refine bodyPost_ret (v := .tuple #[.agg #[.string ⟨#[]⟩, .string ⟨#[]⟩, .int .i64 0], .bool false]) ?_ rfl ⟨?_, ?_⟩
              · rw [results_cell_tmp rfl]
                go_simp
              · rw [HS.out]
              · exact ((HA1.out.trans (HBq.out.mono HA1.out.size)).setCell (Nat.le_refl _) _ |>.setCell (Nat.le_refl _) _ |>.setCell (Nat.le_refl _) _)
            have m1 : ¬ (G.length : Int) < 1 := by
              have := List.length_pos_iff.2 n1
              omega
            by_cases n2 : 6 < G.length
            · have HNr : Hid (numberA G = (0, false)) := by show _ = _; unfold numberA; rw [if_pos (.inr (.inl n2))]
              have HS := (show Hid (scanA s = ({}, false)) from (by show _ = _; rw [HSc.out, HNr.out]; simp))
              have m2 : (6 : Int) < (G.length : Int) := by omega
              clear HSc n1 n2
              have hk := blk_belowN HKB.out HBq.out
              have f0 : wq.frozen? ⟨w.heap.size, 0, none⟩ = false := free_blkN hk 0
              have f1 : wq.frozen? ⟨w.heap.size, 1, none⟩ = false := free_blkN hk 1
              have f2 : wq.frozen? ⟨w.heap.size, 2, none⟩ = false := free_blkN hk 2
              have k0 := cell_blkN hk (i := 0) (v := .string ⟨#[]⟩) rfl
              have k1 := cell_blkN hk (i := 1) (v := .string ⟨#[]⟩) rfl
              have k2 := cell_blkN hk (i := 2) (v := .int .i64 0) rfl
              have HK := (show Hid _ from hk)
              clear hk
              go_wp2
              (try simp only [Exit.inBlock, Exit.then])
              have hB3 := set_blkN (set_blkN (set_blkN HK.out 0 (.string ⟨#[]⟩)) 1 (.string ⟨#[]⟩)) 2 (.int .i64 0)
              have d0 := cell_blkN hB3 (i := 0) (v := .string ⟨#[]⟩) rfl
              have d1 := cell_blkN hB3 (i := 1) (v := .string ⟨#[]⟩) rfl
              have d2 := cell_blkN hB3 (i := 2) (v := .int .i64 0) rfl
              refine bodyPost_ret (v := .tuple #[.agg #[.string ⟨#[]⟩, .string ⟨#[]⟩, .int .i64 0], .bool false]) ?_ rfl ⟨?_, ?_⟩
              · rw [results_cell_tmp rfl]
                go_simp
              · rw [HS.out]
              · exact ((HA1.out.trans (HBq.out.mono HA1.out.size)).setCell (Nat.le_refl _) _ |>.setCell (Nat.le_refl _) _ |>.setCell (Nat.le_refl _) _)
            have m2 : ¬ (6 : Int) < (G.length : Int) := by omega
            obtain ⟨a, ha⟩ : ∃ a, G.getD 0 0 = a := ⟨_, rfl⟩
            have hsz0 : 0 < (ByteArray.mk G.toArray).size := by rw [size_list]; omega
            have hby0 : (ByteArray.mk G.toArray)[0]'hsz0 = a := by rw [byte_at, list_data, ha]
            by_cases n3 : a = 48
            · have HNr : Hid (numberA G = (0, false)) := by show _ = _; unfold numberA; rw [if_pos (.inr (.inr (by rw [ha, n3])))]
              have HS := (show Hid (scanA s = ({}, false)) from (by show _ = _; rw [HSc.out, HNr.out]; simp))
              subst n3
              clear HSc n1 n2 ha
              have hk := blk_belowN HKB.out HBq.out
              have f0 : wq.frozen? ⟨w.heap.size, 0, none⟩ = false := free_blkN hk 0
              have f1 : wq.frozen? ⟨w.heap.size, 1, none⟩ = false := free_blkN hk 1
              have f2 : wq.frozen? ⟨w.heap.size, 2, none⟩ = false := free_blkN hk 2
              have k0 := cell_blkN hk (i := 0) (v := .string ⟨#[]⟩) rfl
              have k1 := cell_blkN hk (i := 1) (v := .string ⟨#[]⟩) rfl
              have k2 := cell_blkN hk (i := 2) (v := .int .i64 0) rfl
              have HK := (show Hid _ from hk)
              clear hk
              go_wp2
              (try simp only [Exit.inBlock, Exit.then])
              have hB3 := set_blkN (set_blkN (set_blkN HK.out 0 (.string ⟨#[]⟩)) 1 (.string ⟨#[]⟩)) 2 (.int .i64 0)
              have d0 := cell_blkN hB3 (i := 0) (v := .string ⟨#[]⟩) rfl
              have d1 := cell_blkN hB3 (i := 1) (v := .string ⟨#[]⟩) rfl
              have d2 := cell_blkN hB3 (i := 2) (v := .int .i64 0) rfl
              refine bodyPost_ret (v := .tuple #[.agg #[.string ⟨#[]⟩, .string ⟨#[]⟩, .int .i64 0], .bool false]) ?_ rfl ⟨?_, ?_⟩
              · rw [results_cell_tmp rfl]
                go_simp
              · rw [HS.out]
              · exact ((HA1.out.trans (HBq.out.mono HA1.out.size)).setCell (Nat.le_refl _) _ |>.setCell (Nat.le_refl _) _ |>.setCell (Nat.le_refl _) _)
            have m3 : ((a.toNat : Int) == 48) = false := by
              rw [beq_eq_false_iff_ne]; intro e; exact n3 (UInt8.toNat_inj.1 (by have : (48 : UInt8).toNat = 48 := rfl; omega))
            have HR : Hid (numberA G = if G.all digA = true then (numV 0 G, true) else (0, false)) := by
              show _ = _
              unfold numberA
              rw [if_neg (by rw [ha]; rintro (e | e | e); (· exact n1 e); (· exact n2 e); (· exact n3 e))]
            have HG6 : Hid (G.length ≤ 6) := by show _ ≤ _; omega
            clear n1 n3 ha n2
            have HWo := (show Hid ((w.alloc (.cells #[.string ⟨#[]⟩, .string ⟨#[]⟩, .int .i64 0] 24)).heap.size ≤ wo.heap.size) from HBx.out.size)
            go_wp2
            go_loopw [12] (fun i wr => ∃ (k : Nat) (V : Int), i = .int .i64 (k : Int) ∧ k ≤ G.length ∧ Hid (V = numV 0 (G.take k)) ∧ 0 ≤ V ∧ V ≤ 999999 ∧ Hid ((G.take k).all digA = true) ∧ Hid (wr.heap[wo.heap.size]? = some (.cells #[strA T, strA D, .int .i64 V] 24 (0, 0))) ∧ Hid (Below (w.alloc (.cells #[.string ⟨#[]⟩, .string ⟨#[]⟩, .int .i64 0] 24)).heap.size (w.alloc (.cells #[.string ⟨#[]⟩, .string ⟨#[]⟩, .int .i64 0] 24)) wr)) (fun i _ => G.length - (intOf i).toNat)
            case atStart => exact ⟨0, 0, rfl, Nat.zero_le _, (by show _ = _; rw [List.take_zero]; rfl), by omega, by omega, (by show _ = _; rw [List.take_zero]; rfl), HKq, HBq⟩
            case round =>
              obtain ⟨k, V, rfl, hk, HV, hv0, hv1, HA, HKr, HBr⟩ := hrel
              clear r0 r1 r2
              have r0 := cell_blkN HKr.out (i := 0) (v := strA T) rfl
              have r1 := cell_blkN HKr.out (i := 1) (v := strA D) rfl
              have r2 := cell_blkN HKr.out (i := 2) (v := .int .i64 V) rfl
              have fr2 := free_blkN HKr.out 2
              by_cases hlt : k < G.length
              · have hlt1 : (k : Int) < (G.length : Int) := by omega
                obtain ⟨z, hz⟩ : ∃ z, G[k]? = some z := ⟨_, List.getElem?_eq_getElem hlt⟩
                have hsz : k < (ByteArray.mk G.toArray).size := by rw [size_list]; exact hlt
                have hby : (ByteArray.mk G.toArray)[k]'hsz = z := by
                  rw [byte_at, list_data, List.getD_eq_getElem?_getD, hz]
                  rfl
                have HN : Hid ((G.take (k + 1)).all digA = digA z) := by
                  show _ = _
                  rw [List.take_add_one, hz, List.all_append, HA.out]
                  simp
                have HF : Hid (digA z = false → numberA G = (0, false)) := fun h => by
                  rw [HR.out, if_neg]
                  rw [List.all_eq_true]
                  intro q
                  rw [q z (List.mem_of_getElem? hz)] at h
                  cases h
                have HV2 := (show Hid (numV 0 (G.take (k + 1)) = 10 * numV 0 (G.take k) + ((z.toNat : Int) - 48)) from numV_next G hz)
                have HSm : Hid ((G.take (k + 1)).all digA = true → 0 ≤ numV 0 (G.take (k + 1)) ∧ numV 0 (G.take (k + 1)) ≤ 999999) := fun q => numV_small (by have := HG6.out; omega) q
                clear hz
                have hc : (z.toNat : Int) < 48 ∨ (¬ (z.toNat : Int) < 48 ∧ 57 < (z.toNat : Int)) ∨ (¬ (z.toNat : Int) < 48 ∧ ¬ 57 < (z.toNat : Int)) := by omega
                rcases hc with c1 | ⟨c1, c2⟩ | ⟨c1, c2⟩
                · have HNr := (show Hid (numberA G = (0, false)) from HF.out (by cases q : digA z with | false => rfl | true => have := digA_iff.1 q; omega))
                  have HS := (show Hid (scanA s = ({}, false)) from (by show _ = _; rw [HSc.out, HNr.out]; simp))
                  clear HSc r0 r1 r2 HF HN HV2 HSm
                  have hk := blk_belowN HKB.out HBr.out
                  have f0 : wr.frozen? ⟨w.heap.size, 0, none⟩ = false := free_blkN hk 0
                  have f1 : wr.frozen? ⟨w.heap.size, 1, none⟩ = false := free_blkN hk 1
                  have f2 : wr.frozen? ⟨w.heap.size, 2, none⟩ = false := free_blkN hk 2
                  have k0 := cell_blkN hk (i := 0) (v := .string ⟨#[]⟩) rfl
                  have k1 := cell_blkN hk (i := 1) (v := .string ⟨#[]⟩) rfl
                  have k2 := cell_blkN hk (i := 2) (v := .int .i64 0) rfl
                  have HK := (show Hid _ from hk)
                  clear hk
                  go_wp2
                  (try simp only [Exit.inBlock, Exit.then])
                  have hB3 := set_blkN (set_blkN (set_blkN HK.out 0 (.string ⟨#[]⟩)) 1 (.string ⟨#[]⟩)) 2 (.int .i64 0)
                  have d0 := cell_blkN hB3 (i := 0) (v := .string ⟨#[]⟩) rfl
                  have d1 := cell_blkN hB3 (i := 1) (v := .string ⟨#[]⟩) rfl
                  have d2 := cell_blkN hB3 (i := 2) (v := .int .i64 0) rfl
                  refine bodyPost_ret (v := .tuple #[.agg #[.string ⟨#[]⟩, .string ⟨#[]⟩, .int .i64 0], .bool false]) ?_ rfl ⟨?_, ?_⟩
                  · rw [results_cell_tmp rfl]
                    go_simp
                  · rw [HS.out]
                  · exact ((HA1.out.trans (HBr.out.mono HA1.out.size)).setCell (Nat.le_refl _) _ |>.setCell (Nat.le_refl _) _ |>.setCell (Nat.le_refl _) _)
                · have HNr := (show Hid (numberA G = (0, false)) from HF.out (by cases q : digA z with | false => rfl | true => have := digA_iff.1 q; omega))
                  have HS := (show Hid (scanA s = ({}, false)) from (by show _ = _; rw [HSc.out, HNr.out]; simp))
                  clear HSc r0 r1 r2 HF HN HV2 HSm
                  have hk := blk_belowN HKB.out HBr.out
                  have f0 : wr.frozen? ⟨w.heap.size, 0, none⟩ = false := free_blkN hk 0
                  have f1 : wr.frozen? ⟨w.heap.size, 1, none⟩ = false := free_blkN hk 1
                  have f2 : wr.frozen? ⟨w.heap.size, 2, none⟩ = false := free_blkN hk 2
                  have k0 := cell_blkN hk (i := 0) (v := .string ⟨#[]⟩) rfl
                  have k1 := cell_blkN hk (i := 1) (v := .string ⟨#[]⟩) rfl
                  have k2 := cell_blkN hk (i := 2) (v := .int .i64 0) rfl
                  have HK := (show Hid _ from hk)
                  clear hk
                  go_wp2
                  (try simp only [Exit.inBlock, Exit.then])
                  have hB3 := set_blkN (set_blkN (set_blkN HK.out 0 (.string ⟨#[]⟩)) 1 (.string ⟨#[]⟩)) 2 (.int .i64 0)
                  have d0 := cell_blkN hB3 (i := 0) (v := .string ⟨#[]⟩) rfl
                  have d1 := cell_blkN hB3 (i := 1) (v := .string ⟨#[]⟩) rfl
                  have d2 := cell_blkN hB3 (i := 2) (v := .int .i64 0) rfl
                  refine bodyPost_ret (v := .tuple #[.agg #[.string ⟨#[]⟩, .string ⟨#[]⟩, .int .i64 0], .bool false]) ?_ rfl ⟨?_, ?_⟩
                  · rw [results_cell_tmp rfl]
                    go_simp
                  · rw [HS.out]
                  · exact ((HA1.out.trans (HBr.out.mono HA1.out.size)).setCell (Nat.le_refl _) _ |>.setCell (Nat.le_refl _) _ |>.setCell (Nat.le_refl _) _)
                · have hdz : digA z = true := digA_iff.2 (by omega)
                  have HNt : Hid ((G.take (k + 1)).all digA = true) := by show _ = _; rw [HN.out, hdz]
                  obtain ⟨s1, s2⟩ := HSm.out HNt.out
                  have hd1 : (48 : Int) ≤ (z.toNat : Int) := by omega
                  have hd2 : (z.toNat : Int) ≤ 57 := by omega
                  have hw8 : IntKind.u8.wrap ((z.toNat : Int) - 48) = (z.toNat : Int) - 48 := by rw [IntKind.wrap_u8]; omega
                  have hw9 : IntKind.i64.wrap ((z.toNat : Int) - 48) = (z.toNat : Int) - 48 := by rw [IntKind.wrap_i64]; omega
                  have hvv : 10 * V + ((z.toNat : Int) - 48) = numV 0 (G.take (k + 1)) := by rw [HV2.out, ← HV.out]
                  rw [← hvv] at s1 s2
                  have HVV := (show Hid _ from hvv)
                  clear HF HSm HN HV2 hdz hvv
                  go_wp2
                  go_region
                  go_wp2
                  refine ⟨⟨k + 1, 10 * V + ((z.toNat : Int) - 48), by go_num, by omega, (by show _ = _; exact HVV.out), by omega, by omega, HNt, ?_, ?_⟩, by (simp [intOf]) <;> omega⟩
                  · exact set_blkN (w := wr.drew) HKr.out 2 _
                  · exact Below.setCell (below_drewA HBr.out) HWo.out _
              · have hlt1 : ¬ (k : Int) < (G.length : Int) := by omega
                have hkG : k = G.length := by omega
                have HNr : Hid (numberA G = (V, true)) := by
                  show _ = _
                  have e : G.take G.length = G := List.take_of_length_le (Nat.le_refl _)
                  have h1 := HA.out
                  have h2 := HV.out
                  rw [hkG, e] at h1 h2
                  rw [HR.out, if_pos h1, h2]
                have HS := (show Hid (scanA s = (⟨T, D, V⟩, true)) from (by show _ = _; rw [HSc.out, HNr.out]; simp))
                clear HSc HR HA HV
                have hk := blk_belowN HKB.out HBr.out
                have f0 : wr.frozen? ⟨w.heap.size, 0, none⟩ = false := free_blkN hk 0
                have f1 : wr.frozen? ⟨w.heap.size, 1, none⟩ = false := free_blkN hk 1
                have f2 : wr.frozen? ⟨w.heap.size, 2, none⟩ = false := free_blkN hk 2
                have k0 := cell_blkN hk (i := 0) (v := .string ⟨#[]⟩) rfl
                have k1 := cell_blkN hk (i := 1) (v := .string ⟨#[]⟩) rfl
                have k2 := cell_blkN hk (i := 2) (v := .int .i64 0) rfl
                have HK := (show Hid _ from hk)
                clear hk
                go_wp2
                (try simp only [Exit.inBlock, Exit.then])
                have hB3 := set_blkN (set_blkN (set_blkN HK.out 0 (strA T)) 1 (strA D)) 2 (.int .i64 V)
                have d0 := cell_blkN hB3 (i := 0) (v := strA T) rfl
                have d1 := cell_blkN hB3 (i := 1) (v := strA D) rfl
                have d2 := cell_blkN hB3 (i := 2) (v := .int .i64 V) rfl
                refine bodyPost_ret (v := .tuple #[.agg #[strA T, strA D, .int .i64 V], .bool true]) ?_ rfl ⟨?_, ?_⟩
                · rw [results_cell_tmp rfl]
                  go_simp
                · rw [HS.out]
                · exact ((HA1.out.trans (HBr.out.mono HA1.out.size)).setCell (Nat.le_refl _) _ |>.setCell (Nat.le_refl _) _ |>.setCell (Nat.le_refl _) _)
      · obtain ⟨j, hj⟩ : ∃ j : Nat, k = j + 1 := ⟨k - 1, by omega⟩
        subst hj
        have hivj : iv = (j : Int) := by omega
        subst hivj
        have hjl : j < U.length := by omega
        obtain ⟨z, hz⟩ : ∃ z, U[j]? = some z := ⟨_, List.getElem?_eq_getElem hjl⟩
        have hsz : j < (ByteArray.mk U.toArray).size := by rw [size_list]; exact hjl
        have hby : (ByteArray.mk U.toArray)[j]'hsz = z := by
          rw [byte_at, list_data, List.getD_eq_getElem?_getD, hz]
          rfl
        have q1 := fst_step (c := 47) (d := -1) hz
        have q2 := fst_step (c := 64) (d := (U.length : Int)) hz
        have hj0 : (0 : Int) ≤ (j : Int) := by omega
        have hji : (j : Int) < (U.length : Int) := by omega
        have Q1 := (show Hid _ from q1)
        have Q2 := (show Hid _ from q2)
        have HJ : Hid (j ≤ U.length) := by show _ ≤ _; omega
        generalize fstI 47 (-1) (U.drop (j + 1)) (j + 1) = V1 at *
        generalize fstI 64 (U.length : Int) (U.drop (j + 1)) (j + 1) = V2 at *
        clear q1 q2 hz hiv h0 hk
        by_cases c1 : z = 47
        · subst c1
          go_wp2
          exact ⟨⟨j, _, rfl, by first | omega | go_num, HJ.out, (by rw [Q1.out]; rfl), (by rw [Q2.out]; rfl), by first | trivial | rfl⟩, by (simp [intOf]) <;> omega⟩
        · have c1i : ((z.toNat : Int) == 47) = false := by
            rw [beq_eq_false_iff_ne]; intro e; exact c1 (UInt8.toNat_inj.1 (by have : (47 : UInt8).toNat = 47 := rfl; omega))
          by_cases c2 : z = 64
          · subst c2
            go_wp2
            exact ⟨⟨j, _, rfl, by first | omega | go_num, HJ.out, (by rw [Q1.out]; rfl), (by rw [Q2.out]; rfl), by first | trivial | rfl⟩, by (simp [intOf]) <;> omega⟩
          · have c2i : ((z.toNat : Int) == 64) = false := by
              rw [beq_eq_false_iff_ne]; intro e; exact c2 (UInt8.toNat_inj.1 (by have : (64 : UInt8).toNat = 64 := rfl; omega))
            have HC1 := (show Hid (z ≠ 47) from c1)
            have HC2 := (show Hid (z ≠ 64) from c2)
            clear c1 c2
            go_wp2
            exact ⟨⟨j, _, rfl, by first | omega | go_num, HJ.out, (by rw [Q1.out, if_neg HC1.out]), (by rw [Q2.out, if_neg HC2.out]), by first | trivial | rfl⟩, by (simp [intOf]) <;> omega⟩
  · have HS := (show Hid (scanA s = ({}, false)) from sc_out (by rw [hS1]; exact hin))
    by_cases a1 : S.length < 12
    · have j1 : (S.length : Int) < 12 := by omega
      clear hin
      have hk := blk_belowN HKB.out HBx.out
      have f0 : wx.frozen? ⟨w.heap.size, 0, none⟩ = false := free_blkN hk 0
      have f1 : wx.frozen? ⟨w.heap.size, 1, none⟩ = false := free_blkN hk 1
      have f2 : wx.frozen? ⟨w.heap.size, 2, none⟩ = false := free_blkN hk 2
      have k0 := cell_blkN hk (i := 0) (v := .string ⟨#[]⟩) rfl
      have k1 := cell_blkN hk (i := 1) (v := .string ⟨#[]⟩) rfl
      have k2 := cell_blkN hk (i := 2) (v := .int .i64 0) rfl
      have HK := (show Hid _ from hk)
      clear hk
      go_wp2
      (try simp only [Exit.inBlock, Exit.then])
      have hB3 := set_blkN (set_blkN (set_blkN HK.out 0 (.string ⟨#[]⟩)) 1 (.string ⟨#[]⟩)) 2 (.int .i64 0)
      have d0 := cell_blkN hB3 (i := 0) (v := .string ⟨#[]⟩) rfl
      have d1 := cell_blkN hB3 (i := 1) (v := .string ⟨#[]⟩) rfl
      have d2 := cell_blkN hB3 (i := 2) (v := .int .i64 0) rfl
      refine bodyPost_ret (v := .tuple #[.agg #[.string ⟨#[]⟩, .string ⟨#[]⟩, .int .i64 0], .bool false]) ?_ rfl ⟨?_, ?_⟩
      · rw [results_cell_tmp rfl]
        go_simp
      · rw [HS.out]
      · exact ((HA1.out.trans (HBx.out.mono HA1.out.size)).setCell (Nat.le_refl _) _ |>.setCell (Nat.le_refl _) _ |>.setCell (Nat.le_refl _) _)
    · have j1 : ¬ (S.length : Int) < 12 := by omega
      have e1 : (ByteArray.mk S.toArray).extract 0 10 = ⟨(S.take 10).toArray⟩ := by rw [extract_eq, list_data]; rfl
      by_cases a2 : S.take 10 = incP
      · have e2 : (ByteArray.mk S.toArray).extract (S.length - 2) S.length = ⟨(S.drop (S.length - 2)).toArray⟩ := by
          have := extract_end (ByteArray.mk S.toArray) (S.length - 2)
          rw [size_list, list_data] at this
          exact this
        have a3 : S.drop (S.length - 2) ≠ incE := fun q => hin ⟨by omega, a2, q⟩
        have e1' : (ByteArray.mk S.toArray).extract 0 10 = ⟨#[123, 123, 105, 110, 99, 108, 117, 100, 101, 32]⟩ := by rw [e1, a2]; rfl
        generalize S.drop (S.length - 2) = E2 at *
        have h2 : (E2 == [125, 125]) = false := by simpa [incE] using a3
        have hlS : (S.length : Int) - 2 = ((S.length - 2 : Nat) : Int) := by omega
        obtain ⟨M, hM⟩ : ∃ M, M = S.length - 2 := ⟨_, rfl⟩
        have hMl : M + 2 = S.length := by omega
        rw [← hM] at e2 hlS
        have hMi2 : (M : Int) ≤ (S.length : Int) := by omega
        clear a3 a2 e1 hM hin a1
        have hk := blk_belowN HKB.out HBx.out
        have f0 : wx.frozen? ⟨w.heap.size, 0, none⟩ = false := free_blkN hk 0
        have f1 : wx.frozen? ⟨w.heap.size, 1, none⟩ = false := free_blkN hk 1
        have f2 : wx.frozen? ⟨w.heap.size, 2, none⟩ = false := free_blkN hk 2
        have k0 := cell_blkN hk (i := 0) (v := .string ⟨#[]⟩) rfl
        have k1 := cell_blkN hk (i := 1) (v := .string ⟨#[]⟩) rfl
        have k2 := cell_blkN hk (i := 2) (v := .int .i64 0) rfl
        have HK := (show Hid _ from hk)
        clear hk
        go_wp2
        (try simp only [Exit.inBlock, Exit.then])
        have hB3 := set_blkN (set_blkN (set_blkN HK.out 0 (.string ⟨#[]⟩)) 1 (.string ⟨#[]⟩)) 2 (.int .i64 0)
        have d0 := cell_blkN hB3 (i := 0) (v := .string ⟨#[]⟩) rfl
        have d1 := cell_blkN hB3 (i := 1) (v := .string ⟨#[]⟩) rfl
        have d2 := cell_blkN hB3 (i := 2) (v := .int .i64 0) rfl
        refine bodyPost_ret (v := .tuple #[.agg #[.string ⟨#[]⟩, .string ⟨#[]⟩, .int .i64 0], .bool false]) ?_ rfl ⟨?_, ?_⟩
        · rw [results_cell_tmp rfl]
          go_simp
        · rw [HS.out]
        · exact ((HA1.out.trans (HBx.out.mono HA1.out.size)).setCell (Nat.le_refl _) _ |>.setCell (Nat.le_refl _) _ |>.setCell (Nat.le_refl _) _)
      · generalize S.take 10 = P10 at *
        have h2 : (P10 == [123, 123, 105, 110, 99, 108, 117, 100, 101, 32]) = false := by simpa [incP] using a2
        clear a2 hin a1
        have hk := blk_belowN HKB.out HBx.out
        have f0 : wx.frozen? ⟨w.heap.size, 0, none⟩ = false := free_blkN hk 0
        have f1 : wx.frozen? ⟨w.heap.size, 1, none⟩ = false := free_blkN hk 1
        have f2 : wx.frozen? ⟨w.heap.size, 2, none⟩ = false := free_blkN hk 2
        have k0 := cell_blkN hk (i := 0) (v := .string ⟨#[]⟩) rfl
        have k1 := cell_blkN hk (i := 1) (v := .string ⟨#[]⟩) rfl
        have k2 := cell_blkN hk (i := 2) (v := .int .i64 0) rfl
        have HK := (show Hid _ from hk)
        clear hk
        go_wp2
        (try simp only [Exit.inBlock, Exit.then])
        have hB3 := set_blkN (set_blkN (set_blkN HK.out 0 (.string ⟨#[]⟩)) 1 (.string ⟨#[]⟩)) 2 (.int .i64 0)
        have d0 := cell_blkN hB3 (i := 0) (v := .string ⟨#[]⟩) rfl
        have d1 := cell_blkN hB3 (i := 1) (v := .string ⟨#[]⟩) rfl
        have d2 := cell_blkN hB3 (i := 2) (v := .int .i64 0) rfl
        refine bodyPost_ret (v := .tuple #[.agg #[.string ⟨#[]⟩, .string ⟨#[]⟩, .int .i64 0], .bool false]) ?_ rfl ⟨?_, ?_⟩
        · rw [results_cell_tmp rfl]
          go_simp
        · rw [HS.out]
        · exact ((HA1.out.trans (HBx.out.mono HA1.out.size)).setCell (Nat.le_refl _) _ |>.setCell (Nat.le_refl _) _ |>.setCell (Nat.le_refl _) _)
end Go.Proofs.YtkjicdldlnefeaaDoor
