/- IncludeChains: a row of documents is put together; walked. -/
import Derived.Test.YtkjicdldlnefeaaDoorNName
set_option linter.unusedVariables false
namespace Go.Proofs.YtkjicdldlnefeaaDoor
open Go.RowKit

theorem infoPg4 : (Tryd.prog.info? 38).map (fun i => (i.zero, i.size, i.bytes)) = some (some (.agg #[.string ⟨#[]⟩, .string ⟨#[]⟩, .int .i64 0, .string ⟨#[]⟩]), 4, 56) := by kernel_rfl
set_option maxHeartbeats 64000000 in
set_option maxRecDepth 20000 in
theorem wchains (z : Int) (hz : -9223372036854775808 ≤ z ∧ z ≤ 9223372036854775807) (y : Int) (hy : -9223372036854775808 ≤ y ∧ y ≤ 9223372036854775807) (c : Bool) (w : World) :
    Calls Tryd.prog 7 #[.int .i64 z, .int .i64 y, .bool c] w fun e w' => e = .returned (.bool true) ∧ Below w.heap.size w w' := by
  have HS : Hid (∀ u, Calls Tryd.prog 9 #[] u fun e w' => e = .returned (.bool true) ∧ Below u.heap.size u w') := fun u => nshown_any u
  obtain ⟨i0, hi, hz0, hz1, hz2⟩ := info_parts infoPg4
  obtain ⟨N, hN, hf⟩ := nfoldT z 20 hz.1 (by omega)
  obtain ⟨n, hn⟩ : ∃ n : Nat, n = N + 1 := ⟨_, rfl⟩
  have hnI : (1 : Int) + (N : Int) = (n : Int) := by omega
  have hn1 : 1 ≤ n := by omega
  have hn20 : n ≤ 20 := by omega
  have hn0 : ((n : Int) == 0) = false := by simp; omega
  obtain ⟨b, hb, hg⟩ := nfoldT y (n : Int) hy.1 (by omega)
  obtain ⟨hza, hzb⟩ := hz
  obtain ⟨hya, hyb⟩ := hy
  clear hn
  rcases hf with ⟨g1, g2⟩ | ⟨g1, g2⟩ <;> rcases hg with ⟨g3, g4⟩ | ⟨g3, g4⟩
  all_goals
    go_enter Tryd.func7, Tryd.ntmps7
    go_wp2_with (go_at_call 9; refine Calls.mono (HS.out _) ?_)
    first | (intro e wb he hb1; subst he) | (rintro e wb ⟨rfl, hb1⟩)
    have HB1 := (show Hid (Below w.heap.size w wb) from hb1)
    clear hb1 HS
    go_wp2
    go_loopw [8, 9] (fun l i wr => ∃ k : Nat, i = .int .i64 (k : Int) ∧ k ≤ n ∧ Hid (wr.ownsRow wb.heap.size 38 4 l k (pgCs (chL n b c k))) ∧ Hid (Below wb.heap.size wb wr)) (fun _ i _ => n - (intOf i).toNat)
    case atStart => exact ⟨0, rfl, Nat.zero_le _, World.ownsRow_nil _ _ _ _, Below.refl _ _⟩
    case round =>
      obtain ⟨k, rfl, hk, HOw, HB⟩ := hrel
      obtain ⟨av, cv, hvv⟩ := nrow_len HOw.out
      subst hvv
      have hk20 : (k : Int) ≤ 20 := by omega
      by_cases hlt : k < n
      · have hlti : (k : Int) < (n : Int) := by omega
        obtain ⟨PC, hPC⟩ : ∃ PC, PC = pgCs (chL n b c k) := ⟨_, rfl⟩
        obtain ⟨AZ, hAZ0⟩ : ∃ AZ, AZ = chT n b c k := ⟨_, rfl⟩
        obtain ⟨NK, hNK⟩ : ∃ NK, nmN k = NK := ⟨_, rfl⟩
        have HPC : Hid (pgCs (chL n b c (k + 1)) = PC ++ [.string ⟨#[97]⟩, strA NK, .int .i64 1, strA AZ]) := by
          show pgCs (chL n b c k ++ [chP n b c k]) = _
          rw [pgCs_app, hPC, hAZ0, ← hNK]
          rfl
        rw [← hPC] at HOw
        clear hPC
        have HO := HOw
        clear HOw
        have HK := (show Hid (∀ u, Calls Tryd.prog 18 #[.int .i64 (k : Int)] u fun e w' => e = .returned (strA NK) ∧ Below u.heap.size u w') from fun u => by have := nname_any k (by omega) u; rw [hNK] at this; exact this)
        have lK : NK.length = 2 := by rw [← hNK]; rfl
        have HPgc := (show Hid (∀ u, Calls Tryd.prog 19 #[strA NK, .int .i64 1, strA AZ] u fun e w' => e = .returned (.agg #[.string ⟨#[97]⟩, strA NK, .int .i64 1, strA AZ]) ∧ Below u.heap.size u w') from fun u => npage_any NK 1 AZ u)
        unfold chT at hAZ0
        by_cases hx : k + 1 < n
        · have hxi : (k : Int) + 1 < (n : Int) := by omega
          rw [if_pos hx, hNK] at hAZ0
          obtain ⟨NJ, hJ⟩ : ∃ NJ, nmN (k + 1) = NJ := ⟨_, rfl⟩
          have lJ : NJ.length = 2 := by rw [← hJ]; rfl
          rw [hJ] at hAZ0
          have hAZt := hAZ0
          clear hAZ0
          have HJ := (show Hid (∀ u, Calls Tryd.prog 18 #[.int .i64 ((k : Int) + 1)] u fun e w' => e = .returned (strA NJ) ∧ Below u.heap.size u w') from fun u => by have := nname_any (k + 1) (by omega) u; rw [hJ] at this; simpa using this)
          obtain ⟨A1, hA1⟩ : ∃ X : StrA, X = ([108] : StrA) ++ NK := ⟨_, rfl⟩
          have lA1 : A1.length = 3 := by rw [hA1, List.length_append]; show 1 + NK.length = _; omega
          have sA1 : ∀ u, (Op.stringOp .add (ByteArray.mk #[108]) (ByteArray.mk NK.toArray)).run Tryd.prog u = .ok (.string ⟨A1.toArray⟩) u := nsumT (A := ([108] : StrA)) (B := NK) hA1.symm (by first | omega | (show 1 + NK.length ≤ _; omega) | (show ([108] : StrA).length + 2 ≤ _; omega))
          obtain ⟨A2, hA2⟩ : ∃ X : StrA, X = A1 ++ chI := ⟨_, rfl⟩
          have lA2 : A2.length = 16 := by rw [hA2, List.length_append, lA1]; rfl
          have sA2 : ∀ u, (Op.stringOp .add (ByteArray.mk A1.toArray) (ByteArray.mk #[10, 123, 123, 105, 110, 99, 108, 117, 100, 101, 32, 97, 47])).run Tryd.prog u = .ok (.string ⟨A2.toArray⟩) u := nsumT (A := A1) (B := chI) hA2.symm (by first | omega | (show 1 + chI.length ≤ _; omega) | (show A1.length + 13 ≤ _; omega))
          obtain ⟨A3, hA3⟩ : ∃ X : StrA, X = A2 ++ NJ := ⟨_, rfl⟩
          have lA3 : A3.length = 18 := by rw [hA3, List.length_append, lA2]; omega
          have sA3 : ∀ u, (Op.stringOp .add (ByteArray.mk A2.toArray) (ByteArray.mk NJ.toArray)).run Tryd.prog u = .ok (.string ⟨A3.toArray⟩) u := nsumT (A := A2) (B := NJ) hA3.symm (by first | omega | (show 1 + NJ.length ≤ _; omega) | (show A2.length + 2 ≤ _; omega))
          obtain ⟨A4, hA4⟩ : ∃ X : StrA, X = A3 ++ [125, 125] := ⟨_, rfl⟩
          have lA4 : A4.length = 20 := by rw [hA4, List.length_append, lA3]; rfl
          have sA4 : ∀ u, (Op.stringOp .add (ByteArray.mk A3.toArray) (ByteArray.mk #[125, 125])).run Tryd.prog u = .ok (.string ⟨A4.toArray⟩) u := nsumT (A := A3) (B := [125, 125]) hA4.symm (by first | omega | (show 1 + [125, 125].length ≤ _; omega) | (show A3.length + 2 ≤ _; omega))
          obtain ⟨A5, hA5⟩ : ∃ X : StrA, X = A4 ++ [10, 114] := ⟨_, rfl⟩
          have lA5 : A5.length = 22 := by rw [hA5, List.length_append, lA4]; rfl
          have sA5 : ∀ u, (Op.stringOp .add (ByteArray.mk A4.toArray) (ByteArray.mk #[10, 114])).run Tryd.prog u = .ok (.string ⟨A5.toArray⟩) u := nsumT (A := A4) (B := [10, 114]) hA5.symm (by first | omega | (show 1 + [10, 114].length ≤ _; omega) | (show A4.length + 2 ≤ _; omega))
          obtain ⟨A6, hA6⟩ : ∃ X : StrA, X = A5 ++ NK := ⟨_, rfl⟩
          have lA6 : A6.length = 24 := by rw [hA6, List.length_append, lA5]; omega
          have sA6 : ∀ u, (Op.stringOp .add (ByteArray.mk A5.toArray) (ByteArray.mk NK.toArray)).run Tryd.prog u = .ok (.string ⟨A6.toArray⟩) u := nsumT (A := A5) (B := NK) hA6.symm (by first | omega | (show 1 + NK.length ≤ _; omega) | (show A5.length + 2 ≤ _; omega))
          have hAZ : AZ = A6 := by rw [hAZt, hA6, hA5, hA4, hA3, hA2, hA1]
          subst hAZ
          clear hA1 lA1 hA2 lA2 hA3 lA3 hA4 lA4 hA5 lA5 hA6 lA6
          clear hAZt hNK hJ lJ
          go_wp2_with (go_at_call 18; refine Calls.mono (HK.out _) ?_)
          first | (intro e wc he hbwc; subst he) | (rintro e wc ⟨rfl, hbwc⟩)
          have HBwc := (show Hid (Below wb.heap.size wb wc) from HB.out.trans (hbwc.mono HB.out.size))
          have HOwc := (show Hid (wc.ownsRow wb.heap.size 38 4 (.slice av k cv) k PC) from nrow_below HO.out hbwc)
          clear hbwc HB HO
          go_wp2_with (go_at_call 18; refine Calls.mono (HJ.out _) ?_)
          first | (intro e wd he hbwd; subst he) | (rintro e wd ⟨rfl, hbwd⟩)
          have HBwd := (show Hid (Below wb.heap.size wb wd) from HBwc.out.trans (hbwd.mono HBwc.out.size))
          have HOwd := (show Hid (wd.ownsRow wb.heap.size 38 4 (.slice av k cv) k PC) from nrow_below HOwc.out hbwd)
          clear hbwd HBwc HOwc
          go_wp2_with (go_at_call 18; refine Calls.mono (HK.out _) ?_)
          first | (intro e we he hbwe; subst he) | (rintro e we ⟨rfl, hbwe⟩)
          have HBwe := (show Hid (Below wb.heap.size wb we) from HBwd.out.trans (hbwe.mono HBwd.out.size))
          have HOwe := (show Hid (we.ownsRow wb.heap.size 38 4 (.slice av k cv) k PC) from nrow_below HOwd.out hbwe)
          clear hbwe HBwd HOwd
          go_wp2_with (go_at_call 18; refine Calls.mono (HK.out _) ?_)
          first | (intro e wf he hbwf; subst he) | (rintro e wf ⟨rfl, hbwf⟩)
          have HBwf := (show Hid (Below wb.heap.size wb wf) from HBwe.out.trans (hbwf.mono HBwe.out.size))
          have HOwf := (show Hid (wf.ownsRow wb.heap.size 38 4 (.slice av k cv) k PC) from nrow_below HOwe.out hbwf)
          clear hbwf HBwe HOwe
          go_wp2_with (go_at_call 19; refine Calls.mono (HPgc.out _) ?_)
          first | (intro e wp he hbwp; subst he) | (rintro e wp ⟨rfl, hbwp⟩)
          have HBwp := (show Hid (Below wb.heap.size wb wp) from HBwf.out.trans (hbwp.mono HBwf.out.size))
          have HOwp := (show Hid (wp.ownsRow wb.heap.size 38 4 (.slice av k cv) k PC) from nrow_below HOwf.out hbwp)
          clear hbwp HBwf HOwf
          go_wp2_with (at_builtin; refine wpList_append_own_at _ rfl _ _ 28 rfl wb.heap.size 38 i0 (.agg #[.string ⟨#[]⟩, .string ⟨#[]⟩, .int .i64 0, .string ⟨#[]⟩]) 4 56 Tryd.underlying28 hi hz0 hz1 hz2 rfl (by decide) _ _ _ rfl (World.ownsRow.alloc HOwp.out _) ⟨wp.heap.size, 0, none⟩ 1 1 [.string ⟨#[97]⟩, strA NK, .int .i64 1, strA AZ] rfl rfl (lit_cells _ _ _) ?d3 ?d4 ?d5 ?d6 ?_)
          case d3 => first | (intro u hu; simp at hu; rcases hu with rfl | rfl | rfl | rfl <;> rfl) | exact ⟨rfl, rfl, rfl, rfl⟩
          case d4 => unfold maxLen; omega
          case d5 => omega
          case d6 => have := HBwp.out.size; simp; omega
          intro v5 w5 hown5 hgrow5 _ _
          have HO5 := (show Hid (w5.ownsRow wb.heap.size 38 4 v5 (k + 1) (pgCs (chL n b c (k + 1)))) from (by rw [HPC.out]; exact hown5))
          have HB5 := (show Hid (Below wb.heap.size wb w5) from (HBwp.out.alloc HBwp.out.size _).grown hgrow5 (by have := HBwp.out.size; simp; omega) (fun k hk => (World.ownsRow.lt HOwp.out k hk).1))
          obtain ⟨a5, c5, hv5⟩ := nrow_len HO5.out
          subst hv5
          clear hown5 hgrow5 HOwp HBwp
          go_wp2
          exact ⟨⟨k + 1, by go_num, by omega, HO5, HB5⟩, by (simp [intOf]) <;> omega⟩
        · have hxi : ¬ (k : Int) + 1 < (n : Int) := by omega
          rw [if_neg hx] at hAZ0
          cases c with
          | true =>
            rw [if_pos rfl, hNK] at hAZ0
            obtain ⟨NJ, hJ⟩ : ∃ NJ, nmN b = NJ := ⟨_, rfl⟩
            have lJ : NJ.length = 2 := by rw [← hJ]; rfl
            rw [hJ] at hAZ0
            have hAZt := hAZ0
            clear hAZ0
            have HJ := (show Hid (∀ u, Calls Tryd.prog 18 #[.int .i64 (b : Int)] u fun e w' => e = .returned (strA NJ) ∧ Below u.heap.size u w') from fun u => by have := nname_any b (by omega) u; rw [hJ] at this; exact this)
            obtain ⟨A1, hA1⟩ : ∃ X : StrA, X = ([108] : StrA) ++ NK := ⟨_, rfl⟩
            have lA1 : A1.length = 3 := by rw [hA1, List.length_append]; show 1 + NK.length = _; omega
            have sA1 : ∀ u, (Op.stringOp .add (ByteArray.mk #[108]) (ByteArray.mk NK.toArray)).run Tryd.prog u = .ok (.string ⟨A1.toArray⟩) u := nsumT (A := ([108] : StrA)) (B := NK) hA1.symm (by first | omega | (show 1 + NK.length ≤ _; omega) | (show ([108] : StrA).length + 2 ≤ _; omega))
            obtain ⟨A2, hA2⟩ : ∃ X : StrA, X = A1 ++ chI := ⟨_, rfl⟩
            have lA2 : A2.length = 16 := by rw [hA2, List.length_append, lA1]; rfl
            have sA2 : ∀ u, (Op.stringOp .add (ByteArray.mk A1.toArray) (ByteArray.mk #[10, 123, 123, 105, 110, 99, 108, 117, 100, 101, 32, 97, 47])).run Tryd.prog u = .ok (.string ⟨A2.toArray⟩) u := nsumT (A := A1) (B := chI) hA2.symm (by first | omega | (show 1 + chI.length ≤ _; omega) | (show A1.length + 13 ≤ _; omega))
            obtain ⟨A3, hA3⟩ : ∃ X : StrA, X = A2 ++ NJ := ⟨_, rfl⟩
            have lA3 : A3.length = 18 := by rw [hA3, List.length_append, lA2]; omega
            have sA3 : ∀ u, (Op.stringOp .add (ByteArray.mk A2.toArray) (ByteArray.mk NJ.toArray)).run Tryd.prog u = .ok (.string ⟨A3.toArray⟩) u := nsumT (A := A2) (B := NJ) hA3.symm (by first | omega | (show 1 + NJ.length ≤ _; omega) | (show A2.length + 2 ≤ _; omega))
            obtain ⟨A4, hA4⟩ : ∃ X : StrA, X = A3 ++ [64, 49, 125, 125] := ⟨_, rfl⟩
            have lA4 : A4.length = 22 := by rw [hA4, List.length_append, lA3]; rfl
            have sA4 : ∀ u, (Op.stringOp .add (ByteArray.mk A3.toArray) (ByteArray.mk #[64, 49, 125, 125])).run Tryd.prog u = .ok (.string ⟨A4.toArray⟩) u := nsumT (A := A3) (B := [64, 49, 125, 125]) hA4.symm (by first | omega | (show 1 + [64, 49, 125, 125].length ≤ _; omega) | (show A3.length + 4 ≤ _; omega))
            obtain ⟨A5, hA5⟩ : ∃ X : StrA, X = A4 ++ [10, 114] := ⟨_, rfl⟩
            have lA5 : A5.length = 24 := by rw [hA5, List.length_append, lA4]; rfl
            have sA5 : ∀ u, (Op.stringOp .add (ByteArray.mk A4.toArray) (ByteArray.mk #[10, 114])).run Tryd.prog u = .ok (.string ⟨A5.toArray⟩) u := nsumT (A := A4) (B := [10, 114]) hA5.symm (by first | omega | (show 1 + [10, 114].length ≤ _; omega) | (show A4.length + 2 ≤ _; omega))
            obtain ⟨A6, hA6⟩ : ∃ X : StrA, X = A5 ++ NK := ⟨_, rfl⟩
            have lA6 : A6.length = 26 := by rw [hA6, List.length_append, lA5]; omega
            have sA6 : ∀ u, (Op.stringOp .add (ByteArray.mk A5.toArray) (ByteArray.mk NK.toArray)).run Tryd.prog u = .ok (.string ⟨A6.toArray⟩) u := nsumT (A := A5) (B := NK) hA6.symm (by first | omega | (show 1 + NK.length ≤ _; omega) | (show A5.length + 2 ≤ _; omega))
            have hAZ : AZ = A6 := by rw [hAZt, hA6, hA5, hA4, hA3, hA2, hA1]
            subst hAZ
            clear hA1 lA1 hA2 lA2 hA3 lA3 hA4 lA4 hA5 lA5 hA6 lA6
            clear hAZt hNK hJ lJ
            go_wp2_with (go_at_call 18; refine Calls.mono (HK.out _) ?_)
            first | (intro e wc he hbwc; subst he) | (rintro e wc ⟨rfl, hbwc⟩)
            have HBwc := (show Hid (Below wb.heap.size wb wc) from HB.out.trans (hbwc.mono HB.out.size))
            have HOwc := (show Hid (wc.ownsRow wb.heap.size 38 4 (.slice av k cv) k PC) from nrow_below HO.out hbwc)
            clear hbwc HB HO
            go_wp2_with (go_at_call 18; refine Calls.mono (HJ.out _) ?_)
            first | (intro e wd he hbwd; subst he) | (rintro e wd ⟨rfl, hbwd⟩)
            have HBwd := (show Hid (Below wb.heap.size wb wd) from HBwc.out.trans (hbwd.mono HBwc.out.size))
            have HOwd := (show Hid (wd.ownsRow wb.heap.size 38 4 (.slice av k cv) k PC) from nrow_below HOwc.out hbwd)
            clear hbwd HBwc HOwc
            go_wp2_with (go_at_call 18; refine Calls.mono (HK.out _) ?_)
            first | (intro e we he hbwe; subst he) | (rintro e we ⟨rfl, hbwe⟩)
            have HBwe := (show Hid (Below wb.heap.size wb we) from HBwd.out.trans (hbwe.mono HBwd.out.size))
            have HOwe := (show Hid (we.ownsRow wb.heap.size 38 4 (.slice av k cv) k PC) from nrow_below HOwd.out hbwe)
            clear hbwe HBwd HOwd
            go_wp2_with (go_at_call 18; refine Calls.mono (HK.out _) ?_)
            first | (intro e wf he hbwf; subst he) | (rintro e wf ⟨rfl, hbwf⟩)
            have HBwf := (show Hid (Below wb.heap.size wb wf) from HBwe.out.trans (hbwf.mono HBwe.out.size))
            have HOwf := (show Hid (wf.ownsRow wb.heap.size 38 4 (.slice av k cv) k PC) from nrow_below HOwe.out hbwf)
            clear hbwf HBwe HOwe
            go_wp2_with (go_at_call 19; refine Calls.mono (HPgc.out _) ?_)
            first | (intro e wp he hbwp; subst he) | (rintro e wp ⟨rfl, hbwp⟩)
            have HBwp := (show Hid (Below wb.heap.size wb wp) from HBwf.out.trans (hbwp.mono HBwf.out.size))
            have HOwp := (show Hid (wp.ownsRow wb.heap.size 38 4 (.slice av k cv) k PC) from nrow_below HOwf.out hbwp)
            clear hbwp HBwf HOwf
            go_wp2_with (at_builtin; refine wpList_append_own_at _ rfl _ _ 28 rfl wb.heap.size 38 i0 (.agg #[.string ⟨#[]⟩, .string ⟨#[]⟩, .int .i64 0, .string ⟨#[]⟩]) 4 56 Tryd.underlying28 hi hz0 hz1 hz2 rfl (by decide) _ _ _ rfl (World.ownsRow.alloc HOwp.out _) ⟨wp.heap.size, 0, none⟩ 1 1 [.string ⟨#[97]⟩, strA NK, .int .i64 1, strA AZ] rfl rfl (lit_cells _ _ _) ?d3 ?d4 ?d5 ?d6 ?_)
            case d3 => first | (intro u hu; simp at hu; rcases hu with rfl | rfl | rfl | rfl <;> rfl) | exact ⟨rfl, rfl, rfl, rfl⟩
            case d4 => unfold maxLen; omega
            case d5 => omega
            case d6 => have := HBwp.out.size; simp; omega
            intro v5 w5 hown5 hgrow5 _ _
            have HO5 := (show Hid (w5.ownsRow wb.heap.size 38 4 v5 (k + 1) (pgCs (chL n b true (k + 1)))) from (by rw [HPC.out]; exact hown5))
            have HB5 := (show Hid (Below wb.heap.size wb w5) from (HBwp.out.alloc HBwp.out.size _).grown hgrow5 (by have := HBwp.out.size; simp; omega) (fun k hk => (World.ownsRow.lt HOwp.out k hk).1))
            obtain ⟨a5, c5, hv5⟩ := nrow_len HO5.out
            subst hv5
            clear hown5 hgrow5 HOwp HBwp
            go_wp2
            exact ⟨⟨k + 1, by go_num, by omega, HO5, HB5⟩, by (simp [intOf]) <;> omega⟩
          | false =>
            rw [if_neg (by decide), hNK] at hAZ0
            have hAZt := hAZ0
            clear hAZ0
            obtain ⟨A1, hA1⟩ : ∃ X : StrA, X = ([108] : StrA) ++ NK := ⟨_, rfl⟩
            have lA1 : A1.length = 3 := by rw [hA1, List.length_append]; show 1 + NK.length = _; omega
            have sA1 : ∀ u, (Op.stringOp .add (ByteArray.mk #[108]) (ByteArray.mk NK.toArray)).run Tryd.prog u = .ok (.string ⟨A1.toArray⟩) u := nsumT (A := ([108] : StrA)) (B := NK) hA1.symm (by first | omega | (show 1 + NK.length ≤ _; omega) | (show ([108] : StrA).length + 2 ≤ _; omega))
            obtain ⟨A2, hA2⟩ : ∃ X : StrA, X = A1 ++ [10, 114] := ⟨_, rfl⟩
            have lA2 : A2.length = 5 := by rw [hA2, List.length_append, lA1]; rfl
            have sA2 : ∀ u, (Op.stringOp .add (ByteArray.mk A1.toArray) (ByteArray.mk #[10, 114])).run Tryd.prog u = .ok (.string ⟨A2.toArray⟩) u := nsumT (A := A1) (B := [10, 114]) hA2.symm (by first | omega | (show 1 + [10, 114].length ≤ _; omega) | (show A1.length + 2 ≤ _; omega))
            obtain ⟨A3, hA3⟩ : ∃ X : StrA, X = A2 ++ NK := ⟨_, rfl⟩
            have lA3 : A3.length = 7 := by rw [hA3, List.length_append, lA2]; omega
            have sA3 : ∀ u, (Op.stringOp .add (ByteArray.mk A2.toArray) (ByteArray.mk NK.toArray)).run Tryd.prog u = .ok (.string ⟨A3.toArray⟩) u := nsumT (A := A2) (B := NK) hA3.symm (by first | omega | (show 1 + NK.length ≤ _; omega) | (show A2.length + 2 ≤ _; omega))
            have hAZ : AZ = A3 := by rw [hAZt, hA3, hA2, hA1]
            subst hAZ
            clear hA1 lA1 hA2 lA2 hA3 lA3
            clear hAZt hNK
            go_wp2_with (go_at_call 18; refine Calls.mono (HK.out _) ?_)
            first | (intro e wc he hbwc; subst he) | (rintro e wc ⟨rfl, hbwc⟩)
            have HBwc := (show Hid (Below wb.heap.size wb wc) from HB.out.trans (hbwc.mono HB.out.size))
            have HOwc := (show Hid (wc.ownsRow wb.heap.size 38 4 (.slice av k cv) k PC) from nrow_below HO.out hbwc)
            clear hbwc HB HO
            go_wp2_with (go_at_call 18; refine Calls.mono (HK.out _) ?_)
            first | (intro e we he hbwe; subst he) | (rintro e we ⟨rfl, hbwe⟩)
            have HBwe := (show Hid (Below wb.heap.size wb we) from HBwc.out.trans (hbwe.mono HBwc.out.size))
            have HOwe := (show Hid (we.ownsRow wb.heap.size 38 4 (.slice av k cv) k PC) from nrow_below HOwc.out hbwe)
            clear hbwe HBwc HOwc
            go_wp2_with (go_at_call 18; refine Calls.mono (HK.out _) ?_)
            first | (intro e wf he hbwf; subst he) | (rintro e wf ⟨rfl, hbwf⟩)
            have HBwf := (show Hid (Below wb.heap.size wb wf) from HBwe.out.trans (hbwf.mono HBwe.out.size))
            have HOwf := (show Hid (wf.ownsRow wb.heap.size 38 4 (.slice av k cv) k PC) from nrow_below HOwe.out hbwf)
            clear hbwf HBwe HOwe
            go_wp2_with (go_at_call 19; refine Calls.mono (HPgc.out _) ?_)
            first | (intro e wp he hbwp; subst he) | (rintro e wp ⟨rfl, hbwp⟩)
            have HBwp := (show Hid (Below wb.heap.size wb wp) from HBwf.out.trans (hbwp.mono HBwf.out.size))
            have HOwp := (show Hid (wp.ownsRow wb.heap.size 38 4 (.slice av k cv) k PC) from nrow_below HOwf.out hbwp)
            clear hbwp HBwf HOwf
            go_wp2_with (at_builtin; refine wpList_append_own_at _ rfl _ _ 28 rfl wb.heap.size 38 i0 (.agg #[.string ⟨#[]⟩, .string ⟨#[]⟩, .int .i64 0, .string ⟨#[]⟩]) 4 56 Tryd.underlying28 hi hz0 hz1 hz2 rfl (by decide) _ _ _ rfl (World.ownsRow.alloc HOwp.out _) ⟨wp.heap.size, 0, none⟩ 1 1 [.string ⟨#[97]⟩, strA NK, .int .i64 1, strA AZ] rfl rfl (lit_cells _ _ _) ?d3 ?d4 ?d5 ?d6 ?_)
            case d3 => first | (intro u hu; simp at hu; rcases hu with rfl | rfl | rfl | rfl <;> rfl) | exact ⟨rfl, rfl, rfl, rfl⟩
            case d4 => unfold maxLen; omega
            case d5 => omega
            case d6 => have := HBwp.out.size; simp; omega
            intro v5 w5 hown5 hgrow5 _ _
            have HO5 := (show Hid (w5.ownsRow wb.heap.size 38 4 v5 (k + 1) (pgCs (chL n b false (k + 1)))) from (by rw [HPC.out]; exact hown5))
            have HB5 := (show Hid (Below wb.heap.size wb w5) from (HBwp.out.alloc HBwp.out.size _).grown hgrow5 (by have := HBwp.out.size; simp; omega) (fun k hk => (World.ownsRow.lt HOwp.out k hk).1))
            obtain ⟨a5, c5, hv5⟩ := nrow_len HO5.out
            subst hv5
            clear hown5 hgrow5 HOwp HBwp
            go_wp2
            exact ⟨⟨k + 1, by go_num, by omega, HO5, HB5⟩, by (simp [intOf]) <;> omega⟩
      · have hke : True := trivial
        have hkn : k = n := by omega
        subst hkn
        have hstop : ¬ ((k : Int) < (k : Int)) := by omega
        have HP5 := (show Hid (∀ u, Below wr.heap.size wr u → PgsN u (.slice av k cv) (chL k b c k)) from fun u hu => by have := pgs_row (l := chL k b c k) (w := u) (B := wb.heap.size) (v := .slice av k cv) (by rw [chL_len]; exact nrow_below HOw.out hu); exact this)
        have X1 := (show Hid (∀ (u : World) (vm : Value), Below wr.heap.size wr u → StrsN u vm [[98], [97]] → Calls Tryd.prog 16 #[.slice av k cv, vm, .agg #[.string ⟨#[97]⟩, strA (nmN 0), .int .i64 0]] u fun e w' => (∃ v', e = .returned (.tuple #[strA (chR k b c).1, v', .int .i64 (chR k b c).2.2]) ∧ w'.ownsRow u.heap.size 24 3 v' (chR k b c).2.1.length (rfCs (chR k b c).2.1)) ∧ Below u.heap.size u w') from fun u vm hu hs => nexpand_any (chL k b c k) (by rw [chL_len]; omega) (fun p hp => by have := chL_txt k b c k p hp; omega) [[98], [97]] (by decide) ⟨[97], nmN 0, 0⟩ _ vm u (HP5.out u hu) hs)
        have HE1 := (show Hid (9 < k → (chR k b c).1 = [] ∧ (chR k b c).2.1.length = 0 ∧ (chR k b c).2.2 = 4) from fun q => ch_deep k b c q (by omega))
        have HE2 := (show Hid (¬ 9 < k → c = true → (chR k b c).1 = [] ∧ (chR k b c).2.1.length = 0 ∧ (chR k b c).2.2 = 3) from fun q q2 => by subst q2; exact ch_cyc k b (by omega) (by omega) (by omega))
        have HE3 := (show Hid (¬ 9 < k → c = false → (chR k b c).1 = rwN k k ∧ (chR k b c).2.1.length = k - 1 ∧ (chR k b c).2.2 = 0) from fun q q2 => by subst q2; exact ch_ok k b (by omega) (by omega))
        have HN0 := (show Hid (∀ u, Calls Tryd.prog 18 #[.int .i64 0] u fun e w' => e = .returned (strA (nmN 0)) ∧ Below u.heap.size u w') from fun u => nname_any 0 (by decide) u)
        obtain ⟨R1, hR1⟩ : ∃ R1, chR k b c = R1 := ⟨_, rfl⟩
        rw [hR1] at X1 HE1 HE2 HE3
        obtain ⟨S1, L1, F1⟩ := R1
        simp only at X1 HE1 HE2 HE3
        generalize nmN 0 = NZ at *
        clear hR1 HP5 hlt
        obtain ⟨W4, hW4⟩ : ∃ W4, W4 = wr.alloc (.cells #[.string ⟨#[98]⟩, .string ⟨#[97]⟩] 9) := ⟨_, rfl⟩
        have hk4 : W4.heap[wr.heap.size]? = some (.cells ([[98], [97]].map strA).toArray 9 (0, 0)) := by rw [hW4]; exact blk_newN _ _ _
        have hb4 : Below wr.heap.size wr W4 := by rw [hW4]; exact (Below.refl _ _).alloc (Nat.le_refl _) _
        have HS4 : Hid (StrsN W4 (.slice (some ⟨wr.heap.size, 0, none⟩) 2 2) [[98], [97]]) := strs_blk (l := [[98], [97]]) hk4
        have HB4 := (show Hid (Below wr.heap.size wr W4) from hb4)
        have hX4 := HN0.out W4
        rw [hW4] at hX4
        have HX4 := (show Hid _ from hX4)
        have HSZ4 : Hid (wr.heap.size + 1 = W4.heap.size) := by show _ = _; rw [hW4]; simp
        clear hX4 hk4 hb4 HN0
        go_wp2_with (go_at_call 18; refine Calls.mono HX4.out ?_)
        rw [← hW4]
        first | (intro e wc he hbc; subst he) | (rintro e wc ⟨rfl, hbc⟩)
        (try rw [HSZ4.out] at hbc)
        have HBc := (show Hid (Below wr.heap.size wr wc) from HB4.out.trans (hbc.mono HB4.out.size))
        have HX5 := (show Hid _ from X1.out wc _ HBc.out (HS4.out.below hbc))
        clear hbc HX4 hW4 HB4 HS4 HSZ4 X1
        go_wp2_with (go_at_call 16; refine Calls.mono HX5.out ?_)
        first | (intro e we ve he h6 hb6; subst he) | (rintro e we ⟨ve, rfl, h6⟩ hb6) | (rintro e we ⟨⟨ve, rfl, h6⟩, hb6⟩)
        have HBx1 := (show Hid (Below wb.heap.size wb we) from (HB.out.trans (HBc.out.mono HB.out.size)).trans (hb6.mono (Nat.le_trans HB.out.size HBc.out.size)))
        have HBe := (show Hid (Below w.heap.size w we) from HB1.out.trans (HBx1.out.mono HB1.out.size))
        obtain ⟨a6, c6, hv6⟩ := nrow_len h6
        subst hv6
        clear hb6 h6 HX5 HBc HB HOw
        by_cases q9 : 9 < k
        · obtain ⟨y1, y2, y3⟩ := HE1.out q9
          have f9 : (9 : Int) < (k : Int) := by omega
          subst y1 y3
          rw [y2]
          clear HE1 HE2 HE3 y2
          go_wp2
          go_ret
          exact ⟨rfl, HBe.out⟩
        · have f9 : ¬ (9 : Int) < (k : Int) := by omega
          cases c with
          | true =>
            obtain ⟨y1, y2, y3⟩ := HE2.out q9 rfl
            subst y1 y3
            rw [y2]
            clear HE1 HE2 HE3 y2
            go_wp2
            go_ret
            exact ⟨rfl, HBe.out⟩
          | false =>
            obtain ⟨y1, y2, y3⟩ := HE3.out q9 rfl
            subst y3
            obtain ⟨q, hq⟩ : ∃ q : Nat, q = L1.length := ⟨_, rfl⟩
            rw [← hq]
            obtain ⟨SS, hSS⟩ : ∃ SS, SS = S1 := ⟨_, rfl⟩
            rw [← hSS]
            obtain ⟨n, hn⟩ : ∃ n : Nat, n = k := ⟨_, rfl⟩
            subst hn
            have HSS := (show Hid (SS = rwN n n ∧ (n : Int) - 1 = (q : Int)) from ⟨by rw [hSS, y1], by omega⟩)
            clear HE1 HE2 HE3 y2 y1 hSS hq HBe
            go_wp2
            go_loopw [14, 15] (fun t i wr => ∃ j : Nat, t = strA (lwN j) ∧ i = .int .i64 (j : Int) ∧ j ≤ n ∧ Hid (Below wb.heap.size wb wr)) (fun _ i _ => n - (intOf i).toNat)
            case atStart => exact ⟨0, rfl, rfl, Nat.zero_le _, HBx1⟩
            case round =>
              obtain ⟨j, rfl, rfl, hj, HBs⟩ := hrel
              have hji : (j : Int) ≤ 20 := by omega
              by_cases hlt : j < n
              · have hlti : (j : Int) < (n : Int) := by omega
                have hl : (lwN j).length ≤ 200 := by rw [lw_len]; omega
                have HK := (show Hid (∀ u, Calls Tryd.prog 18 #[.int .i64 (j : Int)] u fun e w' => e = .returned (strA (nmN j)) ∧ Below u.heap.size u w') from fun u => nname_any j (by omega) u)
                have hR2 : lwN (j + 1) = lwN j ++ [108] ++ nmN j ++ [10] := rfl
                have lK : (nmN j).length = 2 := rfl
                generalize nmN j = NK at *
                obtain ⟨T, hT⟩ : ∃ T, T = lwN j := ⟨_, rfl⟩
                obtain ⟨T2, hT2⟩ : ∃ T2, T2 = lwN (j + 1) := ⟨_, rfl⟩
                have HT2 := (show Hid (T2 = lwN (j + 1)) from hT2)
                rw [← hT, ← hT2] at hR2
                rw [← hT] at hl
                rw [← hT]
                clear hT hT2
                obtain ⟨A1, hA1⟩ : ∃ X : StrA, X = T ++ [108] := ⟨_, rfl⟩
                obtain ⟨A2, hA2⟩ : ∃ X : StrA, X = A1 ++ NK := ⟨_, rfl⟩
                have l1 : A1.length ≤ 201 := by rw [hA1, List.length_append]; show T.length + 1 ≤ 201; omega
                have l2 : A2.length ≤ 203 := by rw [hA2, List.length_append]; omega
                have sa : ∀ u, (Op.stringOp .add (ByteArray.mk T.toArray) (ByteArray.mk #[108])).run Tryd.prog u = .ok (.string ⟨A1.toArray⟩) u := nsumT (B := [108]) hA1.symm (by show T.length + 1 ≤ _; omega)
                have sb : ∀ u, (Op.stringOp .add (ByteArray.mk A1.toArray) (ByteArray.mk NK.toArray)).run Tryd.prog u = .ok (.string ⟨A2.toArray⟩) u := nsumT hA2.symm (by omega)
                have sc : ∀ u, (Op.stringOp .add (ByteArray.mk A2.toArray) (ByteArray.mk #[10])).run Tryd.prog u = .ok (.string ⟨T2.toArray⟩) u := nsumT (B := [10]) (by rw [hR2, hA2, hA1]) (by show A2.length + 1 ≤ _; omega)
                clear hA1 hA2 l1 l2 hR2 lK hl
                have HBx0 := HBs
                go_wp2_with (go_at_call 18; refine Calls.mono (HK.out _) ?_)
                first | (intro e wx he hbx; subst he) | (rintro e wx ⟨rfl, hbx⟩)
                have HBx := (show Hid (Below wb.heap.size wb wx) from HBx0.out.trans (hbx.mono HBx0.out.size))
                clear hbx
                go_wp2
                exact ⟨⟨j + 1, (by rw [HT2.out]), by go_num, by omega, HBx⟩, by (simp [intOf]) <;> omega⟩
              · have hjn : j = n := by omega
                have hstop2 : ¬ ((j : Int) < (n : Int)) := by omega
                obtain ⟨ww, hww⟩ : ∃ ww, ww = wr := ⟨_, rfl⟩
                subst hww
                have HBr2 := HBs
                have hn1i : (1 : Int) ≤ (n : Int) := by omega
                rw [hjn]
                rw [hjn] at hstop2
                clear HBs hj hji hlt hjn j
                go_wp2
                go_loopw [14, 16] (fun t i wr => ∃ (m : Nat) (iv : Int), t = strA (rwN n m) ∧ i = .int .i64 iv ∧ iv = (n : Int) - 1 - (m : Int) ∧ m ≤ n ∧ Hid (Below wb.heap.size wb wr)) (fun _ i _ => (intOf i + 1).toNat)
                case atStart => exact ⟨0, _, rfl, rfl, by omega, Nat.zero_le _, HBr2⟩
                case round =>
                  obtain ⟨m, iv, rfl, rfl, hiv, hm, HBs⟩ := hrel
                  by_cases hlt : m < n
                  · obtain ⟨p, hp⟩ : ∃ p : Nat, p = n - 1 - m := ⟨_, rfl⟩
                    have hivp : iv = (p : Int) := by omega
                    subst hivp
                    have hp20 : (p : Int) < 20 := by omega
                    have hl : (rwN n m).length ≤ 200 := by rw [rw_len]; omega
                    have HK := (show Hid (∀ u, Calls Tryd.prog 18 #[.int .i64 (p : Int)] u fun e w' => e = .returned (strA (nmN p)) ∧ Below u.heap.size u w') from fun u => nname_any p (by omega) u)
                    have hR2 : rwN n (m + 1) = rwN n m ++ [114] ++ nmN p ++ [10] := by rw [hp]; rfl
                    have lK : (nmN p).length = 2 := rfl
                    generalize nmN p = NK at *
                    obtain ⟨T, hT⟩ : ∃ T, T = rwN n m := ⟨_, rfl⟩
                    obtain ⟨T2, hT2⟩ : ∃ T2, T2 = rwN n (m + 1) := ⟨_, rfl⟩
                    have HT2 := (show Hid (T2 = rwN n (m + 1)) from hT2)
                    rw [← hT, ← hT2] at hR2
                    rw [← hT] at hl
                    rw [← hT]
                    clear hT hT2
                    obtain ⟨A1, hA1⟩ : ∃ X : StrA, X = T ++ [114] := ⟨_, rfl⟩
                    obtain ⟨A2, hA2⟩ : ∃ X : StrA, X = A1 ++ NK := ⟨_, rfl⟩
                    have l1 : A1.length ≤ 201 := by rw [hA1, List.length_append]; show T.length + 1 ≤ 201; omega
                    have l2 : A2.length ≤ 203 := by rw [hA2, List.length_append]; omega
                    have sa : ∀ u, (Op.stringOp .add (ByteArray.mk T.toArray) (ByteArray.mk #[114])).run Tryd.prog u = .ok (.string ⟨A1.toArray⟩) u := nsumT (B := [114]) hA1.symm (by show T.length + 1 ≤ _; omega)
                    have sb : ∀ u, (Op.stringOp .add (ByteArray.mk A1.toArray) (ByteArray.mk NK.toArray)).run Tryd.prog u = .ok (.string ⟨A2.toArray⟩) u := nsumT hA2.symm (by omega)
                    have sc : ∀ u, (Op.stringOp .add (ByteArray.mk A2.toArray) (ByteArray.mk #[10])).run Tryd.prog u = .ok (.string ⟨T2.toArray⟩) u := nsumT (B := [10]) (by rw [hR2, hA2, hA1]) (by show A2.length + 1 ≤ _; omega)
                    clear hA1 hA2 l1 l2 hR2 lK hl
                    have hiv0 : (0 : Int) ≤ (p : Int) := by omega
                    have HMp : Hid (m < n ∧ (p : Int) = (n : Int) - 1 - (m : Int)) := ⟨hlt, by omega⟩
                    clear hp hiv hlt
                    have HBx0 := HBs
                    go_wp2_with (go_at_call 18; refine Calls.mono (HK.out _) ?_)
                    first | (intro e wx he hbx; subst he) | (rintro e wx ⟨rfl, hbx⟩)
                    have HBx := (show Hid (Below wb.heap.size wb wx) from HBx0.out.trans (hbx.mono HBx0.out.size))
                    clear hbx
                    go_wp2
                    have hmp := HMp.out
                    exact ⟨⟨m + 1, _, (by rw [HT2.out]), rfl, by first | omega | (go_num), by omega, HBx⟩, by (simp [intOf]) <;> omega⟩
                  · have hmn : m = n := by omega
                    have hiv1 : iv = -1 := by omega
                    subst hiv1
                    subst hmn
                    have hS := HSS.out
                    rw [← hS.1]
                    have hq := hS.2
                    have e1 : (SS == SS) = true := by simp
                    have HBz := (show Hid (Below w.heap.size w wr) from HB1.out.trans (HBs.out.mono HB1.out.size))
                    clear hS HSS hiv
                    go_wp2
                    go_ret
                    exact ⟨rfl, HBz.out⟩
end Go.Proofs.YtkjicdldlnefeaaDoor
