/- IncludeSizes: so much may be put together; walked. -/
import Derived.Test.YtkjicdldlnefeaaDoorNSum
import Derived.Test.YtkjicdldlnefeaaDoorPlainRep
set_option linter.unusedVariables false
namespace Go.Proofs.YtkjicdldlnefeaaDoor
open Go.RowKit

set_option maxHeartbeats 32000000 in
set_option maxRecDepth 20000 in
theorem wsizes (z : Int) (hz : -9223372036854775808 ≤ z ∧ z ≤ 9223372036854775807) (w : World) :
    Calls Tryd.prog 8 #[.int .i64 z] w fun e w' => e = .returned (.bool true) ∧ Below w.heap.size w w' := by
  have HS : Hid (∀ u, Calls Tryd.prog 9 #[] u fun e w' => e = .returned (.bool true) ∧ Below u.heap.size u w') := fun u => nshown_any u
  obtain ⟨N, hN, hf⟩ := nfoldT z 1100 hz.1 (by omega)
  obtain ⟨hza, hzb⟩ := hz
  rcases hf with ⟨g1, g2⟩ | ⟨g1, g2⟩
  all_goals
    go_enter Tryd.func8, Tryd.ntmps8
    go_wp2_with (go_at_call 9; refine Calls.mono (HS.out _) ?_)
    first | (intro e wb he hb1; subst he) | (rintro e wb ⟨rfl, hb1⟩)
    have HB1 := (show Hid (Below w.heap.size w wb) from hb1)
    clear hb1 HS
    go_wp2
    go_loopw [4, 5] (fun t i wr => ∃ k : Nat, t = strA (repN szU k) ∧ i = .int .i64 (k : Int) ∧ k ≤ N ∧ Hid (Below w.heap.size w wr)) (fun _ i _ => N - (intOf i).toNat)
    case atStart => exact ⟨0, rfl, rfl, Nat.zero_le _, HB1⟩
    case round =>
      obtain ⟨k, rfl, rfl, hk, HB⟩ := hrel
      have hki : (k : Int) < 1100 := by omega
      have hl : (repN szU k).length = k * 16 := rep_len szU k
      have hl2 : (repN szU k).length ≤ 17600 := by omega
      clear hl
      by_cases hlt : k < N
      · have hlti : (k : Int) < (N : Int) := by omega
        have sm : ∀ u, (Op.stringOp .add (ByteArray.mk (repN szU k).toArray) (ByteArray.mk #[97, 98, 99, 100, 101, 102, 103, 104, 105, 106, 107, 108, 109, 110, 111, 10])).run Tryd.prog u = .ok (.string ⟨(repN szU (k + 1)).toArray⟩) u := nsumT (B := szU ++ [10]) (rep_snoc szU k).symm (by have : (szU ++ [10]).length = 16 := rfl; omega)
        obtain ⟨T2, hT2⟩ : ∃ T2, T2 = repN szU (k + 1) := ⟨_, rfl⟩
        have HT2 := (show Hid (T2 = repN szU (k + 1)) from hT2)
        rw [← hT2] at sm
        clear hT2 hl2
        generalize repN szU k = T at *
        go_wp2
        exact ⟨⟨k + 1, (by rw [HT2.out]), by go_num, by omega, HB⟩, by (simp [intOf]) <;> omega⟩
      · have hkN : k = N := by omega
        subst hkN
        have hstop : ¬ ((k : Int) < (k : Int)) := by omega
        have s1 := sz_one k
        have s2 := sz_two k
        obtain ⟨T, hT⟩ : ∃ T, T = repN szU k := ⟨_, rfl⟩
        rw [← hT] at s1 s2 hl2
        rw [← hT]
        clear hT
        have hst : szT.length = 31 := rfl
        have P1 : Hid (∀ u, Calls Tryd.prog 19 #[.string ⟨#[120]⟩, .int .i64 1, strA T] u fun e w' => e = .returned (.agg #[.string ⟨#[97]⟩, .string ⟨#[120]⟩, .int .i64 1, strA T]) ∧ Below u.heap.size u w') := fun u => npage_any [120] 1 T u
        have P2 : Hid (∀ u, Calls Tryd.prog 19 #[.string ⟨#[116, 119, 111]⟩, .int .i64 1, .string ⟨#[123, 123, 105, 110, 99, 108, 117, 100, 101, 32, 97, 47, 120, 125, 125, 10, 123, 123, 105, 110, 99, 108, 117, 100, 101, 32, 97, 47, 120, 125, 125]⟩] u fun e w' => e = .returned (.agg #[.string ⟨#[97]⟩, .string ⟨#[116, 119, 111]⟩, .int .i64 1, .string ⟨#[123, 123, 105, 110, 99, 108, 117, 100, 101, 32, 97, 47, 120, 125, 125, 10, 123, 123, 105, 110, 99, 108, 117, 100, 101, 32, 97, 47, 120, 125, 125]⟩]) ∧ Below u.heap.size u w') := fun u => npage_any [116, 119, 111] 1 szT u
        have htx : ∀ p ∈ szL T, p.text.length ≤ 200000000 := fun p hp => by
          simp only [szL, List.mem_cons, List.not_mem_nil, or_false] at hp
          rcases hp with rfl | rfl
          · show T.length ≤ _; omega
          · show szT.length ≤ _; omega
        have X1 := (show Hid (∀ (u : World) (vp vm : Value), PgsN u vp (szL T) → StrsN u vm [[97]] → Calls Tryd.prog 16 #[vp, vm, .agg #[.string ⟨#[97]⟩, .string ⟨#[120]⟩, .int .i64 0]] u fun e w' => (∃ v', e = .returned (.tuple #[strA (expandA (szL T) [[97]] ⟨[97], [120], 0⟩).1, v', .int .i64 (expandA (szL T) [[97]] ⟨[97], [120], 0⟩).2.2]) ∧ w'.ownsRow u.heap.size 24 3 v' (expandA (szL T) [[97]] ⟨[97], [120], 0⟩).2.1.length (rfCs (expandA (szL T) [[97]] ⟨[97], [120], 0⟩).2.1)) ∧ Below u.heap.size u w') from fun u vp vm q1 q2 => nexpand_any (szL T) (by show 2 ≤ _; omega) htx [[97]] (by decide) ⟨[97], [120], 0⟩ vp vm u q1 q2)
        have X2 := (show Hid (∀ (u : World) (vp vm : Value), PgsN u vp (szL T) → StrsN u vm [[97]] → Calls Tryd.prog 16 #[vp, vm, .agg #[.string ⟨#[97]⟩, .string ⟨#[116, 119, 111]⟩, .int .i64 0]] u fun e w' => (∃ v', e = .returned (.tuple #[strA (expandA (szL T) [[97]] ⟨[97], [116, 119, 111], 0⟩).1, v', .int .i64 (expandA (szL T) [[97]] ⟨[97], [116, 119, 111], 0⟩).2.2]) ∧ w'.ownsRow u.heap.size 24 3 v' (expandA (szL T) [[97]] ⟨[97], [116, 119, 111], 0⟩).2.1.length (rfCs (expandA (szL T) [[97]] ⟨[97], [116, 119, 111], 0⟩).2.1)) ∧ Below u.heap.size u w') from fun u vp vm q1 q2 => nexpand_any (szL T) (by show 2 ≤ _; omega) htx [[97]] (by decide) ⟨[97], [116, 119, 111], 0⟩ vp vm u q1 q2)
        rw [s1] at X1
        rw [s2] at X2
        clear s1 s2 htx hst
        have sd := nsumT (A := T) (B := T) rfl (by omega)
        obtain ⟨TT, hTT⟩ : ∃ TT, TT = T ++ T := ⟨_, rfl⟩
        rw [← hTT] at sd X2
        clear hTT hl2
        obtain ⟨R1, hR1⟩ : ∃ R1 : StrA × List RfA × Int, (if k ≤ 1024 then (T, [], 0) else ([], [], 7)) = R1 := ⟨_, rfl⟩
        obtain ⟨R2, hR2⟩ : ∃ R2 : StrA × List RfA × Int, (if k ≤ 512 then (TT, [⟨[97], [120], 1⟩], 0) else ([], [], 7)) = R2 := ⟨_, rfl⟩
        rw [hR1] at X1
        rw [hR2] at X2
        have HE1 := (show Hid _ from hR1)
        have HE2 := (show Hid _ from hR2)
        clear hR1 hR2
        obtain ⟨S1, L1, F1⟩ := R1
        obtain ⟨S2, L2, F2⟩ := R2
        simp only at X1 X2
        have e1 : (T == T) = true := by simp
        have e2 : (TT == TT) = true := by simp
        go_wp2_with (go_at_call 19; refine Calls.mono (P1.out _) ?_)
        first | (intro e wc he hb2; subst he) | (rintro e wc ⟨rfl, hb2⟩)
        have HB2 := (show Hid (Below w.heap.size w wc) from HB.out.trans (hb2.mono HB.out.size))
        clear hb2 P1
        go_wp2_with (go_at_call 19; refine Calls.mono (P2.out _) ?_)
        first | (intro e wd he hb3; subst he) | (rintro e wd ⟨rfl, hb3⟩)
        have HB3 := (show Hid (Below w.heap.size w wd) from HB2.out.trans (hb3.mono HB2.out.size))
        clear hb3 P2 HB2
        obtain ⟨W4, hW4⟩ : ∃ W4, W4 = wd.alloc (.cells #[.string ⟨#[97]⟩, .string ⟨#[120]⟩, .int .i64 1, strA T, .string ⟨#[97]⟩, .string ⟨#[116, 119, 111]⟩, .int .i64 1, .string ⟨#[123, 123, 105, 110, 99, 108, 117, 100, 101, 32, 97, 47, 120, 125, 125, 10, 123, 123, 105, 110, 99, 108, 117, 100, 101, 32, 97, 47, 120, 125, 125]⟩] 38) := ⟨_, rfl⟩
        have hk4 : W4.heap[wd.heap.size]? = some (.cells (pgCs (szL T)).toArray 38 (0, 0)) := by rw [hW4]; exact blk_newN _ _ _
        have hb4 : Below w.heap.size w W4 := by rw [hW4]; exact HB3.out.alloc HB3.out.size _
        have hs4 : W4.heap.size = wd.heap.size + 1 := by rw [hW4]; simp
        obtain ⟨W5, hW5⟩ : ∃ W5, W5 = W4.alloc (.cells #[.string ⟨#[97]⟩] 9) := ⟨_, rfl⟩
        have hk5 : W5.heap[wd.heap.size + 1]? = some (.cells ([[97]].map strA).toArray 9 (0, 0)) := by rw [hW5, ← hs4]; exact blk_newN _ _ _
        have HB5 : Hid (Below w.heap.size w W5) := by show Below _ _ _; rw [hW5]; exact hb4.alloc hb4.size _
        have hk45 : W5.heap[wd.heap.size]? = some (.cells (pgCs (szL T)).toArray 38 (0, 0)) := by rw [hW5]; exact blk_allocN hk4 _
        have HP5 : Hid (PgsN W5 (.slice (some ⟨wd.heap.size, 0, none⟩) 2 2) (szL T)) := pgs_blk (l := szL T) hk45
        have HS5 : Hid (StrsN W5 (.slice (some ⟨wd.heap.size + 1, 0, none⟩) 1 1) [[97]]) := strs_blk (l := [[97]]) hk5
        have hX := X1.out W5 _ _ HP5.out HS5.out
        rw [hW5, hW4] at hX
        have HX := (show Hid _ from hX)
        have HSZ5 : Hid (wd.heap.size + 1 + 1 = W5.heap.size) := by show _ = _; rw [hW5, hW4]; simp
        clear hk4 hk45 hb4 hs4 hk5 hX X1 HS5
        go_wp2_with (go_at_call 16; refine Calls.mono HX.out ?_)
        rw [← hW4, ← hW5]
        first | (intro e we ve he h6 hb6; subst he) | (rintro e we ⟨ve, rfl, h6⟩ hb6) | (rintro e we ⟨⟨ve, rfl, h6⟩, hb6⟩)
        (try rw [HSZ5.out] at hb6)
        have HB6 := (show Hid (Below w.heap.size w we) from HB5.out.trans (hb6.mono HB5.out.size))
        have HP6 := HP5.out.below hb6
        obtain ⟨a6, c6, hv6⟩ := nrow_len h6
        subst hv6
        obtain ⟨W7, hW7⟩ : ∃ W7, W7 = we.alloc (.cells #[.string ⟨#[97]⟩] 9) := ⟨_, rfl⟩
        have hk7 : W7.heap[we.heap.size]? = some (.cells ([[97]].map strA).toArray 9 (0, 0)) := by rw [hW7]; exact blk_newN _ _ _
        have hb7a : Below we.heap.size we W7 := by rw [hW7]; exact (Below.refl _ _).alloc (Nat.le_refl _) _
        have HB7 := (show Hid (Below w.heap.size w W7) from HB6.out.trans (hb7a.mono HB6.out.size))
        have HS7 : StrsN W7 (.slice (some ⟨we.heap.size, 0, none⟩) 1 1) [[97]] := strs_blk (l := [[97]]) hk7
        have hX7 := X2.out W7 _ _ (HP6.below hb7a) HS7
        rw [hW7] at hX7
        have HX7 := (show Hid _ from hX7)
        have HSZ7 : Hid (we.heap.size + 1 = W7.heap.size) := by show _ = _; rw [hW7]; simp
        clear hb6 h6 HX HB5 HP5 HP6 X2 hW4 hW5 HB3 hX7 hk7 hb7a HS7 HSZ5
        go_wp2_with (go_at_call 16; refine Calls.mono HX7.out ?_)
        rw [← hW7]
        first | (intro e wf vf he h8 hb8; subst he) | (rintro e wf ⟨vf, rfl, h8⟩ hb8) | (rintro e wf ⟨⟨vf, rfl, h8⟩, hb8⟩)
        (try rw [HSZ7.out] at hb8)
        have HB8 := (show Hid (Below w.heap.size w wf) from HB7.out.trans (hb8.mono HB7.out.size))
        obtain ⟨a8, c8, hv8⟩ := nrow_len h8
        subst hv8
        clear hb8 h8 HX7 hW7 HB7 HSZ7 HB6
        by_cases q2 : k ≤ 512
        · have y1 := HE1.out
          have y2 := HE2.out
          rw [if_pos (by omega : k ≤ 1024)] at y1
          rw [if_pos q2] at y2
          cases y1
          cases y2
          have f1 : (k : Int) ≤ 1024 := by omega
          have f2 : (k : Int) ≤ 512 := by omega
          have f3 : ¬ (1024 : Int) < (k : Int) := by omega
          clear HE1 HE2
          go_wp2
          go_ret
          exact ⟨rfl, HB8.out⟩
        · by_cases q1 : k ≤ 1024
          · have y1 := HE1.out
            have y2 := HE2.out
            rw [if_pos q1] at y1
            rw [if_neg q2] at y2
            cases y1
            cases y2
            have f1 : (k : Int) ≤ 1024 := by omega
            have f2 : ¬ (k : Int) ≤ 512 := by omega
            have f3 : ¬ (1024 : Int) < (k : Int) := by omega
            clear HE1 HE2
            go_wp2
            go_ret
            exact ⟨rfl, HB8.out⟩
          · have y1 := HE1.out
            have y2 := HE2.out
            rw [if_neg q1] at y1
            rw [if_neg q2] at y2
            cases y1
            cases y2
            have f1 : ¬ (k : Int) ≤ 1024 := by omega
            have f2 : ¬ (k : Int) ≤ 512 := by omega
            have f3 : (1024 : Int) < (k : Int) := by omega
            clear HE1 HE2
            go_wp2
            go_ret
            exact ⟨rfl, HB8.out⟩
end Go.Proofs.YtkjicdldlnefeaaDoor
