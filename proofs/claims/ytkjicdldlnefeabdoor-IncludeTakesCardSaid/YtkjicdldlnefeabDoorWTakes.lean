/- IncludeTakes: so many documents may be taken in; walked. -/
import Derived.Test.YtkjicdldlnefeabDoorNSum
import Derived.Test.YtkjicdldlnefeabDoorPlainTk
set_option linter.unusedVariables false
namespace Go.Proofs.YtkjicdldlnefeabDoor
open Go.RowKit

set_option maxHeartbeats 64000000 in
set_option maxRecDepth 20000 in
theorem wtakes (z : Int) (hz : -9223372036854775808 ≤ z ∧ z ≤ 9223372036854775807) (y : Int) (hy : -9223372036854775808 ≤ y ∧ y ≤ 9223372036854775807) (w : World) :
    Calls Tryd.prog 4 #[.int .i64 z, .int .i64 y] w fun e w' => e = .returned (.bool true) ∧ Below w.heap.size w w' := by
  have HS : Hid (∀ u, Calls Tryd.prog 5 #[] u fun e w' => e = .returned (.bool true) ∧ Below u.heap.size u w') := fun u => nshown_any u
  obtain ⟨N, hN, hf⟩ := nfoldT z 300 hz.1 (by omega)
  obtain ⟨K, hK, hg⟩ := nfoldT y 40 hy.1 (by omega)
  obtain ⟨hza, hzb⟩ := hz
  obtain ⟨hya, hyb⟩ := hy
  obtain ⟨P, hP⟩ : ∃ P : Nat, P = K * (N + 1) := ⟨_, rfl⟩
  have HPr := (show Hid (P = K * (N + 1)) from hP)
  have hPi : (K : Int) * ((N : Int) + 1) = (P : Int) := by rw [hP]; simp
  have hPb : (P : Int) ≤ 12000 := by
    have : K * (N + 1) ≤ 40 * 300 := Nat.mul_le_mul (by omega) (by omega)
    omega
  clear hP
  rcases hf with ⟨g1, g2⟩ | ⟨g1, g2⟩ <;> rcases hg with ⟨g3, g4⟩ | ⟨g3, g4⟩
  all_goals
    go_enter Tryd.func4, Tryd.ntmps4
    go_wp2_with (go_at_call 5; refine Calls.mono (HS.out _) ?_)
    first | (intro e wb he hb1; subst he) | (rintro e wb ⟨rfl, hb1⟩)
    have HB1 := (show Hid (Below w.heap.size w wb) from hb1)
    clear hb1 HS
    go_wp2
    go_loopw [6, 7] (fun t i wr => ∃ k : Nat, t = strA (repN tkE k) ∧ i = .int .i64 (k : Int) ∧ k ≤ N ∧ Hid (Below w.heap.size w wr)) (fun _ i _ => N - (intOf i).toNat)
    case atStart => exact ⟨0, rfl, rfl, Nat.zero_le _, HB1⟩
    case round =>
      obtain ⟨k, rfl, rfl, hk, HB⟩ := hrel
      have hki : (k : Int) < 300 := by omega
      have hl : (repN tkE k).length = k * 16 := rep_len tkE k
      have hl2 : (repN tkE k).length ≤ 17600 := by omega
      clear hl
      by_cases hlt : k < N
      · have hlti : (k : Int) < (N : Int) := by omega
        have sm : ∀ u, (Op.stringOp .add (ByteArray.mk (repN tkE k).toArray) (ByteArray.mk #[123, 123, 105, 110, 99, 108, 117, 100, 101, 32, 97, 47, 101, 125, 125, 10])).run Tryd.prog u = .ok (.string ⟨(repN tkE (k + 1)).toArray⟩) u := nsumT (B := tkE ++ [10]) (rep_snoc tkE k).symm (by have : (tkE ++ [10]).length = 16 := rfl; omega)
        obtain ⟨T2, hT2⟩ : ∃ T2, T2 = repN tkE (k + 1) := ⟨_, rfl⟩
        have HT2 := (show Hid (T2 = repN tkE (k + 1)) from hT2)
        rw [← hT2] at sm
        clear hT2 hl2
        generalize repN tkE k = T at *
        go_wp2
        exact ⟨⟨k + 1, (by rw [HT2.out]), by go_num, by omega, HB⟩, by (simp [intOf]) <;> omega⟩
      · have hkN : k = N := by omega
        obtain ⟨A, hA⟩ : ∃ T, T = repN tkE k := ⟨_, rfl⟩
        rw [← hA]
        rw [← hA] at hl2
        have HA := (show Hid (A = repN tkE N ∧ A.length ≤ 17600) from ⟨by rw [hA, hkN], hl2⟩)
        clear hA hl2 hlt hki
        have hstop : ¬ ((k : Int) < (N : Int)) := by omega
        obtain ⟨wo, hwo⟩ : ∃ wo, wo = wr := ⟨_, rfl⟩
        subst hwo
        have HB1 := HB
        clear HB hk
        obtain ⟨kk, hkk⟩ : ∃ kk, kk = k := ⟨_, rfl⟩
        subst hkk
        clear hkN
        go_wp2
        go_loopw [8, 9] (fun t i wr => ∃ k : Nat, t = strA (repN tkO k) ∧ i = .int .i64 (k : Int) ∧ k ≤ K ∧ Hid (Below w.heap.size w wr)) (fun _ i _ => K - (intOf i).toNat)
        case atStart => exact ⟨0, rfl, rfl, Nat.zero_le _, HB1⟩
        case round =>
          obtain ⟨k, rfl, rfl, hk, HB⟩ := hrel
          have hki : (k : Int) < 300 := by omega
          have hl : (repN tkO k).length = k * 18 := rep_len tkO k
          have hl2 : (repN tkO k).length ≤ 17600 := by omega
          clear hl
          by_cases hlt : k < K
          · have hlti : (k : Int) < (K : Int) := by omega
            have sm : ∀ u, (Op.stringOp .add (ByteArray.mk (repN tkO k).toArray) (ByteArray.mk #[123, 123, 105, 110, 99, 108, 117, 100, 101, 32, 97, 47, 111, 110, 101, 125, 125, 10])).run Tryd.prog u = .ok (.string ⟨(repN tkO (k + 1)).toArray⟩) u := nsumT (B := tkO ++ [10]) (rep_snoc tkO k).symm (by have : (tkO ++ [10]).length = 18 := rfl; omega)
            obtain ⟨T2, hT2⟩ : ∃ T2, T2 = repN tkO (k + 1) := ⟨_, rfl⟩
            have HT2 := (show Hid (T2 = repN tkO (k + 1)) from hT2)
            rw [← hT2] at sm
            clear hT2 hl2
            generalize repN tkO k = T at *
            go_wp2
            exact ⟨⟨k + 1, (by rw [HT2.out]), by go_num, by omega, HB⟩, by (simp [intOf]) <;> omega⟩
          · have hkN : k = K := by omega
            obtain ⟨B, hB0⟩ : ∃ T, T = repN tkO k := ⟨_, rfl⟩
            rw [← hB0]
            rw [← hB0] at hl2
            have HBB := (show Hid (B = repN tkO K ∧ B.length ≤ 17600) from ⟨by rw [hB0, hkN], hl2⟩)
            clear hB0 hl2 hlt hki
            have hstop : ¬ ((k : Int) < (K : Int)) := by omega
            obtain ⟨wm, hwm⟩ : ∃ wm, wm = wr := ⟨_, rfl⟩
            subst hwm
            obtain ⟨hA, hAl⟩ := HA.out
            obtain ⟨hB, hBl⟩ := HBB.out
            have s1 := tk_one N B
            obtain ⟨M, s2⟩ := tk_two N K
            rw [← hA] at s1
            rw [← hA, ← hB] at s2
            clear hA hB
            have P1 : Hid (∀ u, Calls Tryd.prog 6 #[.string ⟨#[101]⟩, .int .i64 1, .string ⟨#[]⟩] u fun e w' => e = .returned (.agg #[.string ⟨#[97]⟩, .string ⟨#[101]⟩, .int .i64 1, .string ⟨#[]⟩]) ∧ Below u.heap.size u w') := fun u => npage_any [101] 1 [] u
            have P2 : Hid (∀ u, Calls Tryd.prog 6 #[.string ⟨#[111, 110, 101]⟩, .int .i64 1, strA A] u fun e w' => e = .returned (.agg #[.string ⟨#[97]⟩, .string ⟨#[111, 110, 101]⟩, .int .i64 1, strA A]) ∧ Below u.heap.size u w') := fun u => npage_any [111, 110, 101] 1 A u
            have P3 : Hid (∀ u, Calls Tryd.prog 6 #[.string ⟨#[116, 119, 111]⟩, .int .i64 1, strA B] u fun e w' => e = .returned (.agg #[.string ⟨#[97]⟩, .string ⟨#[116, 119, 111]⟩, .int .i64 1, strA B]) ∧ Below u.heap.size u w') := fun u => npage_any [116, 119, 111] 1 B u
            have htx : ∀ p ∈ tkL A B, p.text.length ≤ 200000000 := fun p hp => by
              simp only [tkL, List.mem_cons, List.not_mem_nil, or_false] at hp
              rcases hp with rfl | rfl | rfl
              · show 0 ≤ _; omega
              · show A.length ≤ _; omega
              · show B.length ≤ _; omega
            obtain ⟨R1, hR1⟩ : ∃ R1, expandA (tkL A B) [[97]] (oR 0) = R1 := ⟨_, rfl⟩
            obtain ⟨R2, hR2⟩ : ∃ R2, expandA (tkL A B) [[97]] (wR 0) = R2 := ⟨_, rfl⟩
            have X1 := (show Hid (∀ (u : World) (vp vm : Value), PgsN u vp (tkL A B) → StrsN u vm [[97]] → Calls Tryd.prog 8 #[vp, vm, .agg #[.string ⟨#[97]⟩, .string ⟨#[111, 110, 101]⟩, .int .i64 0]] u fun e w' => (∃ v', e = .returned (.tuple #[strA R1.1, v', .int .i64 R1.2.2]) ∧ w'.ownsRow u.heap.size 26 3 v' R1.2.1.length (rfCs R1.2.1)) ∧ Below u.heap.size u w') from fun u vp vm q1 q2 => by have := nexpand_any (tkL A B) (by show 3 ≤ _; omega) htx [[97]] (by decide) (oR 0) vp vm u q1 q2; rw [hR1] at this; exact this)
            have X2 := (show Hid (∀ (u : World) (vp vm : Value), PgsN u vp (tkL A B) → StrsN u vm [[97]] → Calls Tryd.prog 8 #[vp, vm, .agg #[.string ⟨#[97]⟩, .string ⟨#[116, 119, 111]⟩, .int .i64 0]] u fun e w' => (∃ v', e = .returned (.tuple #[strA R2.1, v', .int .i64 R2.2.2]) ∧ w'.ownsRow u.heap.size 26 3 v' R2.2.1.length (rfCs R2.2.1)) ∧ Below u.heap.size u w') from fun u vp vm q1 q2 => by have := nexpand_any (tkL A B) (by show 3 ≤ _; omega) htx [[97]] (by decide) (wR 0) vp vm u q1 q2; rw [hR2] at this; exact this)
            rw [hR1] at s1
            rw [hR2] at s2
            have HE1 := (show Hid (R1 = if N < 256 then ([], if N = 0 then [] else [eR 1], 0) else ([], [], 7)) from s1)
            have HE2 := (show Hid (R2 = if 1 + P ≤ 256 then ([], M, 0) else ([], [], 7)) from (by rw [HPr.out]; exact s2))
            clear hR1 hR2 s1 s2 htx hAl hBl HA HBB
            obtain ⟨S1, L1, F1⟩ := R1
            obtain ⟨S2, L2, F2⟩ := R2
            simp only at X1 X2
            go_wp2_with (go_at_call 6; refine Calls.mono (P1.out _) ?_)
            first | (intro e wc he hb2; subst he) | (rintro e wc ⟨rfl, hb2⟩)
            have HB2 := (show Hid (Below w.heap.size w wc) from HB.out.trans (hb2.mono HB.out.size))
            clear hb2 P1
            go_wp2_with (go_at_call 6; refine Calls.mono (P2.out _) ?_)
            first | (intro e wd0 he hb3; subst he) | (rintro e wd0 ⟨rfl, hb3⟩)
            have HB30 := (show Hid (Below w.heap.size w wd0) from HB2.out.trans (hb3.mono HB2.out.size))
            clear hb3 P2 HB2
            go_wp2_with (go_at_call 6; refine Calls.mono (P3.out _) ?_)
            first | (intro e wd he hb3; subst he) | (rintro e wd ⟨rfl, hb3⟩)
            have HB3 := (show Hid (Below w.heap.size w wd) from HB30.out.trans (hb3.mono HB30.out.size))
            clear hb3 P3 HB30
            obtain ⟨W4, hW4⟩ : ∃ W4, W4 = wd.alloc (.cells #[.string ⟨#[97]⟩, .string ⟨#[101]⟩, .int .i64 1, .string ⟨#[]⟩, .string ⟨#[97]⟩, .string ⟨#[111, 110, 101]⟩, .int .i64 1, strA A, .string ⟨#[97]⟩, .string ⟨#[116, 119, 111]⟩, .int .i64 1, strA B] 28) := ⟨_, rfl⟩
            have hk4 : W4.heap[wd.heap.size]? = some (.cells (pgCs (tkL A B)).toArray 28 (0, 0)) := by rw [hW4]; exact blk_newN _ _ _
            have hb4 : Below w.heap.size w W4 := by rw [hW4]; exact HB3.out.alloc HB3.out.size _
            have hs4 : W4.heap.size = wd.heap.size + 1 := by rw [hW4]; simp
            obtain ⟨W5, hW5⟩ : ∃ W5, W5 = W4.alloc (.cells #[.string ⟨#[97]⟩] 9) := ⟨_, rfl⟩
            have hk5 : W5.heap[wd.heap.size + 1]? = some (.cells ([[97]].map strA).toArray 9 (0, 0)) := by rw [hW5, ← hs4]; exact blk_newN _ _ _
            have HB5 : Hid (Below w.heap.size w W5) := by show Below _ _ _; rw [hW5]; exact hb4.alloc hb4.size _
            have hk45 : W5.heap[wd.heap.size]? = some (.cells (pgCs (tkL A B)).toArray 28 (0, 0)) := by rw [hW5]; exact blk_allocN hk4 _
            have HP5 : Hid (PgsN W5 (.slice (some ⟨wd.heap.size, 0, none⟩) 3 3) (tkL A B)) := pgs_blk (l := tkL A B) hk45
            have HS5 : Hid (StrsN W5 (.slice (some ⟨wd.heap.size + 1, 0, none⟩) 1 1) [[97]]) := strs_blk (l := [[97]]) hk5
            have hX := X1.out W5 _ _ HP5.out HS5.out
            rw [hW5, hW4] at hX
            have HX := (show Hid _ from hX)
            have HSZ5 : Hid (wd.heap.size + 1 + 1 = W5.heap.size) := by show _ = _; rw [hW5, hW4]; simp
            clear hk4 hk45 hb4 hs4 hk5 hX X1 HS5
            go_wp2_with (go_at_call 8; refine Calls.mono HX.out ?_)
            rw [← hW4, ← hW5]
            first | (intro e we ve he h6 hb6; subst he) | (rintro e we ⟨ve, rfl, h6⟩ hb6) | (rintro e we ⟨⟨ve, rfl, h6⟩, hb6⟩)
            (try rw [HSZ5.out] at hb6)
            have HB6 := (show Hid (Below w.heap.size w we) from HB5.out.trans (hb6.mono HB5.out.size))
            have HP6 := HP5.out.below hb6
            obtain ⟨a6, c6, hv6⟩ := nrow_len h6
            subst hv6
            obtain ⟨W7, hW7⟩ : ∃ W7, W7 = we.alloc (.cells #[.string ⟨#[97]⟩] 9) := ⟨_, rfl⟩
            have hk7 : W7.heap[we.heap.size]? = some (.cells ([[97]].map strA).toArray 9 (0, 0)) := by rw [hW7]; exact blk_newN _ _ _
            have hb7a : Below we.heap.size we W7 := by rw [hW7]; exact (Below.refl _ _).alloc (Nat.le_refl _) _
            have HB7 := (show Hid (Below w.heap.size w W7) from HB6.out.trans (hb7a.mono HB6.out.size))
            have HS7 : StrsN W7 (.slice (some ⟨we.heap.size, 0, none⟩) 1 1) [[97]] := strs_blk (l := [[97]]) hk7
            have hX7 := X2.out W7 _ _ (HP6.below hb7a) HS7
            rw [hW7] at hX7
            have HX7 := (show Hid _ from hX7)
            have HSZ7 : Hid (we.heap.size + 1 = W7.heap.size) := by show _ = _; rw [hW7]; simp
            clear hb6 h6 HX HB5 HP5 HP6 X2 hW4 hW5 HB3 hX7 hk7 hb7a HS7 HSZ5
            go_wp2_with (go_at_call 8; refine Calls.mono HX7.out ?_)
            rw [← hW7]
            first | (intro e wf vf he h8 hb8; subst he) | (rintro e wf ⟨vf, rfl, h8⟩ hb8) | (rintro e wf ⟨⟨vf, rfl, h8⟩, hb8⟩)
            (try rw [HSZ7.out] at hb8)
            have HB8 := (show Hid (Below w.heap.size w wf) from HB7.out.trans (hb8.mono HB7.out.size))
            obtain ⟨a8, c8, hv8⟩ := nrow_len h8
            subst hv8
            clear hb8 h8 HX7 hW7 HB7 HSZ7 HB6
            have y1 := HE1.out
            have y2 := HE2.out
            clear HE1 HE2
            by_cases q0 : N = 0
            · rw [if_pos (by omega : N < 256), if_pos q0] at y1
              cases y1
              have f1 : (N : Int) < 256 := by omega
              have f3 : ¬ (0 : Int) < (N : Int) := by omega
              clear q0
              by_cases q2 : 1 + P ≤ 256
              · rw [if_pos q2] at y2
                cases y2
                have f2 : (1 : Int) + (P : Int) ≤ 256 := by omega
                go_wp2
                go_ret
                exact ⟨rfl, HB8.out⟩
              · rw [if_neg q2] at y2
                cases y2
                have f2 : ¬ (1 : Int) + (P : Int) ≤ 256 := by omega
                go_wp2
                go_ret
                exact ⟨rfl, HB8.out⟩
            · have f3 : (0 : Int) < (N : Int) := by omega
              by_cases q1 : N < 256
              · rw [if_pos q1, if_neg q0] at y1
                cases y1
                have f1 : (N : Int) < 256 := by omega
                clear q0
                by_cases q2 : 1 + P ≤ 256
                · rw [if_pos q2] at y2
                  cases y2
                  have f2 : (1 : Int) + (P : Int) ≤ 256 := by omega
                  go_wp2
                  go_ret
                  exact ⟨rfl, HB8.out⟩
                · rw [if_neg q2] at y2
                  cases y2
                  have f2 : ¬ (1 : Int) + (P : Int) ≤ 256 := by omega
                  go_wp2
                  go_ret
                  exact ⟨rfl, HB8.out⟩
              · rw [if_neg q1] at y1
                cases y1
                have f1 : ¬ (N : Int) < 256 := by omega
                clear q0
                by_cases q2 : 1 + P ≤ 256
                · rw [if_pos q2] at y2
                  cases y2
                  have f2 : (1 : Int) + (P : Int) ≤ 256 := by omega
                  go_wp2
                  go_ret
                  exact ⟨rfl, HB8.out⟩
                · rw [if_neg q2] at y2
                  cases y2
                  have f2 : ¬ (1 : Int) + (P : Int) ≤ 256 := by omega
                  go_wp2
                  go_ret
                  exact ⟨rfl, HB8.out⟩
end Go.Proofs.YtkjicdldlnefeabDoor
