/- AclMany: so many grants there may be, and no more; walked. -/
import Derived.Test.YtfaekjplebjnlaaAWhoN
set_option linter.unusedVariables false
namespace Go.Proofs.Ytfaekjplebjnlaa
open Go.RowKit

def FoldA (a x : Int) (m : Int) : Prop := (¬ a < 0 ∧ a.tmod m = x) ∨ (a < 0 ∧ -9223372036854775808 ≤ a ∧ (-(a + 1)).tmod m = x)
theorem foldA_ex (a m : Int) (h0 : -9223372036854775808 ≤ a) (hm : 0 < m) : ∃ x : Int, 0 ≤ x ∧ x < m ∧ FoldA a x m := by
  by_cases h : 0 ≤ a
  · exact ⟨a.tmod m, Int.tmod_nonneg _ h, by rw [Int.tmod_eq_emod_of_nonneg h]; exact Int.emod_lt_of_pos _ hm, .inl ⟨by omega, rfl⟩⟩
  · exact ⟨(-(a + 1)).tmod m, Int.tmod_nonneg _ (by omega), by rw [Int.tmod_eq_emod_of_nonneg (by omega)]; exact Int.emod_lt_of_pos _ hm, .inr ⟨by omega, h0, rfl⟩⟩
theorem lens_N (j : Nat) : Lens (msN j) := fun g hg => by
  obtain ⟨i, _, rfl⟩ := ms_mem hg
  show (5 : Nat) ≤ _
  decide
theorem lens_set {l : List GrA} (hs : Asc l) (h : Lens l) (g : GrA) (hg : g.who.length ≤ 9223372036854775000) : Lens (setL l g) := fun x hx => by
  rcases (set_mem hs g x).1 hx with ⟨q, _⟩ | ⟨rfl, _⟩
  · exact h x q
  · exact hg

theorem arow_keeps {w w' : World} {B e s : Nat} {v : Value} {n : Nat} {xs : List Value} (h : w.ownsRow B e s v n xs) (hb : Below w.heap.size w w') : w'.ownsRow B e s v n xs := by
  refine ⟨h.1, ?_⟩
  rcases h.2 with hn | ⟨g, cap, cur, rfl, hB, hg, rest⟩
  · exact .inl hn
  · exact .inr ⟨g, cap, cur, rfl, hB, blk_belowA hg hb, rest⟩
theorem arow_base {w : World} {B B' e s : Nat} {v : Value} {n : Nat} {xs : List Value} (h : w.ownsRow B e s v n xs) (hB : B' ≤ B) : w.ownsRow B' e s v n xs := by
  refine ⟨h.1, ?_⟩
  rcases h.2 with hn | ⟨g, cap, cur, rfl, hb, rest⟩
  · exact .inl hn
  · exact .inr ⟨g, cap, cur, rfl, Nat.le_trans hB hb, rest⟩
/-- Set, by whoever owns the row. -/
theorem set_ok {w u : World} {v : Value} {l : List GrA} {n : Nat} (hn : l.length = n) (h : u.ownsRow w.heap.size 33 3 v n (grCs l)) (hu : w.heap.size ≤ u.heap.size) (hle : Lens l) (g : GrA) (hg : g.who.length ≤ 9223372036854775000) (hr : rightA l = true) (hf : fitsA g 0 = true) (he : errA l g = 0) {m : Nat} (hm : (setL l g).length = m) : Calls Try.prog 19 #[v, aggA g] u fun e w' => (∃ v', e = .returned (.tuple #[v', .int .i64 0]) ∧ w'.ownsRow w.heap.size 33 3 v' m (grCs (setL l g))) ∧ Below u.heap.size u w' := by
  subst hn
  subst hm
  refine (aset_good h hle g hg hr hf he).mono ?_
  rintro e w' ⟨⟨v', rfl, q⟩, hb⟩
  exact ⟨⟨v', rfl, arow_base q hu⟩, hb⟩
set_option maxHeartbeats 8000000 in
set_option maxRecDepth 20000 in
theorem wmany (a0 : Int) (w0 : -9223372036854775808 ≤ a0 ∧ a0 ≤ 9223372036854775807) (a1 : Int) (w1 : -9223372036854775808 ≤ a1 ∧ a1 ≤ 9223372036854775807) (w : World) :
    Calls Try.prog 7 #[.int .i64 a0, .int .i64 a1] w fun e w' => e = .returned (.bool true) ∧ Below w.heap.size w w' := by
  have HS : Hid (Calls Try.prog 8 #[] w fun e w' => e = .returned (.bool true) ∧ Below w.heap.size w w') := ashown_any w
  obtain ⟨x, hx0, hx80, hfold⟩ := foldA_ex a0 80 w0.1 (by omega)
  obtain ⟨N, hN⟩ : ∃ N : Nat, x = (N : Int) := ⟨x.toNat, by omega⟩
  subst hN
  have hN80 : N < 80 := by omega
  obtain ⟨w0a, w0b⟩ := w0
  have HWho : Hid (∀ (i : Nat) (u : World), i < 80 → Calls Try.prog 22 #[.int .i64 (i : Int)] u fun e w' => e = .returned (strA (whoN i)) ∧ Below u.heap.size u w') := fun i u hi => awhoN_any i hi u
  clear hx0
  have hfc : ∀ {P : Prop}, (¬ a0 < 0 → a0.tmod 80 = (N : Int) → P) → (a0 < 0 → (-(a0 + 1)).tmod 80 = (N : Int) → P) → P := by
    intro P p1 p2
    rcases hfold with ⟨f1, f2⟩ | ⟨f1, _, f2⟩
    · exact p1 f1 f2
    · exact p2 f1 f2
  clear hfold
  apply hfc
  · clear hfc
    intro f1 f2
    go_enter Try.func7, Try.ntmps7
    go_wp2_with (go_at_call 8; refine Calls.mono HS.out ?_; rintro e u1 ⟨rfl, hb1⟩; have HB1 := (show Hid (Below w.heap.size w u1) from hb1); clear hb1)
    go_loopw [6, 7] (fun l i wr => ∃ (k : Nat), i = .int .i64 (k : Int) ∧ k ≤ N ∧ Hid (wr.ownsRow w.heap.size 33 3 l (min k 64) (grCs (msN (min k 64)))) ∧ Hid (Below w.heap.size w wr)) (fun _ i _ => N - (intOf i).toNat)
    case atStart => exact ⟨0, rfl, Nat.zero_le _, World.ownsRow_nil _ _ _ _, HB1⟩
    case round =>
      obtain ⟨k, rfl, hk, HR, HB⟩ := hrel
      by_cases hlt : k < N
      · have hlt1 : (k : Int) < (N : Int) := by omega
        have t3 : (k : Int).tmod 3 = ((k % 3 : Nat) : Int) := by rw [Int.tmod_eq_emod_of_nonneg (by omega)]; omega
        have HWk : Hid (∀ (u : World), Calls Try.prog 22 #[.int .i64 (k : Int)] u fun e w' => e = .returned (strA (whoN k)) ∧ Below u.heap.size u w') := fun u => HWho.out k u (by omega)
        have hk3 : ((k % 3 : Nat) : Int) < 3 := by omega
        by_cases h64 : k < 64
        · rw [Nat.min_eq_left (by omega)] at HR
          have hk64 : ¬ (64 : Int) ≤ (k : Int) := by omega
          obtain ⟨av, cv, hv⟩ := arow_len HR.out
          subst hv
          have HSt : Hid (∀ u : World, w.heap.size ≤ u.heap.size → u.ownsRow w.heap.size 33 3 (.slice av k cv) k (grCs (msN k)) → Calls Try.prog 19 #[.slice av k cv, .agg #[.string ⟨#[97]⟩, strA (whoN k), .int .i64 (1 + ((k % 3 : Nat) : Int))]] u fun e w' => (∃ v', e = .returned (.tuple #[v', .int .i64 0]) ∧ w'.ownsRow w.heap.size 33 3 v' (k + 1) (grCs (msN (k + 1)))) ∧ Below u.heap.size u w') := fun u hu hrow => by
            have := set_ok (ms_len k) hrow hu (lens_N k) (grN k) (show (5 : Nat) ≤ _ by decide) (ms_right (by omega)) (fits_N ⟨k, by omega⟩).2.1 (many_next h64).1 (m := k + 1) (by rw [(many_next h64).2, ms_len])
            rw [(many_next h64).2] at this
            exact this
          have HMin : Hid (min (k + 1) 64 = k + 1) := by show _ = _; omega
          clear HWho
          generalize whoN k = WH at *
          generalize k % 3 = K3 at *
          go_wp2_with (first | (go_at_call 22; refine Calls.mono (HWk.out _) ?_; rintro e u2 ⟨rfl, hb2⟩; have HB2 := (show Hid (Below w.heap.size w u2) from HB.out.trans (hb2.mono HB.out.size)); have HR2 := (show Hid (World.ownsRow u2 w.heap.size 33 3 _ _ _) from arow_keeps HR.out hb2); clear hb2) | (go_at_call 19; refine Calls.mono (HSt.out _ HB2.out.size HR2.out) ?_; rintro e u3 ⟨⟨v3, rfl, hr3⟩, hb3⟩; obtain ⟨a3, c3, hv3⟩ := arow_len hr3; subst hv3; have HR3 := (show Hid (World.ownsRow u3 w.heap.size 33 3 (.slice a3 (k + 1) c3) (k + 1) _) from hr3); have HB3 := (show Hid (Below w.heap.size w u3) from HB2.out.trans (hb3.mono HB2.out.size)); clear hb3 hr3))
          go_roundw
          case rel => exact ⟨k + 1, by go_num, by omega, by rw [HMin.out]; exact HR3, HB3⟩
          case measure => (simp [intOf]) <;> omega
        · rw [Nat.min_eq_right (by omega)] at HR
          have hk64 : (64 : Int) ≤ (k : Int) := by omega
          obtain ⟨av, cv, hv⟩ := arow_len HR.out
          subst hv
          have HSt : Hid (∀ u : World, u.ownsRow w.heap.size 33 3 (.slice av 64 cv) 64 (grCs (msN 64)) → Calls Try.prog 19 #[.slice av 64 cv, .agg #[.string ⟨#[97]⟩, strA (whoN k), .int .i64 (1 + ((k % 3 : Nat) : Int))]] u fun e w' => e = .returned (.tuple #[.slice none 0 0, .int .i64 11]) ∧ Below u.heap.size u w') := fun u hrow => aset_full (l := msN 64) hrow (lens_N 64) (grN k) (show (5 : Nat) ≤ _ by decide) (ms_right (Nat.le_refl _)) (fits_N ⟨k, by omega⟩).2.1 (many_full (by omega) (by omega))
          have HMin : Hid (min (k + 1) 64 = 64) := by show _ = _; omega
          clear HWho
          generalize whoN k = WH at *
          generalize k % 3 = K3 at *
          go_wp2_with (first | (go_at_call 22; refine Calls.mono (HWk.out _) ?_; rintro e u2 ⟨rfl, hb2⟩; have HB2 := (show Hid (Below w.heap.size w u2) from HB.out.trans (hb2.mono HB.out.size)); have HR2 := (show Hid (World.ownsRow u2 w.heap.size 33 3 _ _ _) from arow_keeps HR.out hb2); clear hb2) | (go_at_call 19; refine Calls.mono (HSt.out _ HR2.out) ?_; rintro e u3 ⟨rfl, hb3⟩; have HR3 := (show Hid (World.ownsRow u3 w.heap.size 33 3 (.slice av 64 cv) 64 _) from arow_keeps HR2.out hb3); have HB3 := (show Hid (Below w.heap.size w u3) from HB2.out.trans (hb3.mono HB2.out.size)); clear hb3))
          go_roundw
          case rel => exact ⟨k + 1, by go_num, by omega, by rw [HMin.out]; exact HR3, HB3⟩
          case measure => (simp [intOf]) <;> omega
      · have hlt1 : ¬ (k : Int) < (N : Int) := by omega
        obtain ⟨M, hM⟩ : ∃ M, M = min k 64 := ⟨_, rfl⟩
        rw [← hM] at HR
        have hM64 : M ≤ 64 := by omega
        obtain ⟨av, cv, hv⟩ := arow_len HR.out
        subst hv
        clear hM
        by_cases hM0 : M = 0
        · have hm0 : ((M : Int) == 0) = true := by rw [beq_iff_eq]; omega
          clear hM0 HWho
          go_wp2
          go_ret
          exact ⟨rfl, HB.out⟩
        · have hm0 : ((M : Int) == 0) = false := by rw [beq_eq_false_iff_ne]; omega
          have hmn : ¬ (M : Int) = 0 := by omega
          have hmp : (0 : Int) < (M : Int) := by omega
          obtain ⟨y, hy0, hyM, hfold1⟩ := foldA_ex a1 (M : Int) w1.1 hmp
          obtain ⟨T, hT⟩ : ∃ T : Nat, y = (T : Int) := ⟨y.toNat, by omega⟩
          subst hT
          have hTM : T < M := by omega
          obtain ⟨⟨e1, fi1, l1, r1⟩, ⟨e2, fi2, l2, r2⟩, ⟨e3, fi3, l3, r3⟩, m1, m2⟩ := tail_N hTM hM64
          have am := ms_asc (j := M) (by omega)
          have le0 := lens_N M
          have le1 : Lens (xN M T) := lens_set am le0 (g2N T) (show (5 : Nat) ≤ _ by decide)
          have ax : Asc (xN M T) := set_asc am _
          have le2 : Lens (yN M T) := lens_set ax le1 (g0N T) (show (5 : Nat) ≤ _ by decide)
          have le3 : Lens (zN M T) := lens_set (set_asc ax _) le2 gCN (show (5 : Nat) ≤ _ by decide)
          have HWk : Hid (∀ (u : World), Calls Try.prog 22 #[.int .i64 (T : Int)] u fun e w' => e = .returned (strA (whoN T)) ∧ Below u.heap.size u w') := fun u => HWho.out T u (by omega)
          have S1 : Hid (∀ u : World, w.heap.size ≤ u.heap.size → u.ownsRow w.heap.size 33 3 (.slice av M cv) M (grCs (msN M)) → Calls Try.prog 19 #[.slice av M cv, .agg #[.string ⟨#[97]⟩, strA (whoN T), .int .i64 2]] u fun e w' => (∃ v', e = .returned (.tuple #[v', .int .i64 0]) ∧ w'.ownsRow w.heap.size 33 3 v' M (grCs (xN M T))) ∧ Below u.heap.size u w') := fun u hu hrow => set_ok (ms_len M) hrow hu le0 (g2N T) (show (5 : Nat) ≤ _ by decide) (ms_right hM64) fi1 e1 l1
          have S2 : Hid (∀ (u : World) (v : Value), w.heap.size ≤ u.heap.size → u.ownsRow w.heap.size 33 3 v M (grCs (xN M T)) → Calls Try.prog 19 #[v, .agg #[.string ⟨#[97]⟩, strA (whoN T), .int .i64 0]] u fun e w' => (∃ v', e = .returned (.tuple #[v', .int .i64 0]) ∧ w'.ownsRow w.heap.size 33 3 v' (M - 1) (grCs (yN M T))) ∧ Below u.heap.size u w') := fun u v hu hrow => set_ok l1 hrow hu le1 (g0N T) (show (5 : Nat) ≤ _ by decide) r1 fi2 e2 (m := M - 1) (by show (yN M T).length = M - 1; omega)
          have S3 : Hid (∀ (u : World) (v : Value), w.heap.size ≤ u.heap.size → u.ownsRow w.heap.size 33 3 v (M - 1) (grCs (yN M T)) → Calls Try.prog 19 #[v, .agg #[.string ⟨#[99]⟩, .string ⟨#[100, 47, 110, 101, 119]⟩, .int .i64 3]] u fun e w' => (∃ v', e = .returned (.tuple #[v', .int .i64 0]) ∧ w'.ownsRow w.heap.size 33 3 v' M (grCs (zN M T))) ∧ Below u.heap.size u w') := fun u v hu hrow => set_ok (n := M - 1) (by omega) hrow hu le2 gCN (show (5 : Nat) ≤ _ by decide) r2 fi3 e3 l3
          have Y1 : Hid (∀ (u : World) (v : Value), GrsAt u v (zN M T) → Calls Try.prog 16 #[v, .string ⟨#[99]⟩, .string ⟨#[100, 47, 110, 101, 119]⟩] u fun e w' => e = .returned (.int .i64 3) ∧ Below u.heap.size u w') := fun u v hv => by have := amay_any (zN M T) le3 [99] [100, 47, 110, 101, 119] (by decide) v u hv; rw [m1] at this; exact this
          have Y2 : Hid (∀ (u : World) (v : Value), GrsAt u v (zN M T) → Calls Try.prog 16 #[v, .string ⟨#[97]⟩, strA (whoN T)] u fun e w' => e = .returned (.int .i64 0) ∧ Below u.heap.size u w') := fun u v hv => by have := amay_any (zN M T) le3 [97] (whoN T) (show (5 : Nat) ≤ _ by decide) v u hv; rw [m2] at this; exact this
          have HZ : Hid (∀ (u : World) (v : Value), u.ownsRow w.heap.size 33 3 v M (grCs (zN M T)) → GrsAt u v (zN M T)) := fun u v h => grs_row (l := zN M T) (by rw [l3]; exact h)
          have hM1 : ((M - 1 : Nat) : Int) = (M : Int) - 1 := by omega
          obtain ⟨M1, hM1d⟩ : ∃ M1, M1 = M - 1 := ⟨_, rfl⟩
          rw [← hM1d] at S2 S3 hM1
          have hM1b : ((M1 : Int) == (M : Int) - 1) = true := by rw [beq_iff_eq]; exact hM1
          have hMM : ((M : Int) == (M : Int)) = true := by simp
          have hMi : (M : Int) ≤ 64 := by omega
          obtain ⟨w1a, w1b⟩ := w1
          clear HWho hM1d l1 l2 l3 e1 e2 e3 fi1 fi2 fi3 r1 r2 r3 m1 m2 am ax le0 le1 le2 le3 hy0 hM1
          generalize grCs (xN M T) = CX at *
          generalize grCs (yN M T) = CY at *
          generalize grCs (zN M T) = CZ at *
          generalize zN M T = ZL at *
          generalize grCs (msN M) = CM at *
          generalize whoN T = WH at *
          rcases hfold1 with ⟨g1, g2⟩ | ⟨g1, _, g2⟩
          · clear hTM
            go_wp2_with (first
              | (go_at_call 22; refine Calls.mono (HWk.out _) ?_; rintro e u2 ⟨rfl, hb2⟩; have HB2 := (show Hid (Below w.heap.size w u2) from HB.out.trans (hb2.mono HB.out.size)); have HR2 := (show Hid (World.ownsRow u2 w.heap.size 33 3 _ _ _) from arow_keeps HR.out hb2); clear hb2)
              | (go_at_call_of 19 (Value.int IntKind.i64 3); refine Calls.mono (S3.out u4 (.slice a4 M1 c4) HB4.out.size HR4.out) ?_; rintro e u5 ⟨⟨v5, rfl, hr5⟩, hb5⟩; obtain ⟨a5, c5, hv5⟩ := arow_len hr5; subst hv5; have HB5 := (show Hid (Below w.heap.size w u5) from HB4.out.trans (hb5.mono HB4.out.size)); have HV5 := (show Hid (GrsAt u5 (.slice a5 M c5) ZL) from HZ.out _ _ hr5); clear hb5 hr5)
              | (go_at_call_of 19 (Value.int IntKind.i64 0); refine Calls.mono (S2.out u3 (.slice a3 M c3) HB3.out.size HR3.out) ?_; rintro e u4 ⟨⟨v4, rfl, hr4⟩, hb4⟩; obtain ⟨a4, c4, hv4⟩ := arow_len hr4; subst hv4; have HR4 := (show Hid (World.ownsRow u4 w.heap.size 33 3 (.slice a4 M1 c4) M1 CY) from hr4); have HB4 := (show Hid (Below w.heap.size w u4) from HB3.out.trans (hb4.mono HB3.out.size)); clear hb4 hr4)
              | (go_at_call_of 19 (Value.int IntKind.i64 2); refine Calls.mono (S1.out u2 HB2.out.size HR2.out) ?_; rintro e u3 ⟨⟨v3, rfl, hr3⟩, hb3⟩; obtain ⟨a3, c3, hv3⟩ := arow_len hr3; subst hv3; have HR3 := (show Hid (World.ownsRow u3 w.heap.size 33 3 (.slice a3 M c3) M CX) from hr3); have HB3 := (show Hid (Below w.heap.size w u3) from HB2.out.trans (hb3.mono HB2.out.size)); clear hb3 hr3)
              | (go_at_call_of 16 (strA WH); refine Calls.mono (Y2.out u6 (.slice a5 M c5) HV6.out) ?_; rintro e u7 ⟨rfl, hb7⟩; have HB7 := (show Hid (Below w.heap.size w u7) from HB6.out.trans (hb7.mono HB6.out.size)); clear hb7)
              | (go_at_call 16; refine Calls.mono (Y1.out u5 (.slice a5 M c5) HV5.out) ?_; rintro e u6 ⟨rfl, hb6⟩; have HB6 := (show Hid (Below w.heap.size w u6) from HB5.out.trans (hb6.mono HB5.out.size)); have HV6 := (show Hid (GrsAt u6 (.slice a5 M c5) ZL) from HV5.out.below hb6); clear hb6))
            go_ret
            exact ⟨rfl, HB7.out⟩
          · clear hTM
            go_wp2_with (first
              | (go_at_call 22; refine Calls.mono (HWk.out _) ?_; rintro e u2 ⟨rfl, hb2⟩; have HB2 := (show Hid (Below w.heap.size w u2) from HB.out.trans (hb2.mono HB.out.size)); have HR2 := (show Hid (World.ownsRow u2 w.heap.size 33 3 _ _ _) from arow_keeps HR.out hb2); clear hb2)
              | (go_at_call_of 19 (Value.int IntKind.i64 3); refine Calls.mono (S3.out u4 (.slice a4 M1 c4) HB4.out.size HR4.out) ?_; rintro e u5 ⟨⟨v5, rfl, hr5⟩, hb5⟩; obtain ⟨a5, c5, hv5⟩ := arow_len hr5; subst hv5; have HB5 := (show Hid (Below w.heap.size w u5) from HB4.out.trans (hb5.mono HB4.out.size)); have HV5 := (show Hid (GrsAt u5 (.slice a5 M c5) ZL) from HZ.out _ _ hr5); clear hb5 hr5)
              | (go_at_call_of 19 (Value.int IntKind.i64 0); refine Calls.mono (S2.out u3 (.slice a3 M c3) HB3.out.size HR3.out) ?_; rintro e u4 ⟨⟨v4, rfl, hr4⟩, hb4⟩; obtain ⟨a4, c4, hv4⟩ := arow_len hr4; subst hv4; have HR4 := (show Hid (World.ownsRow u4 w.heap.size 33 3 (.slice a4 M1 c4) M1 CY) from hr4); have HB4 := (show Hid (Below w.heap.size w u4) from HB3.out.trans (hb4.mono HB3.out.size)); clear hb4 hr4)
              | (go_at_call_of 19 (Value.int IntKind.i64 2); refine Calls.mono (S1.out u2 HB2.out.size HR2.out) ?_; rintro e u3 ⟨⟨v3, rfl, hr3⟩, hb3⟩; obtain ⟨a3, c3, hv3⟩ := arow_len hr3; subst hv3; have HR3 := (show Hid (World.ownsRow u3 w.heap.size 33 3 (.slice a3 M c3) M CX) from hr3); have HB3 := (show Hid (Below w.heap.size w u3) from HB2.out.trans (hb3.mono HB2.out.size)); clear hb3 hr3)
              | (go_at_call_of 16 (strA WH); refine Calls.mono (Y2.out u6 (.slice a5 M c5) HV6.out) ?_; rintro e u7 ⟨rfl, hb7⟩; have HB7 := (show Hid (Below w.heap.size w u7) from HB6.out.trans (hb7.mono HB6.out.size)); clear hb7)
              | (go_at_call 16; refine Calls.mono (Y1.out u5 (.slice a5 M c5) HV5.out) ?_; rintro e u6 ⟨rfl, hb6⟩; have HB6 := (show Hid (Below w.heap.size w u6) from HB5.out.trans (hb6.mono HB5.out.size)); have HV6 := (show Hid (GrsAt u6 (.slice a5 M c5) ZL) from HV5.out.below hb6); clear hb6))
            go_ret
            exact ⟨rfl, HB7.out⟩
  · clear hfc
    intro f1 f2
    go_enter Try.func7, Try.ntmps7
    go_wp2_with (go_at_call 8; refine Calls.mono HS.out ?_; rintro e u1 ⟨rfl, hb1⟩; have HB1 := (show Hid (Below w.heap.size w u1) from hb1); clear hb1)
    go_loopw [6, 7] (fun l i wr => ∃ (k : Nat), i = .int .i64 (k : Int) ∧ k ≤ N ∧ Hid (wr.ownsRow w.heap.size 33 3 l (min k 64) (grCs (msN (min k 64)))) ∧ Hid (Below w.heap.size w wr)) (fun _ i _ => N - (intOf i).toNat)
    case atStart => exact ⟨0, rfl, Nat.zero_le _, World.ownsRow_nil _ _ _ _, HB1⟩
    case round =>
      obtain ⟨k, rfl, hk, HR, HB⟩ := hrel
      by_cases hlt : k < N
      · have hlt1 : (k : Int) < (N : Int) := by omega
        have t3 : (k : Int).tmod 3 = ((k % 3 : Nat) : Int) := by rw [Int.tmod_eq_emod_of_nonneg (by omega)]; omega
        have HWk : Hid (∀ (u : World), Calls Try.prog 22 #[.int .i64 (k : Int)] u fun e w' => e = .returned (strA (whoN k)) ∧ Below u.heap.size u w') := fun u => HWho.out k u (by omega)
        have hk3 : ((k % 3 : Nat) : Int) < 3 := by omega
        by_cases h64 : k < 64
        · rw [Nat.min_eq_left (by omega)] at HR
          have hk64 : ¬ (64 : Int) ≤ (k : Int) := by omega
          obtain ⟨av, cv, hv⟩ := arow_len HR.out
          subst hv
          have HSt : Hid (∀ u : World, w.heap.size ≤ u.heap.size → u.ownsRow w.heap.size 33 3 (.slice av k cv) k (grCs (msN k)) → Calls Try.prog 19 #[.slice av k cv, .agg #[.string ⟨#[97]⟩, strA (whoN k), .int .i64 (1 + ((k % 3 : Nat) : Int))]] u fun e w' => (∃ v', e = .returned (.tuple #[v', .int .i64 0]) ∧ w'.ownsRow w.heap.size 33 3 v' (k + 1) (grCs (msN (k + 1)))) ∧ Below u.heap.size u w') := fun u hu hrow => by
            have := set_ok (ms_len k) hrow hu (lens_N k) (grN k) (show (5 : Nat) ≤ _ by decide) (ms_right (by omega)) (fits_N ⟨k, by omega⟩).2.1 (many_next h64).1 (m := k + 1) (by rw [(many_next h64).2, ms_len])
            rw [(many_next h64).2] at this
            exact this
          have HMin : Hid (min (k + 1) 64 = k + 1) := by show _ = _; omega
          clear HWho
          generalize whoN k = WH at *
          generalize k % 3 = K3 at *
          go_wp2_with (first | (go_at_call 22; refine Calls.mono (HWk.out _) ?_; rintro e u2 ⟨rfl, hb2⟩; have HB2 := (show Hid (Below w.heap.size w u2) from HB.out.trans (hb2.mono HB.out.size)); have HR2 := (show Hid (World.ownsRow u2 w.heap.size 33 3 _ _ _) from arow_keeps HR.out hb2); clear hb2) | (go_at_call 19; refine Calls.mono (HSt.out _ HB2.out.size HR2.out) ?_; rintro e u3 ⟨⟨v3, rfl, hr3⟩, hb3⟩; obtain ⟨a3, c3, hv3⟩ := arow_len hr3; subst hv3; have HR3 := (show Hid (World.ownsRow u3 w.heap.size 33 3 (.slice a3 (k + 1) c3) (k + 1) _) from hr3); have HB3 := (show Hid (Below w.heap.size w u3) from HB2.out.trans (hb3.mono HB2.out.size)); clear hb3 hr3))
          go_roundw
          case rel => exact ⟨k + 1, by go_num, by omega, by rw [HMin.out]; exact HR3, HB3⟩
          case measure => (simp [intOf]) <;> omega
        · rw [Nat.min_eq_right (by omega)] at HR
          have hk64 : (64 : Int) ≤ (k : Int) := by omega
          obtain ⟨av, cv, hv⟩ := arow_len HR.out
          subst hv
          have HSt : Hid (∀ u : World, u.ownsRow w.heap.size 33 3 (.slice av 64 cv) 64 (grCs (msN 64)) → Calls Try.prog 19 #[.slice av 64 cv, .agg #[.string ⟨#[97]⟩, strA (whoN k), .int .i64 (1 + ((k % 3 : Nat) : Int))]] u fun e w' => e = .returned (.tuple #[.slice none 0 0, .int .i64 11]) ∧ Below u.heap.size u w') := fun u hrow => aset_full (l := msN 64) hrow (lens_N 64) (grN k) (show (5 : Nat) ≤ _ by decide) (ms_right (Nat.le_refl _)) (fits_N ⟨k, by omega⟩).2.1 (many_full (by omega) (by omega))
          have HMin : Hid (min (k + 1) 64 = 64) := by show _ = _; omega
          clear HWho
          generalize whoN k = WH at *
          generalize k % 3 = K3 at *
          go_wp2_with (first | (go_at_call 22; refine Calls.mono (HWk.out _) ?_; rintro e u2 ⟨rfl, hb2⟩; have HB2 := (show Hid (Below w.heap.size w u2) from HB.out.trans (hb2.mono HB.out.size)); have HR2 := (show Hid (World.ownsRow u2 w.heap.size 33 3 _ _ _) from arow_keeps HR.out hb2); clear hb2) | (go_at_call 19; refine Calls.mono (HSt.out _ HR2.out) ?_; rintro e u3 ⟨rfl, hb3⟩; have HR3 := (show Hid (World.ownsRow u3 w.heap.size 33 3 (.slice av 64 cv) 64 _) from arow_keeps HR2.out hb3); have HB3 := (show Hid (Below w.heap.size w u3) from HB2.out.trans (hb3.mono HB2.out.size)); clear hb3))
          go_roundw
          case rel => exact ⟨k + 1, by go_num, by omega, by rw [HMin.out]; exact HR3, HB3⟩
          case measure => (simp [intOf]) <;> omega
      · have hlt1 : ¬ (k : Int) < (N : Int) := by omega
        obtain ⟨M, hM⟩ : ∃ M, M = min k 64 := ⟨_, rfl⟩
        rw [← hM] at HR
        have hM64 : M ≤ 64 := by omega
        obtain ⟨av, cv, hv⟩ := arow_len HR.out
        subst hv
        clear hM
        by_cases hM0 : M = 0
        · have hm0 : ((M : Int) == 0) = true := by rw [beq_iff_eq]; omega
          clear hM0 HWho
          go_wp2
          go_ret
          exact ⟨rfl, HB.out⟩
        · have hm0 : ((M : Int) == 0) = false := by rw [beq_eq_false_iff_ne]; omega
          have hmn : ¬ (M : Int) = 0 := by omega
          have hmp : (0 : Int) < (M : Int) := by omega
          obtain ⟨y, hy0, hyM, hfold1⟩ := foldA_ex a1 (M : Int) w1.1 hmp
          obtain ⟨T, hT⟩ : ∃ T : Nat, y = (T : Int) := ⟨y.toNat, by omega⟩
          subst hT
          have hTM : T < M := by omega
          obtain ⟨⟨e1, fi1, l1, r1⟩, ⟨e2, fi2, l2, r2⟩, ⟨e3, fi3, l3, r3⟩, m1, m2⟩ := tail_N hTM hM64
          have am := ms_asc (j := M) (by omega)
          have le0 := lens_N M
          have le1 : Lens (xN M T) := lens_set am le0 (g2N T) (show (5 : Nat) ≤ _ by decide)
          have ax : Asc (xN M T) := set_asc am _
          have le2 : Lens (yN M T) := lens_set ax le1 (g0N T) (show (5 : Nat) ≤ _ by decide)
          have le3 : Lens (zN M T) := lens_set (set_asc ax _) le2 gCN (show (5 : Nat) ≤ _ by decide)
          have HWk : Hid (∀ (u : World), Calls Try.prog 22 #[.int .i64 (T : Int)] u fun e w' => e = .returned (strA (whoN T)) ∧ Below u.heap.size u w') := fun u => HWho.out T u (by omega)
          have S1 : Hid (∀ u : World, w.heap.size ≤ u.heap.size → u.ownsRow w.heap.size 33 3 (.slice av M cv) M (grCs (msN M)) → Calls Try.prog 19 #[.slice av M cv, .agg #[.string ⟨#[97]⟩, strA (whoN T), .int .i64 2]] u fun e w' => (∃ v', e = .returned (.tuple #[v', .int .i64 0]) ∧ w'.ownsRow w.heap.size 33 3 v' M (grCs (xN M T))) ∧ Below u.heap.size u w') := fun u hu hrow => set_ok (ms_len M) hrow hu le0 (g2N T) (show (5 : Nat) ≤ _ by decide) (ms_right hM64) fi1 e1 l1
          have S2 : Hid (∀ (u : World) (v : Value), w.heap.size ≤ u.heap.size → u.ownsRow w.heap.size 33 3 v M (grCs (xN M T)) → Calls Try.prog 19 #[v, .agg #[.string ⟨#[97]⟩, strA (whoN T), .int .i64 0]] u fun e w' => (∃ v', e = .returned (.tuple #[v', .int .i64 0]) ∧ w'.ownsRow w.heap.size 33 3 v' (M - 1) (grCs (yN M T))) ∧ Below u.heap.size u w') := fun u v hu hrow => set_ok l1 hrow hu le1 (g0N T) (show (5 : Nat) ≤ _ by decide) r1 fi2 e2 (m := M - 1) (by show (yN M T).length = M - 1; omega)
          have S3 : Hid (∀ (u : World) (v : Value), w.heap.size ≤ u.heap.size → u.ownsRow w.heap.size 33 3 v (M - 1) (grCs (yN M T)) → Calls Try.prog 19 #[v, .agg #[.string ⟨#[99]⟩, .string ⟨#[100, 47, 110, 101, 119]⟩, .int .i64 3]] u fun e w' => (∃ v', e = .returned (.tuple #[v', .int .i64 0]) ∧ w'.ownsRow w.heap.size 33 3 v' M (grCs (zN M T))) ∧ Below u.heap.size u w') := fun u v hu hrow => set_ok (n := M - 1) (by omega) hrow hu le2 gCN (show (5 : Nat) ≤ _ by decide) r2 fi3 e3 l3
          have Y1 : Hid (∀ (u : World) (v : Value), GrsAt u v (zN M T) → Calls Try.prog 16 #[v, .string ⟨#[99]⟩, .string ⟨#[100, 47, 110, 101, 119]⟩] u fun e w' => e = .returned (.int .i64 3) ∧ Below u.heap.size u w') := fun u v hv => by have := amay_any (zN M T) le3 [99] [100, 47, 110, 101, 119] (by decide) v u hv; rw [m1] at this; exact this
          have Y2 : Hid (∀ (u : World) (v : Value), GrsAt u v (zN M T) → Calls Try.prog 16 #[v, .string ⟨#[97]⟩, strA (whoN T)] u fun e w' => e = .returned (.int .i64 0) ∧ Below u.heap.size u w') := fun u v hv => by have := amay_any (zN M T) le3 [97] (whoN T) (show (5 : Nat) ≤ _ by decide) v u hv; rw [m2] at this; exact this
          have HZ : Hid (∀ (u : World) (v : Value), u.ownsRow w.heap.size 33 3 v M (grCs (zN M T)) → GrsAt u v (zN M T)) := fun u v h => grs_row (l := zN M T) (by rw [l3]; exact h)
          have hM1 : ((M - 1 : Nat) : Int) = (M : Int) - 1 := by omega
          obtain ⟨M1, hM1d⟩ : ∃ M1, M1 = M - 1 := ⟨_, rfl⟩
          rw [← hM1d] at S2 S3 hM1
          have hM1b : ((M1 : Int) == (M : Int) - 1) = true := by rw [beq_iff_eq]; exact hM1
          have hMM : ((M : Int) == (M : Int)) = true := by simp
          have hMi : (M : Int) ≤ 64 := by omega
          obtain ⟨w1a, w1b⟩ := w1
          clear HWho hM1d l1 l2 l3 e1 e2 e3 fi1 fi2 fi3 r1 r2 r3 m1 m2 am ax le0 le1 le2 le3 hy0 hM1
          generalize grCs (xN M T) = CX at *
          generalize grCs (yN M T) = CY at *
          generalize grCs (zN M T) = CZ at *
          generalize zN M T = ZL at *
          generalize grCs (msN M) = CM at *
          generalize whoN T = WH at *
          rcases hfold1 with ⟨g1, g2⟩ | ⟨g1, _, g2⟩
          · clear hTM
            go_wp2_with (first
              | (go_at_call 22; refine Calls.mono (HWk.out _) ?_; rintro e u2 ⟨rfl, hb2⟩; have HB2 := (show Hid (Below w.heap.size w u2) from HB.out.trans (hb2.mono HB.out.size)); have HR2 := (show Hid (World.ownsRow u2 w.heap.size 33 3 _ _ _) from arow_keeps HR.out hb2); clear hb2)
              | (go_at_call_of 19 (Value.int IntKind.i64 3); refine Calls.mono (S3.out u4 (.slice a4 M1 c4) HB4.out.size HR4.out) ?_; rintro e u5 ⟨⟨v5, rfl, hr5⟩, hb5⟩; obtain ⟨a5, c5, hv5⟩ := arow_len hr5; subst hv5; have HB5 := (show Hid (Below w.heap.size w u5) from HB4.out.trans (hb5.mono HB4.out.size)); have HV5 := (show Hid (GrsAt u5 (.slice a5 M c5) ZL) from HZ.out _ _ hr5); clear hb5 hr5)
              | (go_at_call_of 19 (Value.int IntKind.i64 0); refine Calls.mono (S2.out u3 (.slice a3 M c3) HB3.out.size HR3.out) ?_; rintro e u4 ⟨⟨v4, rfl, hr4⟩, hb4⟩; obtain ⟨a4, c4, hv4⟩ := arow_len hr4; subst hv4; have HR4 := (show Hid (World.ownsRow u4 w.heap.size 33 3 (.slice a4 M1 c4) M1 CY) from hr4); have HB4 := (show Hid (Below w.heap.size w u4) from HB3.out.trans (hb4.mono HB3.out.size)); clear hb4 hr4)
              | (go_at_call_of 19 (Value.int IntKind.i64 2); refine Calls.mono (S1.out u2 HB2.out.size HR2.out) ?_; rintro e u3 ⟨⟨v3, rfl, hr3⟩, hb3⟩; obtain ⟨a3, c3, hv3⟩ := arow_len hr3; subst hv3; have HR3 := (show Hid (World.ownsRow u3 w.heap.size 33 3 (.slice a3 M c3) M CX) from hr3); have HB3 := (show Hid (Below w.heap.size w u3) from HB2.out.trans (hb3.mono HB2.out.size)); clear hb3 hr3)
              | (go_at_call_of 16 (strA WH); refine Calls.mono (Y2.out u6 (.slice a5 M c5) HV6.out) ?_; rintro e u7 ⟨rfl, hb7⟩; have HB7 := (show Hid (Below w.heap.size w u7) from HB6.out.trans (hb7.mono HB6.out.size)); clear hb7)
              | (go_at_call 16; refine Calls.mono (Y1.out u5 (.slice a5 M c5) HV5.out) ?_; rintro e u6 ⟨rfl, hb6⟩; have HB6 := (show Hid (Below w.heap.size w u6) from HB5.out.trans (hb6.mono HB5.out.size)); have HV6 := (show Hid (GrsAt u6 (.slice a5 M c5) ZL) from HV5.out.below hb6); clear hb6))
            go_ret
            exact ⟨rfl, HB7.out⟩
          · clear hTM
            go_wp2_with (first
              | (go_at_call 22; refine Calls.mono (HWk.out _) ?_; rintro e u2 ⟨rfl, hb2⟩; have HB2 := (show Hid (Below w.heap.size w u2) from HB.out.trans (hb2.mono HB.out.size)); have HR2 := (show Hid (World.ownsRow u2 w.heap.size 33 3 _ _ _) from arow_keeps HR.out hb2); clear hb2)
              | (go_at_call_of 19 (Value.int IntKind.i64 3); refine Calls.mono (S3.out u4 (.slice a4 M1 c4) HB4.out.size HR4.out) ?_; rintro e u5 ⟨⟨v5, rfl, hr5⟩, hb5⟩; obtain ⟨a5, c5, hv5⟩ := arow_len hr5; subst hv5; have HB5 := (show Hid (Below w.heap.size w u5) from HB4.out.trans (hb5.mono HB4.out.size)); have HV5 := (show Hid (GrsAt u5 (.slice a5 M c5) ZL) from HZ.out _ _ hr5); clear hb5 hr5)
              | (go_at_call_of 19 (Value.int IntKind.i64 0); refine Calls.mono (S2.out u3 (.slice a3 M c3) HB3.out.size HR3.out) ?_; rintro e u4 ⟨⟨v4, rfl, hr4⟩, hb4⟩; obtain ⟨a4, c4, hv4⟩ := arow_len hr4; subst hv4; have HR4 := (show Hid (World.ownsRow u4 w.heap.size 33 3 (.slice a4 M1 c4) M1 CY) from hr4); have HB4 := (show Hid (Below w.heap.size w u4) from HB3.out.trans (hb4.mono HB3.out.size)); clear hb4 hr4)
              | (go_at_call_of 19 (Value.int IntKind.i64 2); refine Calls.mono (S1.out u2 HB2.out.size HR2.out) ?_; rintro e u3 ⟨⟨v3, rfl, hr3⟩, hb3⟩; obtain ⟨a3, c3, hv3⟩ := arow_len hr3; subst hv3; have HR3 := (show Hid (World.ownsRow u3 w.heap.size 33 3 (.slice a3 M c3) M CX) from hr3); have HB3 := (show Hid (Below w.heap.size w u3) from HB2.out.trans (hb3.mono HB2.out.size)); clear hb3 hr3)
              | (go_at_call_of 16 (strA WH); refine Calls.mono (Y2.out u6 (.slice a5 M c5) HV6.out) ?_; rintro e u7 ⟨rfl, hb7⟩; have HB7 := (show Hid (Below w.heap.size w u7) from HB6.out.trans (hb7.mono HB6.out.size)); clear hb7)
              | (go_at_call 16; refine Calls.mono (Y1.out u5 (.slice a5 M c5) HV5.out) ?_; rintro e u6 ⟨rfl, hb6⟩; have HB6 := (show Hid (Below w.heap.size w u6) from HB5.out.trans (hb6.mono HB5.out.size)); have HV6 := (show Hid (GrsAt u6 (.slice a5 M c5) ZL) from HV5.out.below hb6); clear hb6))
            go_ret
            exact ⟨rfl, HB7.out⟩
end Go.Proofs.Ytfaekjplebjnlaa
