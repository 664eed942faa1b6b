/- IncludeVersions: without a version the latest one is meant; walked. -/
import Derived.Test.YtkjicdldlnefeabDoorNDig
import Derived.Laws.Strings3
set_option linter.unusedVariables false
namespace Go.Proofs.YtkjicdldlnefeabDoor
open Go.RowKit

theorem nsadd (A B : StrA) (h : A.length + B.length ≤ 9223372036854775000) : ∀ w, (Op.stringOp .add (ByteArray.mk A.toArray) (ByteArray.mk B.toArray)).run Tryd.prog w = .ok (.string ⟨(A ++ B).toArray⟩) w := by
  intro w
  rw [← cat_eq]
  exact run_string_add_sum (w := w) _ _ (by rw [size_list, size_list]; omega)
theorem infoPg3 : (Tryd.prog.info? 28).map (fun i => (i.zero, i.size, i.bytes)) = some (some (.agg #[.string ⟨#[]⟩, .string ⟨#[]⟩, .int .i64 0, .string ⟨#[]⟩]), 4, 56) := by kernel_rfl
def FoldN (a x : Int) (m : Int) : Prop := (¬ a < 0 ∧ a.tmod m = x) ∨ (a < 0 ∧ (-(a + 1)).tmod m = x)
theorem nfold_ex (a m : Int) (h0 : -9223372036854775808 ≤ a) (hm : 0 < m) : ∃ x : Int, 0 ≤ x ∧ x < m ∧ FoldN a x m := by
  by_cases h : 0 ≤ a
  · exact ⟨a.tmod m, Int.tmod_nonneg _ h, by rw [Int.tmod_eq_emod_of_nonneg h]; exact Int.emod_lt_of_pos _ hm, .inl ⟨by omega, rfl⟩⟩
  · exact ⟨(-(a + 1)).tmod m, Int.tmod_nonneg _ (by omega), by rw [Int.tmod_eq_emod_of_nonneg (by omega)]; exact Int.emod_lt_of_pos _ hm, .inr ⟨by omega, rfl⟩⟩

set_option maxHeartbeats 32000000 in
set_option maxRecDepth 20000 in
theorem wvers (a : Option Addr) (b o len cap : Nat) (num : Nat → Int) (z1 : Int) (hz : -9223372036854775808 ≤ z1 ∧ z1 ≤ 9223372036854775807) (w : World) (h1 : 0 < len → a = some ⟨b, o, none⟩) (h2 : ∀ i, i < len → w.cell? ⟨b, o + i, none⟩ = some (.int .i64 (num i))) (h3 : len ≤ maxLen) (h4 : ∀ i, -9223372036854775808 ≤ num i ∧ num i ≤ 9223372036854775807) :
    Calls Tryd.prog 3 #[.slice a len cap, .int .i64 z1] w fun e w' => e = .returned (.bool true) ∧ Below w.heap.size w w' := by
  have HS : Hid (∀ u, Calls Tryd.prog 5 #[] u fun e w' => e = .returned (.bool true) ∧ Below u.heap.size u w') := fun u => nshown_any u
  have E1 := (show Hid (0 < len → a = some ⟨b, o, none⟩) from h1)
  have E2 := (show Hid (∀ i, i < len → b < w.heap.size ∧ w.cell? ⟨b, o + i, none⟩ = some (.int .i64 (num i))) from fun i hi => ⟨World.block_lt_of_cell? w ⟨b, o + i, none⟩ (h2 i hi), h2 i hi⟩)
  have E4 := (show Hid (∀ i, -9223372036854775808 ≤ num i ∧ num i ≤ 9223372036854775807) from h4)
  have hleni : (len : Int) ≤ 9223372036854775807 := by unfold maxLen at h3; omega
  obtain ⟨i0, hi, hz0, hz1, hz2⟩ := info_parts infoPg3
  obtain ⟨x, hx0, hx50, hxf⟩ := nfold_ex z1 50 hz.1 (by omega)
  obtain ⟨X, hX⟩ : ∃ X : Nat, x = (X : Int) := ⟨x.toNat, by omega⟩
  subst hX
  obtain ⟨A, hA⟩ : ∃ A : Nat, A = X + 1 := ⟨_, rfl⟩
  have hAI : (1 : Int) + (X : Int) = (A : Int) := by omega
  have hA1 : 1 ≤ A := by omega
  have hA2 : A < 51 := by omega
  have hAi : (A : Int) < 51 := by omega
  have hXi : (X : Int) < 50 := by omega
  obtain ⟨hza, hzb⟩ := hz
  clear h1 h2 h3 h4 hx0 hx50 hA
  have hxf2 : (¬ z1 < 0 ∧ z1.tmod 50 = (X : Int)) ∨ (z1 < 0 ∧ (-(z1 + 1)).tmod 50 = (X : Int)) := hxf
  clear hxf
  rcases hxf2 with ⟨g1, g2⟩ | ⟨g1, g2⟩
  all_goals
    go_enter Tryd.func3, Tryd.ntmps3
    go_wp2_with (go_at_call 5; refine Calls.mono (HS.out _) ?_)
    first | (intro e wb he hb1; subst he) | (rintro e wb ⟨rfl, hb1⟩)
    have HB1 := (show Hid (Below w.heap.size w wb) from hb1)
    clear hb1 HS
    go_wp2
    go_loopw [6, 7, 8, 9] (fun l m h i wr => ∃ (k : Nat) (ns : List Nat), i = .int .i64 (k : Int) ∧ k ≤ len ∧ k ≤ 30 ∧ Hid (ns.length = k) ∧ m = .int .i64 (mostN ns : Int) ∧ (∃ H, h = .bool H ∧ Hid (H = decide (A ∈ ns))) ∧ Hid (∀ n ∈ ns, 1 ≤ n ∧ n < 51) ∧ Hid (wr.ownsRow wb.heap.size 28 4 l ns.length (pgCs (verL ns))) ∧ Hid (Below wb.heap.size wb wr)) (fun _ _ _ i _ => 30 - (intOf i).toNat)
    case atStart => exact ⟨0, [], rfl, Nat.zero_le _, Nat.zero_le _, rfl, rfl, ⟨false, rfl, (by show _ = _; simp)⟩, (fun n hn => by cases hn), World.ownsRow_nil _ _ _ _, Below.refl _ _⟩
    case round =>
      obtain ⟨k, ns, rfl, hk, hk30, HNl, rfl, ⟨H, rfl, HH⟩, HN, HOw, HB⟩ := hrel
      obtain ⟨av, cv, hvv⟩ := nrow_len HOw.out
      subst hvv
      have hkb : (k : Int) ≤ 30 := by omega
      have hnl30 : ns.length ≤ 30 := by have := HNl.out; omega
      have HBw := (show Hid (Below w.heap.size w wr) from HB1.out.trans (HB.out.mono HB1.out.size))
      have hM51 : mostN ns < 51 := by
        rcases max_in ns 0 with q | q
        · show ns.foldl max 0 < 51; omega
        · exact (HN.out _ q).2
      have hMi : (mostN ns : Int) < 51 := by omega
      by_cases hlt : k < len ∧ k < 30
      · have hlt1 : (k : Int) < (len : Int) := by omega
        have hlt2 : (k : Int) < 30 := by omega
        have hae := E1.out (by omega)
        have hc := (HBw.out.cell (p := ⟨b, o + k, none⟩) (E2.out k hlt.1).1).trans (E2.out k hlt.1).2
        subst hae
        obtain ⟨wl, wh⟩ := E4.out k
        generalize num k = z at *
        obtain ⟨y, hy0, hy50, hyf⟩ := nfold_ex z 50 wl (by omega)
        obtain ⟨Y, hY⟩ : ∃ Y : Nat, y = (Y : Int) := ⟨y.toNat, by omega⟩
        subst hY
        obtain ⟨n, hn⟩ : ∃ n : Nat, n = Y + 1 := ⟨_, rfl⟩
        have hnI : (1 : Int) + (Y : Int) = (n : Int) := by omega
        have hn1 : 1 ≤ n := by omega
        have hn51 : n < 51 := by omega
        have hni : (n : Int) < 51 := by omega
        have hYi : (Y : Int) < 50 := by omega
        have HDg := (show Hid (∀ u, Calls Tryd.prog 7 #[.int .i64 (n : Int)] u fun e w' => e = .returned (strA (digN n)) ∧ Below u.heap.size u w') from fun u => ndig_any n hn51 u)
        have HPgc := (show Hid (∀ u, Calls Tryd.prog 6 #[.string ⟨#[120]⟩, .int .i64 (n : Int), strA (digN n)] u fun e w' => e = .returned (.agg #[.string ⟨#[97]⟩, .string ⟨#[120]⟩, .int .i64 (n : Int), strA (digN n)]) ∧ Below u.heap.size u w') from fun u => npage_any [120] (n : Int) (digN n) u)
        have HMx := (show Hid (mostN (ns ++ [n]) = max (mostN ns) n) from most_snoc ns n)
        have HN2 : Hid (∀ m ∈ ns ++ [n], 1 ≤ m ∧ m < 51) := fun m hm => by
          rcases List.mem_append.1 hm with q | q
          · exact HN.out m q
          · rw [List.mem_singleton.1 q]; exact ⟨hn1, hn51⟩
        have HPc : Hid (pgCs (verL (ns ++ [n])) = pgCs (verL ns) ++ [.string ⟨#[97]⟩, .string ⟨#[120]⟩, .int .i64 (n : Int), strA (digN n)]) := by show _ = _; unfold verL; rw [List.map_append, pgCs_app]; rfl
        obtain ⟨QA, hQA⟩ : ∃ QA, ((n : Int) == (A : Int)) = QA := ⟨_, rfl⟩
        have HQ : Hid (decide (A ∈ ns ++ [n]) = (H || QA)) := by
          show _ = _
          rw [HH.out, ← hQA, Bool.eq_iff_iff]
          simp
          constructor
          · rintro (q | q)
            · exact .inl q
            · exact .inr (by omega)
          · rintro (q | q)
            · exact .inl q
            · exact .inr (by omega)
        have hmx : (mostN ns : Int) < (n : Int) ∨ (n : Int) ≤ (mostN ns : Int) := by omega
        clear hy0 hy50 hn HH HN E1 E2 E4 hM51
        generalize mostN ns = M at *
        have hyf2 : (¬ z < 0 ∧ z.tmod 50 = (Y : Int)) ∨ (z < 0 ∧ (-(z + 1)).tmod 50 = (Y : Int)) := hyf
        clear hyf
        obtain ⟨TL, hTL⟩ : ∃ TL, TL = verL ns := ⟨_, rfl⟩
        rw [← hTL] at HOw HPc
        clear hTL
        rcases hyf2 with ⟨f1, f2⟩ | ⟨f1, f2⟩
        all_goals
          go_wp2_with (go_at_call 7; refine Calls.mono (HDg.out _) ?_)
          first | (intro e wd he hbd; subst he) | (rintro e wd ⟨rfl, hbd⟩)
          have HBd := (show Hid (Below wb.heap.size wb wd) from HB.out.trans (hbd.mono HB.out.size))
          have HOd := (show Hid (wd.ownsRow wb.heap.size 28 4 (.slice av ns.length cv) ns.length (pgCs TL)) from nrow_below HOw.out hbd)
          clear hbd
          go_wp2_with (go_at_call 6; refine Calls.mono (HPgc.out _) ?_)
          first | (intro e we he hbe; subst he) | (rintro e we ⟨rfl, hbe⟩)
          have HBe := (show Hid (Below wb.heap.size wb we) from HBd.out.trans (hbe.mono HBd.out.size))
          have HOe := (show Hid (we.ownsRow wb.heap.size 28 4 (.slice av ns.length cv) ns.length (pgCs TL)) from nrow_below HOd.out hbe)
          clear hbe HOd HBd
          go_wp2_with (at_builtin; refine wpList_append_own_at _ rfl _ _ 24 rfl wb.heap.size 28 i0 (.agg #[.string ⟨#[]⟩, .string ⟨#[]⟩, .int .i64 0, .string ⟨#[]⟩]) 4 56 Tryd.underlying24 hi hz0 hz1 hz2 rfl (by decide) _ _ _ rfl (World.ownsRow.alloc HOe.out _) ⟨we.heap.size, 0, none⟩ 1 1 [.string ⟨#[97]⟩, .string ⟨#[120]⟩, .int .i64 (n : Int), strA (digN n)] rfl rfl (lit_cells _ _ _) ?d3 ?d4 ?d5 ?d6 ?_)
          case d3 => first | (intro u hu; simp at hu; rcases hu with rfl | rfl | rfl | rfl <;> rfl) | exact ⟨rfl, rfl, rfl, rfl⟩
          case d4 => unfold maxLen; omega
          case d5 => omega
          case d6 => have := HBe.out.size; simp; omega
          intro v5 w5 hown5 hgrow5 _ _
          have HO5 := (show Hid (w5.ownsRow wb.heap.size 28 4 v5 (ns.length + 1) (pgCs (verL (ns ++ [n])))) from (by rw [HPc.out]; exact hown5))
          have HB5 := (show Hid (Below wb.heap.size wb w5) from (HBe.out.alloc HBe.out.size _).grown hgrow5 (by have := HBe.out.size; simp; omega) (fun k hk => (World.ownsRow.lt HOe.out k hk).1))
          obtain ⟨a5, c5, hv5⟩ := nrow_len HO5.out
          subst hv5
          clear hown5 hgrow5 HOe HBe
          rcases hmx with hm1 | hm1
          all_goals (cases H)
          all_goals (try cases QA)
          all_goals
            go_wp2
            exact ⟨⟨k + 1, ns ++ [n], by go_num, by omega, by omega, (by show _ = _; rw [List.length_append, HNl.out]; rfl), (by rw [HMx.out]; congr 1; omega), ⟨_, rfl, (by show _ = _; rw [HQ.out]; first | done | rfl | simp)⟩, HN2, (by rw [List.length_append]; exact HO5), HB5⟩, by (simp [intOf]) <;> omega⟩
      · have HFin : Hid (∀ ns' : List Nat, True) := fun _ => trivial
        have hstop : ¬ ((k : Int) < (len : Int)) ∨ ((k : Int) < (len : Int) ∧ ¬ ((k : Int) < 30)) := by omega
        have HP5 := (show Hid (∀ u, Below wr.heap.size wr u → PgsN u (.slice av ns.length cv) (verL ns)) from fun u hu => by have := pgs_row (l := verL ns) (w := u) (B := wb.heap.size) (v := .slice av ns.length cv) (by have q := nrow_below HOw.out hu; unfold verL; rw [List.length_map]; exact q); exact this)
        have htx : ∀ p ∈ verL ns, p.text.length ≤ 200000000 := fun p hp => by
          obtain ⟨n, hn, rfl⟩ := List.mem_map.1 hp
          have := (dig_all n (HN.out n hn).2).2.2
          show (digN n).length ≤ _
          omega
        have hvl : (verL ns).length ≤ 9223372036854775000 := by unfold verL; rw [List.length_map]; omega
        have X1 := (show Hid (∀ (u : World) (vm : Value), Below wr.heap.size wr u → StrsN u vm [[97]] → Calls Tryd.prog 8 #[.slice av ns.length cv, vm, .agg #[.string ⟨#[97]⟩, .string ⟨#[120]⟩, .int .i64 0]] u fun e w' => (∃ v', e = .returned (.tuple #[strA (expandA (verL ns) [[97]] ⟨[97], [120], 0⟩).1, v', .int .i64 (expandA (verL ns) [[97]] ⟨[97], [120], 0⟩).2.2]) ∧ w'.ownsRow u.heap.size 26 3 v' (expandA (verL ns) [[97]] ⟨[97], [120], 0⟩).2.1.length (rfCs (expandA (verL ns) [[97]] ⟨[97], [120], 0⟩).2.1)) ∧ Below u.heap.size u w') from fun u vm hu hs => nexpand_any (verL ns) hvl htx [[97]] (by decide) ⟨[97], [120], 0⟩ _ vm u (HP5.out u hu) hs)
        have X2 := (show Hid (∀ (u : World) (vm : Value), Below wr.heap.size wr u → StrsN u vm [[97]] → Calls Tryd.prog 8 #[.slice av ns.length cv, vm, .agg #[.string ⟨#[97]⟩, .string ⟨#[120]⟩, .int .i64 (A : Int)]] u fun e w' => (∃ v', e = .returned (.tuple #[strA (expandA (verL ns) [[97]] ⟨[97], [120], (A : Int)⟩).1, v', .int .i64 (expandA (verL ns) [[97]] ⟨[97], [120], (A : Int)⟩).2.2]) ∧ w'.ownsRow u.heap.size 26 3 v' (expandA (verL ns) [[97]] ⟨[97], [120], (A : Int)⟩).2.1.length (rfCs (expandA (verL ns) [[97]] ⟨[97], [120], (A : Int)⟩).2.1)) ∧ Below u.heap.size u w') from fun u vm hu hs => nexpand_any (verL ns) hvl htx [[97]] (by decide) ⟨[97], [120], (A : Int)⟩ _ vm u (HP5.out u hu) hs)
        have HE1 := (show Hid (ns ≠ [] → expandA (verL ns) [[97]] ⟨[97], [120], 0⟩ = (digN (mostN ns) ++ [10], [], 0)) from fun q => ver_latest q HN.out)
        have HE0 := (show Hid (ns = [] → expandA (verL ns) [[97]] ⟨[97], [120], 0⟩ = ([], [], 5) ∧ expandA (verL ns) [[97]] ⟨[97], [120], (A : Int)⟩ = ([], [], 5)) from fun q => by subst q; exact ⟨ver_empty, by rw [ver_one hA1 hA2]; simp⟩)
        have HE2 := (show Hid (expandA (verL ns) [[97]] ⟨[97], [120], (A : Int)⟩ = if A ∈ ns then (digN A ++ [10], [], 0) else ([], [], 5)) from ver_one hA1 hA2)
        have HM0 := (show Hid (ns ≠ [] → 1 ≤ mostN ns) from fun q => (HN.out _ (most_in q (fun n hn => (HN.out n hn).1))).1)
        have HDm := (show Hid (∀ u, Calls Tryd.prog 7 #[.int .i64 (mostN ns : Int)] u fun e w' => e = .returned (strA (digN (mostN ns))) ∧ Below u.heap.size u w') from fun u => ndig_any _ hM51 u)
        have HDa := (show Hid (∀ u, Calls Tryd.prog 7 #[.int .i64 (A : Int)] u fun e w' => e = .returned (strA (digN A)) ∧ Below u.heap.size u w') from fun u => ndig_any _ hA2 u)
        have sm := nsadd (digN (mostN ns)) [10] (by have := (dig_all _ hM51).2.2; simp; omega)
        have sa := nsadd (digN A) [10] (by have := (dig_all _ hA2).2.2; simp; omega)
        obtain ⟨SM, hSM⟩ : ∃ SM, SM = digN (mostN ns) ++ [10] := ⟨_, rfl⟩
        obtain ⟨SA, hSA⟩ : ∃ SA, SA = digN A ++ [10] := ⟨_, rfl⟩
        rw [← hSM] at sm HE1
        rw [← hSA] at sa HE2
        clear hSM hSA
        obtain ⟨R1, hR1⟩ : ∃ R1, expandA (verL ns) [[97]] ⟨[97], [120], 0⟩ = R1 := ⟨_, rfl⟩
        obtain ⟨R2, hR2⟩ : ∃ R2, expandA (verL ns) [[97]] ⟨[97], [120], (A : Int)⟩ = R2 := ⟨_, rfl⟩
        rw [hR1] at X1 HE1 HE0
        rw [hR2] at X2 HE2 HE0
        clear hR1 hR2 htx hvl HFin HP5 hlt
        obtain ⟨W5, hW5⟩ : ∃ W5, W5 = wr.alloc (.cells #[.string ⟨#[97]⟩, .string ⟨#[120]⟩, .int .i64 0] 26) := ⟨_, rfl⟩
        have hs5 : W5.heap.size = wr.heap.size + 1 := by rw [hW5]; simp
        have hb5 : Below wr.heap.size wr W5 := by rw [hW5]; exact (Below.refl _ _).alloc (Nat.le_refl _) _
        have hk5 : W5.heap[wr.heap.size]? = some (.cells #[.string ⟨#[97]⟩, .string ⟨#[120]⟩, .int .i64 0] 26 (0, 0)) := by rw [hW5]; exact blk_newN _ _ _
        obtain ⟨W6, hW6⟩ : ∃ W6, W6 = W5.alloc (.cells #[.string ⟨#[97]⟩] 9) := ⟨_, rfl⟩
        have HB6 : Hid (Below wr.heap.size wr W6) := by show Below _ _ _; rw [hW6]; exact hb5.alloc hb5.size _
        have HK6 : Hid (W6.heap[wr.heap.size]? = some (.cells #[.string ⟨#[97]⟩, .string ⟨#[120]⟩, .int .i64 0] 26 (0, 0))) := by show _ = _; rw [hW6]; exact blk_allocN hk5 _
        have hS6 : StrsN W6 (.slice (some ⟨wr.heap.size + 1, 0, none⟩) 1 1) [[97]] := strs_blk (l := [[97]]) (by rw [hW6, ← hs5]; exact blk_newN _ _ _)
        have hX1 := X1.out W6 _ HB6.out hS6
        rw [hW6, hW5] at hX1
        have HX1 := (show Hid _ from hX1)
        have HSZ6 : Hid (wr.heap.size + 1 + 1 = W6.heap.size) := by show _ = _; rw [hW6, hW5]; simp
        clear hX1 hS6 hk5 hb5 hs5 X1
        obtain ⟨S1, L1, F1⟩ := R1
        obtain ⟨S2, L2, F2⟩ := R2
        simp only at HX1 X2
        have go : ∀ {P : Prop}, (¬ ((k : Int) < (len : Int)) → P) → ((k : Int) < (len : Int) → ¬ ((k : Int) < 30) → P) → P := fun p1 p2 => by
          rcases hstop with q | ⟨q1, q2⟩
          · exact p1 q
          · exact p2 q1 q2
        clear hstop
        apply go
        all_goals
          clear go
          intros
          go_wp2_with (go_at_call 8; refine Calls.mono HX1.out ?_)
          rw [← hW5, ← hW6]
          first | (intro e w7 v7 he h7 hb7; subst he) | (rintro e w7 ⟨v7, rfl, h7⟩ hb7) | (rintro e w7 ⟨⟨v7, rfl, h7⟩, hb7⟩)
          (try rw [HSZ6.out] at hb7)
          have HB7 := (show Hid (Below wr.heap.size wr w7) from HB6.out.trans (hb7.mono HB6.out.size))
          have hk7 := blk_belowN HK6.out hb7
          obtain ⟨a7, c7, hv7⟩ := nrow_len h7
          subst hv7
          have y0 := cell_blkN hk7 (i := 0) (v := .string ⟨#[97]⟩) rfl
          have y1 := cell_blkN hk7 (i := 1) (v := .string ⟨#[120]⟩) rfl
          have y2 := cell_blkN hk7 (i := 2) (v := .int .i64 0) rfl
          have f2 := free_blkN hk7 2
          obtain ⟨W8, hW8⟩ : ∃ W8, W8 = w7.setCell ⟨wr.heap.size, 2, none⟩ (.int .i64 (A : Int)) := ⟨_, rfl⟩
          have hk8 : W8.heap[wr.heap.size]? = some (.cells #[.string ⟨#[97]⟩, .string ⟨#[120]⟩, .int .i64 (A : Int)] 26 (0, 0)) := by rw [hW8]; exact set_blkN hk7 2 _
          have hb8 : Below wr.heap.size wr W8 := by rw [hW8]; exact HB7.out.setCell (Nat.le_refl _) _
          have hs8 : W8.heap.size = w7.heap.size := by rw [hW8]; simp
          obtain ⟨W9, hW9⟩ : ∃ W9, W9 = W8.alloc (.cells #[.string ⟨#[97]⟩] 9) := ⟨_, rfl⟩
          have HB9 : Hid (Below wr.heap.size wr W9) := by show Below _ _ _; rw [hW9]; exact hb8.alloc hb8.size _
          have hS9 : StrsN W9 (.slice (some ⟨w7.heap.size, 0, none⟩) 1 1) [[97]] := strs_blk (l := [[97]]) (by rw [hW9, ← hs8]; exact blk_newN _ _ _)
          have k0 := cell_blkN (blk_allocN hk8 (.cells #[.string ⟨#[97]⟩] 9)) (i := 0) (v := .string ⟨#[97]⟩) rfl
          have k1 := cell_blkN (blk_allocN hk8 (.cells #[.string ⟨#[97]⟩] 9)) (i := 1) (v := .string ⟨#[120]⟩) rfl
          have k2 := cell_blkN (blk_allocN hk8 (.cells #[.string ⟨#[97]⟩] 9)) (i := 2) (v := .int .i64 (A : Int)) rfl
          rw [hW8] at k0 k1 k2
          have hX2 := X2.out W9 _ HB9.out hS9
          rw [hW9, hW8] at hX2
          have HX2 := (show Hid _ from hX2)
          have HSZ9 : Hid (w7.heap.size + 1 = W9.heap.size) := by show _ = _; rw [hW9, hW8]; simp
          clear hX2 hS9 hk8 hb8 hs8 hb7 h7 hk7 HX1 HB7 HK6 HB6 HSZ6
          go_wp2_with (go_at_call 8; refine Calls.mono HX2.out ?_)
          rw [← hW8, ← hW9]
          first | (intro e wx v10 he h10 hb10; subst he) | (rintro e wx ⟨v10, rfl, h10⟩ hb10) | (rintro e wx ⟨⟨v10, rfl, h10⟩, hb10⟩)
          (try rw [HSZ9.out] at hb10)
          have HBx := (show Hid (Below w.heap.size w wx) from (HBw.out.trans (HB9.out.mono HBw.out.size)).trans (hb10.mono (Nat.le_trans HBw.out.size HB9.out.size)))
          obtain ⟨a10, c10, hv10⟩ := nrow_len h10
          subst hv10
          clear hb10 h10 HX2 y0 y1 y2 f2 k0 k1 k2 hW5 hW6 hW8 hW9 HB9
          by_cases hns : ns = []
          · obtain ⟨q1, q2⟩ := HE0.out hns
            cases q1
            cases q2
            subst hns
            have hm0 : mostN [] = 0 := rfl
            rw [hm0]
            go_wp2
            go_ret
            exact ⟨rfl, HBx.out⟩
          · have q1 := HE1.out hns
            cases q1
            have hmb : ((mostN ns : Int) == 0) = false := by have := HM0.out hns; simp; omega
            have e1 : (SM == SM) = true := by simp
            have hh := HH.out
            cases H
            · have hnin : A ∉ ns := by simpa using hh.symm
              have q2 := HE2.out
              rw [if_neg hnin] at q2
              cases q2
              clear hh HH HE0 HE1 HE2
              go_wp2_with (go_at_call 7; refine Calls.mono (HDm.out _) ?_)
              first | (intro e wy he hby; subst he) | (rintro e wy ⟨rfl, hby⟩)
              have HBy := (show Hid (Below w.heap.size w wy) from HBx.out.trans (hby.mono HBx.out.size))
              clear hby
              go_wp2
              go_ret
              exact ⟨rfl, HBy.out⟩
            · have hin : A ∈ ns := by simpa using hh.symm
              have q2 := HE2.out
              rw [if_pos hin] at q2
              cases q2
              have e2 : (SA == SA) = true := by simp
              clear hh HH HE0 HE1 HE2
              go_wp2_with (go_at_call 7; refine Calls.mono (HDm.out _) ?_)
              first | (intro e wy he hby; subst he) | (rintro e wy ⟨rfl, hby⟩)
              have HBy := (show Hid (Below w.heap.size w wy) from HBx.out.trans (hby.mono HBx.out.size))
              clear hby
              go_wp2_with (go_at_call 7; refine Calls.mono (HDa.out _) ?_)
              first | (intro e wz he hbz; subst he) | (rintro e wz ⟨rfl, hbz⟩)
              have HBz := (show Hid (Below w.heap.size w wz) from HBy.out.trans (hbz.mono HBy.out.size))
              clear hbz
              go_wp2
              go_ret
              exact ⟨rfl, HBz.out⟩
end Go.Proofs.YtkjicdldlnefeabDoor
