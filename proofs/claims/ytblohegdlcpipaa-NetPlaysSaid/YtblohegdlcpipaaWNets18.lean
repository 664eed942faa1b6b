/- NetPlays: two nets, by turns, any steps: walked. -/
import Derived.Test.YtblohegdlcpipaaUNets
set_option linter.unusedVariables false
set_option linter.unusedSimpArgs false
namespace Go.Proofs.Ytblohegdlcpipaa
open Go.RowKit

set_option maxHeartbeats 16000000 in
set_option maxRecDepth 40000 in
theorem wnets_any (la : Option Addr) (bb oo len cap : Nat) (w : World) (e1 : 0 < len → la = some ⟨bb, oo, none⟩) (e2 : ∀ i, i < len → ∃ kind A B da dn dc S l, OpM w bb (oo + i * 5) kind A B da dn dc S l) (e3 : len ≤ maxLen) :
    Calls Try.prog 3 #[.slice la len cap] w fun e w' => e = .returned (.bool true) ∧ Below w.heap.size w w' := by
  have HSh := ushown_any w
  have HT : Hid ((0 < len → la = some ⟨bb, oo, none⟩) ∧ ∀ i, i < len → ∃ kind A B da dn dc S l, OpM w bb (oo + i * 5) kind A B da dn dc S l) := ⟨e1, e2⟩
  have bl : (len : Int) ≤ 9223372036854775807 := by simp only [maxLen] at e3; omega
  clear e1 e2 e3
  go_enter Try.func3, Try.ntmps3
  go_wp2_with (fail)
  refine HSh.mono ?_
  rintro e w1 ⟨rfl, hb1⟩
  clear HSh
  have HB1 : Hid (Below w.heap.size w w1) := hb1
  clear hb1
  go_wp2_with (fail)
  refine (new2_any (w := w1)).mono ?_
  rintro e w2 ⟨a, rfl, ha, la1, la2, hb2⟩
  have HA : Hid (NetC w2 a (.slice none 0 0) 0 [] ∧ w1.heap.size ≤ a ∧ a < w2.heap.size ∧ Below w1.heap.size w1 w2) := ⟨ha, la1, la2, hb2⟩
  clear ha la1 la2 hb2
  go_wp2_with (fail)
  refine (new2_any (w := w2)).mono ?_
  rintro e w3 ⟨b, rfl, hbn, lb1, lb2, hb3⟩
  have hqa : ∀ u, (binOp BinOp.eql 24 (nptr a) (.pointer none)).run Try.prog u = .ok (.bool false) u := fun u => by kernel_rfl
  have hqb : ∀ u, (binOp BinOp.eql 24 (nptr b) (.pointer none)).run Try.prog u = .ok (.bool false) u := fun u => by kernel_rfl
  obtain ⟨w4, hw4⟩ : ∃ w4, w4 = w3.alloc (.cells #[.slice none 0 0, .int .u64 0] 30) := ⟨_, rfl⟩
  obtain ⟨w5, hw5⟩ : ∃ w5, w5 = w4.alloc (.cells #[.slice none 0 0, .int .u64 0] 30) := ⟨_, rfl⟩
  have hb4 : Below w3.heap.size w3 w4 := by rw [hw4]; exact (Below.refl _ _).alloc (Nat.le_refl _) _
  have hb5 : Below w4.heap.size w4 w5 := by rw [hw5]; exact (Below.refl _ _).alloc (Nat.le_refl _) _
  obtain ⟨x, hx⟩ : ∃ x, w3.heap.size = x := ⟨_, rfl⟩
  obtain ⟨y, hy⟩ : ∃ y, w4.heap.size = y := ⟨_, rfl⟩
  have hxk : w4.heap[x]? = some (.cells #[.slice none 0 0, .int .u64 0] 30 (0, 0)) := by rw [hw4, ← hx]; exact heap_alloc_new _ _
  have hyk : w5.heap[y]? = some (.cells #[.slice none 0 0, .int .u64 0] 30 (0, 0)) := by rw [hw5, ← hy]; exact heap_alloc_new _ _
  have H5 : Hid (Nts w w5 a x b y) := by
    have l1 := lt_blk hxk
    have hb35 : Below w3.heap.size w3 w5 := hb4.trans (hb5.mono hb4.size)
    have hb25 : Below w2.heap.size w2 w5 := hb3.trans (hb35.mono hb3.size)
    have hb05 : Below w.heap.size w w5 := HB1.out.trans ((HA.out.2.2.2.trans (hb25.mono HA.out.2.2.2.size)).mono HB1.out.size)
    have s1 := HB1.out.size
    have s2 := HA.out.2.2.2.size
    have s3 := hb3.size
    have s4 := hb4.size
    have o1 := HA.out.2.1
    have o2 := HA.out.2.2.1
    refine ⟨.slice none 0 0, .slice none 0 0, 0, [], .slice none 0 0, .slice none 0 0, 0, [], ⟨HA.out.1.below hb25, ⟨blk_below hxk hb5, OwnR.nil _ _, by simp, by omega, fun q hq => (by cases hq)⟩, hb05, by omega, by omega, fun g hg => (by cases hg), fun g hg => (by cases hg)⟩, ⟨hbn.below hb35, ⟨hyk, OwnR.nil _ _, by simp, by omega, fun q hq => (by cases hq)⟩, hb05, by omega, by omega, fun g hg => (by cases hg), fun g hg => (by cases hg)⟩, ?_⟩
    rintro k ((e | e) | (e | e)) ((f | f) | (f | f))
    all_goals first | (cases e; done) | (cases f; done) | omega
  clear hbn lb1 lb2 hb3 hb4 hb5 hxk hyk HA HB1
  have HW4 : Hid (w3.alloc (.cells #[.slice none 0 0, .int .u64 0] 30) = w4) := hw4.symm
  have HW5 : Hid (w4.alloc (.cells #[.slice none 0 0, .int .u64 0] 30) = w5) := hw5.symm
  have HX : Hid (w3.heap.size = x) := hx
  have HY : Hid (w4.heap.size = y) := hy
  clear hw4 hw5 hx hy
  go_upto_region 5 with fail
  rw [HW4.out, HX.out]
  go_upto_region 6 with fail
  rw [HW5.out, HY.out]
  clear HW4 HW5 HX HY
  go_wp2_with (fail)
  go_loopw [8] (fun vi wr => ∃ i : Nat, vi = .int .i64 (i : Int) ∧ i ≤ len ∧ i ≤ 300 ∧ Hid (Nts w wr a x b y)) (fun vi _ => 300 - (intOf vi).toNat)
  case atStart => exact ⟨0, rfl, Nat.zero_le _, Nat.zero_le _, H5.out⟩
  case round =>
    clear H5
    obtain ⟨i, rfl, hi, hi3, HS⟩ := hrel
    go_upto_region 9 with fail
    go_cut [40] from 33 to 146 (fun vc wz => wz = wr ∧ vc = .bool (decide (i < len ∧ i < 300)))
    case first =>
      by_cases h1 : i < len
      · by_cases h2 : i < 300
        · have g1 : (i : Int) < (len : Int) := by omega
          have g2 : (i : Int) < 300 := by omega
          go_wp2_with (fail)
          go_meet
          case rel => exact ⟨rfl, by rw [decide_eq_true ⟨h1, h2⟩]⟩
        · have g1 : (i : Int) < (len : Int) := by omega
          have g2 : ¬ ((i : Int) < 300) := by omega
          go_wp2_with (fail)
          go_meet
          case rel => exact ⟨rfl, by rw [decide_eq_false (fun h => h2 h.2)]⟩
      · have g1 : ¬ ((i : Int) < (len : Int)) := by omega
        go_wp2_with (fail)
        go_meet
        case rel => exact ⟨rfl, by rw [decide_eq_false (fun h => h1 h.1)]⟩
    case rest =>
      obtain ⟨hw, rfl⟩ := hcut
      replace hw := hw.symm
      subst hw
      by_cases hlt : i < len ∧ i < 300
      · rw [decide_eq_true hlt]
        obtain ⟨hl1, hl2⟩ := hlt
        have bi : (i : Int) < (len : Int) := by omega
        have bi3 : (i : Int) < 300 := by omega
        have HI : Hid (i < len ∧ i < 300) := ⟨hl1, hl2⟩
        have hla := HT.out.1 (by omega)
        have ei : IntKind.i64.wrap ((i : Int) + 1) = (i : Int) + 1 := by rw [IntKind.wrap_i64]; omega
        clear hl1 hl2 hi hi3
        go_upto_if 45 with fail
        go_cut [9] from 33 to 146 (fun v9 wz => v9 = .bool true ∧ Hid (Nts w wz a x b y))
        case first =>
          obtain ⟨va, vx, s1, l1, vb, vy, s2, l2, hN⟩ := HS.out
          obtain ⟨kind, A, B, da, dn, dc, S, l, hop⟩ := HT.out.2 i HI.out.1
          have hbl := hN.one.bel
          have cc : ∀ q z, w.cell? ⟨bb, oo + i * 5 + q, none⟩ = some z → wr.cell? ⟨bb, oo + i * 5 + q, none⟩ = some z := fun q z hz => by rw [hbl.cell (World.block_lt_of_cell? w _ hz)]; exact hz
          have c0 := cc 0 _ (by rw [Nat.add_zero]; exact hop.c0)
          rw [Nat.add_zero] at c0
          have c1 := cc 1 _ hop.c1
          have c2 := cc 2 _ hop.c2
          have c3 := cc 3 _ hop.c3
          have c4 := cc 4 _ hop.c4
          have HD1 : Hid (Calls Try.prog 9 #[nptr a, nptr x, .agg #[.int .i64 kind, .int .i64 A, .int .i64 B, .slice da dn dc, .int .u64 (S : Int)]] wr fun e w' => e = .returned (.bool true) ∧ Nts w w' a x b y) := by
            refine (udoes_any hN.one kind A B S hop.side hop.row hop.cap hop.len).mono ?_
            rintro e w' ⟨he, hg⟩
            exact ⟨he, hN.go1 hg⟩
          have HD2 : Hid (Calls Try.prog 9 #[nptr b, nptr y, .agg #[.int .i64 kind, .int .i64 A, .int .i64 B, .slice da dn dc, .int .u64 (S : Int)]] wr fun e w' => e = .returned (.bool true) ∧ Nts w w' a x b y) := by
            refine (udoes_any hN.two kind A B S hop.side hop.row hop.cap hop.len).mono ?_
            rintro e w' ⟨he, hg⟩
            exact ⟨he, hN.go2 hg⟩
          clear hN hop hbl cc HS
          subst hla
          by_cases h43 : (i : Int) % 4 = 3
          · clear HD1
            go_wp2_with (fail)
            refine HD2.out.mono ?_
            rintro e wq ⟨rfl, hg⟩
            have HF : Hid (Nts w wq a x b y) := hg
            clear HD2 hg c0 c1 c2 c3 c4
            go_wp2_with (fail)
            go_meet
            case rel => exact ⟨rfl, HF⟩
          · clear HD2
            go_wp2_with (fail)
            refine HD1.out.mono ?_
            rintro e wq ⟨rfl, hg⟩
            have HF : Hid (Nts w wq a x b y) := hg
            clear HD1 hg c0 c1 c2 c3 c4
            go_wp2_with (fail)
            go_meet
            case rel => exact ⟨rfl, HF⟩
        case rest =>
          obtain ⟨rfl, HS2⟩ := hcut
          clear HS
          obtain ⟨va, vx, s1, l1, vb, vy, s2, l2, hN⟩ := HS2.out
          clear HS2
          obtain ⟨xa, xc, hvx⟩ := hN.one.ref.row.slice
          obtain ⟨ya, yc, hvy⟩ := hN.two.ref.row.slice
          obtain ⟨n1, hn1⟩ : ∃ n1, l1.length = n1 := ⟨_, rfl⟩
          obtain ⟨n2, hn2⟩ : ∃ n2, l2.length = n2 := ⟨_, rfl⟩
          rw [hn1] at hvx
          rw [hn2] at hvy
          subst hvx
          subst hvy
          have HN : Hid (Nt2 w wc a va x (.slice xa n1 xc) s1 l1 b vb y (.slice ya n2 yc) s2 l2 ∧ l1.length = n1 ∧ n1 ≤ 200) := ⟨hN, hn1, by have := hN.one.ref.few; omega⟩
          have b1 : (n1 : Int) ≤ 200 := by have := hN.one.ref.few; omega
          have b2 : (n2 : Int) ≤ 200 := by have := hN.two.ref.few; omega
          have HL1 : Hid (∀ u, Nt2 w u a va x (.slice xa n1 xc) s1 l1 b vb y (.slice ya n2 yc) s2 l2 → Calls Try.prog 10 #[nptr a] u fun e w' => e = .returned (.int .i64 (n1 : Int)) ∧ w' = u) := fun u hu => by have := ulenc_any hu.one.net; rwa [hn1] at this
          have HL2 : Hid (∀ u, Nt2 w u a va x (.slice xa n1 xc) s1 l1 b vb y (.slice ya n2 yc) s2 l2 → Calls Try.prog 10 #[nptr b] u fun e w' => e = .returned (.int .i64 (n2 : Int)) ∧ w' = u) := fun u hu => by have := ulenc_any hu.two.net; rwa [hn2] at this
          have en1 : ((n1 : Int) != (n1 : Int)) = false := by simp
          have en2 : ((n2 : Int) != (n2 : Int)) = false := by simp
          clear hN hn1 hn2
          go_upto_region 15 with fail
          have x0 : ∀ u : NtV w a va x (.slice xa n1 xc) s1 l1 b vb y (.slice ya n2 yc) s2 l2, u.wo.cell? ⟨x, 0, none⟩ = some (.slice xa n1 xc) := fun u => u.is.one.ref.c0
          have x1 : ∀ u : NtV w a va x (.slice xa n1 xc) s1 l1 b vb y (.slice ya n2 yc) s2 l2, u.wo.cell? ⟨y, 0, none⟩ = some (.slice ya n2 yc) := fun u => u.is.two.ref.c0
          have HLa : Hid (∀ u : NtV w a va x (.slice xa n1 xc) s1 l1 b vb y (.slice ya n2 yc) s2 l2, Calls Try.prog 10 #[nptr a] u.wo fun e w' => e = .returned (.int .i64 (n1 : Int)) ∧ ∃ u' : NtV w a va x (.slice xa n1 xc) s1 l1 b vb y (.slice ya n2 yc) s2 l2, w' = u'.wo) := fun u => (HL1.out u.wo u.is).mono fun e w' q => ⟨q.1, u, q.2⟩
          have HLb : Hid (∀ u : NtV w a va x (.slice xa n1 xc) s1 l1 b vb y (.slice ya n2 yc) s2 l2, Calls Try.prog 10 #[nptr b] u.wo fun e w' => e = .returned (.int .i64 (n2 : Int)) ∧ ∃ u' : NtV w a va x (.slice xa n1 xc) s1 l1 b vb y (.slice ya n2 yc) s2 l2, w' = u'.wo) := fun u => (HL2.out u.wo u.is).mono fun e w' q => ⟨q.1, u, q.2⟩
          refine region_classN (fun w' => ∃ u : NtV w a va x (.slice xa n1 xc) s1 l1 b vb y (.slice ya n2 yc) s2 l2, w' = u.wo) (by kernel_rfl) (by kernel_rfl) (NtV.of (HN.out.1.below (Below.refl _ _).drew)) ?_
          haveI := NtV.some HN.out.1
          repeat (go_big_quiet_step (first | (go_at_call_of 10 (nptr a); exact HLa.out _) | (go_at_call_of 10 (nptr b); exact HLb.out _) | exact rfl))
          refine wpQuiet_nil ?_
          intro w5 hw5
          obtain ⟨u, hu⟩ := hw5
          subst hu
          have HN2 : Hid (Nt2 w u.wo a va x (.slice xa n1 xc) s1 l1 b vb y (.slice ya n2 yc) s2 l2) := u.is
          clear x0 x1 HLa HLb
          generalize u.wo = w6 at *
          clear en1 en2 HL1 HL2
          go_wp2_with (fail)
          go_loopw [10] (fun vk wr => ∃ k : Nat, vk = .int .i64 (k : Int) ∧ k ≤ n1 ∧ Hid (Nt2 w wr a va x (.slice xa n1 xc) s1 l1 b vb y (.slice ya n2 yc) s2 l2)) (fun vk _ => n1 - (intOf vk).toNat)
          case atStart => exact ⟨0, rfl, Nat.zero_le _, HN2.out⟩
          case round =>
            clear HN2
            obtain ⟨k, rfl, hk, HK⟩ := hrel
            have x0 := HK.out.one.ref.c0
            by_cases hkn : k < n1
            · have bk : (k : Int) < (n1 : Int) := by omega
              have HKN : Hid (k < n1) := hkn
              have ek : IntKind.i64.wrap ((k : Int) + 1) = (k : Int) + 1 := by rw [IntKind.wrap_i64]; omega
              obtain ⟨z, hz⟩ : ∃ z, l1[k]? = some z := ⟨l1[k]'(by have := HN.out.2.1; omega), List.getElem?_eq_getElem _⟩
              have hlk : lookR l1 (k : Int) = z := by
                unfold lookR
                rw [if_pos (hasB_iff.2 ⟨by omega, by have := HN.out.2.1; omega⟩), Int.toNat_natCast, List.getD_eq_getElem?_getD, hz]
                rfl
              obtain ⟨m, hm⟩ : ∃ m, z.2.2.length = m := ⟨_, rfl⟩
              have bm : m ≤ 1000 := by rw [← hm]; exact HK.out.one.net.short (List.mem_of_getElem? hz)
              obtain ⟨KW, hKW⟩ : ∃ KW : World → Prop, KW = fun u => Below wr.heap.size wr u := ⟨_, rfl⟩
              obtain ⟨Sz, hSz⟩ : ∃ Sz, wr.heap.size = Sz := ⟨_, rfl⟩
              have HK1 : Hid (∀ u g q v, KW u → Sz ≤ g → KW (u.setCell ⟨g, q, none⟩ v)) := fun u g q v h1 h2 => by rw [hKW] at h1 ⊢; exact h1.setCell (by rw [hSz]; exact h2) v
              have HK2 : Hid (∀ u, KW u → Nt2 w u a va x (.slice xa n1 xc) s1 l1 b vb y (.slice ya n2 yc) s2 l2) := fun u h1 => by rw [hKW] at h1; exact HK.out.below h1
              have HK3 : Hid (∀ u u', KW u → Below u.heap.size u u' → KW u') := fun u u' h1 h2 => by rw [hKW] at h1 ⊢; exact h1.trans (h2.mono h1.size)
              have HLk : Hid (Calls Try.prog 11 #[nptr a, .int .i64 (k : Int)] wr fun e w' => ∃ c0 cc, e = .returned (.tuple #[.int .i64 (z.1 : Int), .int .i64 (z.2.1 : Int), .slice c0 m cc, .bool true]) ∧ OwnB w' Sz (.slice c0 z.2.2.length cc) z.2.2 ∧ KW w') := by
                have := ulook_any HK.out.one.net (k : Int)
                rw [hlk, hasB_iff.2 ⟨by omega, by have := HN.out.2.1; omega⟩, hSz] at this
                refine this.mono ?_
                rintro e w' ⟨c0, cc, he, ho, hb⟩
                rw [hm] at he
                exact ⟨c0, cc, he, ho, by rw [hKW, hSz]; exact hb⟩
              have HZ : Hid (l1[k]? = some z ∧ z.2.2.length = m) := ⟨hz, hm⟩
              clear hz hlk hm hKW hSz HK hkn
              go_wp2_with (fail)
              refine HLk.out.mono ?_
              rintro e wq ⟨c0, cc, rfl, ho, hkw⟩
              have hN := HK2.out wq hkw
              obtain ⟨g9, c9, hv9, r0, r1, r2⟩ := hN.one.ref.row.at HZ.out.1
              have x9 := hN.one.ref.c0
              have exa : xa = some ⟨g9, 0, none⟩ := congrArg (fun v => match v with | Value.slice a _ _ => a | _ => none) hv9
              have hcv0 : (convert 32 9 (.slice c0 m cc)).run Try.prog wq = .ok (.string ⟨z.2.2.toArray⟩) wq := by
                have := (own_brow ho).string
                rwa [HZ.out.2] at this
              have hcv1 : (convert 32 9 (.slice c0 m cc)).run Try.prog wq.drew = .ok (.string ⟨z.2.2.toArray⟩) wq.drew := by
                have := ((own_brow ho).below (Below.refl _ _).drew).string
                rwa [HZ.out.2] at this
              have f1 : ((z.1 : Int) != (z.1 : Int)) = false := by simp
              have f2 : ((z.2.1 : Int) != (z.2.1 : Int)) = false := by simp
              have f3 : (z.2.2 != z.2.2) = false := by simp
              have HO : Hid (KW wq.drew ∧ (m = 0 ∨ ∃ g cur, c0 = some ⟨g, 0, none⟩ ∧ wq.drew.heap[g]? = some (.cells cur 5 (0, 0)) ∧ m ≤ cur.size ∧ Sz ≤ g)) := by
                refine ⟨HK3.out wq _ hkw (Below.refl _ _).drew, ?_⟩
                rcases ho.2 with ⟨_, h0⟩ | ⟨g, cap, cur, q1, q2, q3, q4, q5, q6, q7⟩
                · exact Or.inl (by rw [← HZ.out.2]; exact h0)
                · have ea : c0 = some ⟨g, 0, none⟩ := congrArg (fun v => match v with | Value.slice a _ _ => a | _ => none) q1
                  exact Or.inr ⟨g, cur, ea, q3, by rw [← HZ.out.2]; omega, q2⟩
              clear HLk ho hkw hN hv9 x0
              subst exa
              go_upto_region 21 with fail
              go_big_region
              clear f1 f2 f3 hcv0 hcv1 r0 r1 r2 x9
              go_wp2_with (fail)
              go_loopw [15] (fun vm wr => ∃ j : Nat, vm = .int .i64 (j : Int) ∧ j ≤ m ∧ Hid (KW wr ∧ (m = 0 ∨ ∃ g cur, c0 = some ⟨g, 0, none⟩ ∧ wr.heap[g]? = some (.cells cur 5 (0, 0)) ∧ m ≤ cur.size ∧ Sz ≤ g))) (fun vm _ => m - (intOf vm).toNat)
              case atStart => exact ⟨0, rfl, Nat.zero_le _, HO.out⟩
              case round =>
                clear HO
                obtain ⟨j, rfl, hj, HM⟩ := hrel
                by_cases hjm : j < m
                · have bj : (j : Int) < (m : Int) := by omega
                  have ej : IntKind.i64.wrap ((j : Int) + 1) = (j : Int) + 1 := by rw [IntKind.wrap_i64]; omega
                  rcases HM.out.2 with h0 | ⟨g, cur, hc0, hgc, hgs, hSg⟩
                  · omega
                  · subst hc0
                    obtain ⟨u0, y0⟩ : ∃ u0, wr.cell? ⟨g, j, none⟩ = some u0 := ⟨cur[j]'(by omega), cell_blk hgc (Array.getElem?_eq_getElem (by omega))⟩
                    have y1 : wr.frozen? ⟨g, j, none⟩ = false := free_blk hgc j
                    have HM2 : Hid (KW (wr.setCell ⟨g, j, none⟩ (.int .u8 8)) ∧ (m = 0 ∨ ∃ g' cur, (some ⟨g, 0, none⟩ : Option Addr) = some ⟨g', 0, none⟩ ∧ (wr.setCell ⟨g, j, none⟩ (.int .u8 8)).heap[g']? = some (.cells cur 5 (0, 0)) ∧ m ≤ cur.size ∧ Sz ≤ g')) := ⟨HK1.out wr g j _ HM.out.1 hSg, Or.inr ⟨g, _, rfl, set_blk hgc j _, by simpa using hgs, hSg⟩⟩
                    have HJ : Hid (j < m) := hjm
                    clear HM hgc hgs hSg hjm
                    go_wp2_with (fail)
                    go_roundw
                    case rel => exact ⟨j + 1, by first | rfl | go_num, by have := HJ.out; omega, HM2⟩
                    case measure => have := HJ.out; simp [intOf]; omega
                · have bj : ¬ ((j : Int) < (m : Int)) := by omega
                  have HF : Hid (Nt2 w wr a va x (.slice (some ⟨g9, 0, none⟩) n1 xc) s1 l1 b vb y (.slice ya n2 yc) s2 l2) := HK2.out wr HM.out.1
                  clear HM HK1 HK2 HK3 hjm hj
                  go_wp2_with (fail)
                  go_roundw
                  case rel => first | exact ⟨k + 1, by first | rfl | go_num, by have := HKN.out; omega, HF⟩ | exact ⟨k + 1, by omega, by have := HKN.out; omega⟩
                  case measure => have := HKN.out; simp [intOf]; omega
            · have bk : ¬ ((k : Int) < (n1 : Int)) := by omega
              have HF : Hid (Nts w wr a x b y) := ⟨_, _, _, _, _, _, _, _, HK.out⟩
              clear HK hk hkn HN
              go_wp2_with (fail)
              go_roundw
              case rel => exact ⟨i + 1, by first | rfl | go_num, by have := HI.out; omega, by have := HI.out; omega, HF⟩
              case measure => have := HI.out; simp [intOf]; omega
      · rw [decide_eq_false hlt]
        have HF : Hid (Below w.heap.size w wr) := by
          obtain ⟨_, _, _, _, _, _, _, _, hN⟩ := HS.out
          exact hN.one.bel
        clear HS hlt hi hi3
        go_wp2
        go_ret
        exact ⟨rfl, HF.out⟩
end Go.Proofs.Ytblohegdlcpipaa
