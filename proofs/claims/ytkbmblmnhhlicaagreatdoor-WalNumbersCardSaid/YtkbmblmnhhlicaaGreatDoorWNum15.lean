/- WalNumbers, walked. -/
import Derived.Test.YtkbmblmnhhlicaaGreatDoorV16
import Derived.Test.YtkbmblmnhhlicaaGreatDoorWDrops15
import Derived.Test.YtkbmblmnhhlicaaGreatDoorV17
import Derived.Deep.CutBlock
set_option linter.unusedVariables false
namespace Go.Proofs.YtkbmblmnhhlicaaGreatDoor
open Go.RowKit

theorem NuS.bound {E : Nat → Prop} {w0 : World} {b m p F k : Nat} {v : Value} {xs : List Nm} {R : Recs} {w : World} (h : NuS E w0 b m p v xs R F k w) : 1 ≤ F ∧ F ≤ 999999 ∧ F + R.length ≤ 1000000 := by
  obtain ⟨d, G, g1, g2, g3, g4, g5, g6, g7, g8⟩ := h
  obtain ⟨G', g, hG⟩ := gs_last g2.ne
  obtain ⟨x, r, hx, hn⟩ := gs_first g2.ne
  have h1 := g2.num x (by rw [hx]; simp)
  have h2 := g8 x (by rw [hx]; simp)
  subst hG
  have hnx := g2.nx
  have h3 := g2.num g (by simp)
  rw [g4, g5] at hnx
  omega
theorem OpV.below {w w' : World} {bb p : Nat} {kind n : Int} {ba : Option Addr} {bl bc : Nat} {l : List UInt8} {keep : Nat} (h : OpV w bb p kind n ba bl bc l keep) (hb : Below w.heap.size w w') : OpV w' bb p kind n ba bl bc l keep := by
  have hc : ∀ {a : Addr} {v : Value}, w.cell? a = some v → w'.cell? a = some v := fun hc => by rw [hb.cell (World.block_lt_of_cell? w _ hc)]; exact hc
  exact { c0 := hc h.c0, c1 := hc h.c1, c2 := hc h.c2, c3 := hc h.c3, row := h.row.below hb, cap := h.cap, len := h.len, kd := h.kd, hn := h.hn, kp := h.kp }
theorem nuStart0 {w0 : World} {b m p : Nat} {w : World} (h : LgS w0 b m p nd1 ([((1, []) : Nat × Recs)].map gSg) NoG w) : NuS NoG w0 b m p (.slice none 0 0) [] [] 1 0 w := by
  obtain ⟨S, T, vs, q, h1, h2, h3⟩ := h
  refine ⟨nd1, [(1, [])], ⟨⟨S, T, vs, q, h1, h2, fun k hk => by rcases hk with hk | hk <;> cases hk⟩, OwnO.nil _ _, fun k hk => hk.elim⟩, nd1_s.1, nd1_s.2, rfl, rfl, by simp [bulks, bulk], by simp, fun g hg => ?_⟩
  rw [List.mem_singleton.1 hg]
  show (1 : Nat) < 1000000
  omega

/-- append of a text to a row of a law's own. -/
theorem wpList_push_textO {ops : Array Oper} {rest : List Oper} {o : Oper} {a : Act} {Q : Exit → Act → World → Prop} {w : World} {B : Nat} {v : Value} {xs : List Nm} (h : OwnO w B v xs) (hB : B ≤ w.heap.size) (x : Nm) (y : Addr) (c : Nat) (hx : w.cell? y = some (strN x)) (hl : xs.length + 1 ≤ 1048577) (hgd : o.guard = none) (s t : Operand)
    (ho : o.op = .call { callee := .builtin .append, args := #[s, t], argTypes := #[42, 42] }) (hs : a.eval s = v) (ht : a.eval t = .slice (some y) 1 c)
    (h2 : ∀ vo w2, PushedO w v xs x B vo w2 → wpList Tryz.prog ops Q rest (a.put o.dst vo) w2) : wpList Tryz.prog ops Q (o :: rest) a w := by
  refine wpList_plain hgd fun K hK => ?_
  obtain ⟨vo, w2, hr, hp⟩ := append_textO h hB y c x hx hl o.type
  unfold Oper.wp execOp
  simp only [ho, resolve, invoke, builtin, Sem.run_bind, Sem.run_pure, Result.andThen_ok, List.map_toArray, List.map_cons, List.map_nil, hs, ht, hr]
  exact hK _ _ (h2 vo w2 hp)

set_option maxHeartbeats 8000000 in
set_option maxRecDepth 60000 in
theorem wnums (a : Option Addr) (bb oo len cap : Nat) (w : World) (ht : Tabs w) (e1 : 0 < len → a = some ⟨bb, oo, none⟩) (e2 : ∀ i, i < len → ∃ kind n ba bl bc l keep, OpV w bb (oo + i * 4) kind n ba bl bc l keep) (e3 : len ≤ maxLen) :
    Calls Tryz.prog 4 #[.slice a len cap] w fun e w' => e = .returned (.bool true) ∧ Below w.heap.size w w' := by
  have hSh := shown_any15 ht
  have HT : Hid (Tabs w) := ht
  have H1 : Hid (0 < len → a = some ⟨bb, oo, none⟩) := e1
  have H2 : Hid (∀ i, i < len → ∃ kind n ba bl bc l keep, OpV w bb (oo + i * 4) kind n ba bl bc l keep) := e2
  have bln : (len : Int) ≤ 9223372036854775807 := by unfold maxLen at e3; omega
  clear ht e1 e2 e3
  go_enter Tryz.func4, Tryz.ntmps4
  go_wp2_with (fail)
  refine hSh.mono ?_
  rintro e w1 ⟨rfl, hb1⟩
  have HB1 : Hid (Below w.heap.size w w1) := hb1
  clear hSh hb1
  go_wp2_with (fail)
  refine (newG (w0 := w) 1099511627776 (by omega) (G := NoG) HB1.out (fun k hk => hk.elim)).mono ?_
  rintro e w3 ⟨b, m, rfl, hD, _⟩
  have D3 : Hid (DkS w b m (newD 1099511627776) NoG w3) := hD
  clear hD
  go_wp2_with (fail)
  refine (openG D3.out HT.out (fun x hx => by cases hx) (by show usedL [] ≤ _; rw [usedL_nil]; omega) (by show 0 + 1 ≤ _; omega) nd1_e).mono ?_
  rintro e w4 ⟨p0, rfl, hL, _⟩
  have S4 : Hid (NuS NoG w b m p0 (.slice none 0 0) [] [] 1 0 w4) := nuStart0 hL
  clear hL D3
  go_wp2_with (fail)
  go_loopw [5, 7, 8, 9] (fun lp fi al i wr => ∃ (p F k : Nat) (va : Option Addr) (vc n : Nat) (xs : List Nm), lp = dptr p ∧ fi = .int .i64 F ∧ al = .slice va n vc ∧ i = .int .i64 k ∧ Hid (k ≤ len ∧ k ≤ 60 ∧ xs.length = n ∧ n ≤ k) ∧ Hid (NuS NoG w b m p (.slice va n vc) xs xs F k wr)) (fun _ _ _ i _ => 60 - (intOf i).toNat)
  case atStart => exact ⟨p0, 1, 0, none, 0, 0, [], rfl, rfl, rfl, rfl, ⟨Nat.zero_le _, by omega, rfl, Nat.le_refl _⟩, S4⟩
  case round =>
    obtain ⟨p, F, k, va, vc, n, xs, rfl, rfl, rfl, rfl, HK, HS⟩ := hrel
    clear S4
    by_cases hkn : k < len ∧ k < 60
    · have b1 : (k : Int) < (len : Int) := by omega
      have b2 : (k : Int) < 60 := by omega
      have bk : k < len := by omega
      have ha := H1.out (by omega)
      subst ha
      obtain ⟨kind, N, ba, bl, bc, l, keep, hop⟩ := H2.out k bk
      have hopr := hop.below HS.out.bel
      have c0 := hopr.c0
      have c1 := hopr.c1
      have c2 := hopr.c2
      have c3 := hopr.c3
      have HOp : Hid (OpV w bb (oo + k * 4) kind N ba bl bc l keep) := hop
      have bbl : (bl : Int) ≤ 140737488355328 := by have := hop.len; omega
      have HKn : Hid (k < len ∧ k < 60) := hkn
      clear hkn hop hopr
      go_upto_if 58 with fail
      have hg := HS.out.guest (.cells #[.int .i64 kind, .int .i64 N, .slice ba bl bc, .int .u64 (keep : Int)] 37)
      have hblk : (wr.alloc (.cells #[.int .i64 kind, .int .i64 N, .slice ba bl bc, .int .u64 (keep : Int)] 37)).heap[wr.heap.size]? = some (.cells #[.int .i64 kind, .int .i64 N, .slice ba bl bc, .int .u64 (keep : Int)] 37 (0, 0)) := heap_alloc_new _ _
      obtain ⟨wo, hwo⟩ : ∃ wo, wo = wr.alloc (.cells #[.int .i64 kind, .int .i64 N, .slice ba bl bc, .int .u64 (keep : Int)] 37) := ⟨_, rfl⟩
      obtain ⟨ob, hob⟩ : ∃ ob, ob = wr.heap.size := ⟨_, rfl⟩
      rw [← hwo, ← hob] at hg hblk ⊢
      have HG : Hid (NuS (fun j => j = ob) w b m p (.slice va n vc) xs xs F k wo) := hg
      have HB : Hid (wo.heap[ob]? = some (.cells #[.int .i64 kind, .int .i64 N, .slice ba bl bc, .int .u64 (keep : Int)] 37 (0, 0))) := hblk
      clear hg hblk hwo hob HS c0 c1 c2 c3
      go_cut [11] from 56 to 61 (fun X wx => ∃ bn : Nat, X = .slice ba bn bc ∧ Hid (bn = min 1000 bl) ∧ Hid (wx = wo))
      case first =>
        by_cases h5 : 1000 < bl
        · have q5 : (1000 : Int) < (bl : Int) := by omega
          have z5 : ∀ u, (Instr.slice 34 (.slice ba bl bc) none (some (.int .i64 1000)) none).run Tryz.prog u = .ok (.slice ba 1000 bc) u := fun u => slice_to ba bl bc 1000 (by omega) HOp.out.cap u
          go_wp2_with (fail)
          go_meet
          case rel => exact ⟨1000, rfl, by show _ = _; omega, rfl⟩
        · have q5 : ¬ (1000 : Int) < (bl : Int) := by omega
          go_wp2_with (fail)
          go_meet
          case rel => exact ⟨bl, rfl, by show _ = _; omega, rfl⟩
      case rest =>
        obtain ⟨bn, rfl, HBn, HWc⟩ := hcut
        have hwc := HWc.out
        subst hwc
        clear HWc
        obtain ⟨wa, hwa⟩ : ∃ wa, wa = wc := ⟨_, rfl⟩
        subst hwa
        have bbn : (bn : Int) ≤ 1000 := by have := HBn.out; omega
        have HRb : Hid (∀ w', Below w.heap.size w w' → BRow w' ba bn bc (l.take 1000)) := fun w' hb => by
          have hrow := (HOp.out.below hb).row
          have hln := hrow.1
          by_cases h5 : 1000 < bl
          · have e5 : bn = 1000 := by have := HBn.out; omega
            rw [e5]
            exact hrow.pre (by omega)
          · have e5 : bn = bl := by have := HBn.out; omega
            rw [e5, List.take_of_length_le (by rw [hln]; omega)]
            exact hrow
        have y0 : wa.cell? ⟨ob, 0, none⟩ = some (.int .i64 kind) := cell_blk HB.out rfl
        have y1 : wa.cell? ⟨ob, 1, none⟩ = some (.int .i64 N) := cell_blk HB.out rfl
        go_upto_block 2 with fail
        go_cut [5, 7, 8, 12, 13, 14, 15, 16, 17] from 63 to 193 (fun xp fi al _ _ _ _ _ _ wx => ∃ (p F : Nat) (va : Option Addr) (vc n : Nat) (xs : List Nm), xp = dptr p ∧ fi = .int .i64 F ∧ al = .slice va n vc ∧ Hid (xs.length = n ∧ n ≤ k + 1) ∧ Hid (NuS NoG w b m p (.slice va n vc) xs xs F (k + 1) wx))
        case first =>
          by_cases hk : kind = 1 ∨ kind = 2 ∨ kind = 6 ∨ kind = 7 ∨ kind = 9
          · have hrl : (l.take 1000).length = bn := (HRb.out w (Below.refl _ w)).1
            have hA := nuApp HG.out HRb.out hrl (by omega) (by have := HKn.out; omega)
            obtain ⟨X, hX⟩ : ∃ X : Nm, l.take 1000 = X := ⟨_, rfl⟩
            rw [hX] at hA
            have HX : Hid (l.take 1000 = X ∧ X.length = bn) := ⟨hX, by rw [← hX]; exact hrl⟩
            have HA : Hid (Calls Tryz.prog 17 #[dptr p, .slice ba bn bc] wa fun e w' => (F + xs.length ≤ 999999 ∧ e = .returned (.int .i64 0) ∧ NuS (fun j => j = ob) w b m p (.slice va n vc) xs (xs ++ [X]) F (k + 1) w' ∧ KE (fun j => j = ob) wa w') ∨ (F + xs.length = 1000000 ∧ e = .returned (.int .i64 11) ∧ NuS (fun j => j = ob) w b m p (.slice va n vc) xs xs F k w' ∧ KE (fun j => j = ob) wa w')) := hA
            clear hA hX hrl
            rcases hk with rfl | rfl | rfl | rfl | rfl
            all_goals as_aux_lemma =>
              go_wp2_with (fail)
              refine HA.out.mono ?_
              rintro e w5 (⟨hle, rfl, q, _⟩ | ⟨hle, rfl, q, _⟩)
              · have hb5 := HRb.out w5 q.bel
                rw [HX.out.1] at hb5
                obtain ⟨XB, hXB⟩ : ∃ XB : ByteArray, XB = ⟨X.toArray⟩ := ⟨_, rfl⟩
                have z1 : (convert 34 9 (.slice ba bn bc)).run Tryz.prog w5 = .ok (.string XB) w5 := by rw [hXB]; exact hb5.string
                have hQ2 := (q.below ((Below.refl _ w5).alloc (Nat.le_refl _) (.cells #[.string XB] 9))).1
                have hsz : w.heap.size ≤ (w5.alloc (.cells #[.string XB] 9)).heap.size := hQ2.bel.size
                have hcx : (w5.alloc (.cells #[.string XB] 9)).cell? ⟨w5.heap.size, 0, none⟩ = some (strN X) := by
                  rw [cell_blk (heap_alloc_new w5 _) (i := 0) (v := .string XB) rfl, hXB]
                have HQ2 : Hid (NuS (fun j => j = ob) w b m p (.slice va n vc) xs (xs ++ [X]) F (k + 1) (w5.alloc (.cells #[.string XB] 9))) := hQ2
                have hown := hQ2.own
                clear q hb5 hXB hQ2 y0 y1 hle
                go_wp2_with (at_builtin; refine wpList_push_textO hown hsz X ⟨w5.heap.size, 0, none⟩ 1 hcx ?c9 rfl _ _ rfl rfl rfl ?_)
                case c9 => have := HK.out; have := HKn.out; omega
                intro vo w6 hp
                have hL6 := (HQ2.out.push hp).1.alone
                have hown6 := hp.1
                obtain ⟨va', vc', hvo, _⟩ := hown6.shape
                subst hvo
                have hlen : (xs ++ [X]).length = n + 1 := by have := HK.out; simp; omega
                rw [hlen] at hL6 hp hown6 ⊢
                have HL6 : Hid (NuS NoG w b m p (.slice va' (n + 1) vc') (xs ++ [X]) (xs ++ [X]) F (k + 1) w6) := hL6
                have HLen : Hid ((xs ++ [X]).length = n + 1) := hlen
                clear hp hown hown6 hL6 hsz hcx HQ2 hlen z1
                go_wp2_with (fail)
                go_meet
                case rel => exact ⟨p, F, va', vc', n + 1, xs ++ [X], rfl, rfl, rfl, ⟨HLen.out, by have := HK.out; omega⟩, HL6⟩
              · have hLa := nuLast q
                rw [hle] at hLa
                clear q y0 y1 hle
                go_wp2_with (fail)
                refine hLa.mono ?_
                rintro e w6 ⟨rfl, q6, _⟩
                have HQ6 := (show Hid (Below w.heap.size w w6) from q6.bel)
                clear hLa q6
                go_wp2_with (fail)
                go_ret
                exact ⟨rfl, HQ6.out⟩
          · by_cases h3 : kind = 3
            · as_aux_lemma =>
                subst h3
                have hC := nuCut HG.out (by have := HKn.out; omega) N HOp.out.hn
                have HN := (show Hid (-9223372036854775808 ≤ N ∧ N ≤ 9223372036854775807) from HOp.out.hn)
                have hbd := HG.out.bound
                have hln := HK.out.2.2.1
                rw [hln] at hbd hC
                have bF : (F : Int) ≤ 999999 := by omega
                have bFn : (F : Int) + (n : Int) ≤ 1000000 := by omega
                have b0F : (1 : Int) ≤ (F : Int) := by omega
                have HBd : Hid (1 ≤ F ∧ F ≤ 999999 ∧ F + n ≤ 1000000) := hbd
                have HLn : Hid (xs.length = n) := hln
                clear hk hbd hln
                go_wp2_with (fail)
                refine hC.mono ?_
                rintro e w5 (⟨M, rfl, hM1, hM2, rfl, q, hke⟩ | ⟨hM, rfl, q, hke⟩)
                · have y5 : w5.cell? ⟨ob, 1, none⟩ = some (.int .i64 (M : Int)) := cell_blk ((hke ob rfl).trans HB.out) rfl
                  have q1 : (F : Int) ≤ (M : Int) := by omega
                  have q2 : (M : Int) ≤ (F : Int) + (n : Int) := by omega
                  have hown := ownO_take q.own (M - F) (by rw [HLn.out]; omega)
                  have hq2 := (q.cut (fun j hj => ob_same hj) hown).alone
                  have HQ := (show Hid (NuS NoG w b m p (.slice va (M - F) vc) (xs.take (M - F)) (xs.take (M - F)) F (k + 1) w5) from hq2.more)
                  have hsh := q.own.shape
                  obtain ⟨j, hj⟩ : ∃ j, M - F = j := ⟨_, rfl⟩
                  rw [hj] at HQ
                  have q3 : IntKind.i64.wrap ((M : Int) - (F : Int)) = (j : Int) := by rw [IntKind.wrap_i64]; omega
                  have q4 : (M : Int) - (F : Int) = (j : Int) := by omega
                  have z5 : ∀ u, (Instr.slice 42 (.slice va n vc) none (some (.int .i64 (j : Int))) none).run Tryz.prog u = .ok (.slice va j vc) u := fun u => by
                    obtain ⟨a', c', e1, e2, _⟩ := hsh
                    have ec : vc = c' := congrArg (fun v => match v with | Value.slice _ _ c => c | _ => 0) e1
                    rw [HLn.out] at e2
                    exact slice_toO va n vc j (by omega) (by omega) u
                  have HJ : Hid (j ≤ n ∧ xs.length = n) := ⟨by omega, HLn.out⟩
                  clear hC q hke hown hq2 hsh hj hM1 hM2
                  go_wp2_with (fail)
                  go_meet
                  case rel => exact ⟨p, F, va, vc, j, _, rfl, rfl, rfl, ⟨by have := HJ.out; rw [List.length_take]; omega, by have := HJ.out; have := HK.out; omega⟩, HQ⟩
                · have y5 : w5.cell? ⟨ob, 1, none⟩ = some (.int .i64 N) := cell_blk ((hke ob rfl).trans HB.out) rfl
                  have HQ := (show Hid (NuS NoG w b m p (.slice va n vc) xs xs F (k + 1) w5) from q.alone.more)
                  by_cases h1 : N < (F : Int)
                  · have q1 : ¬ (F : Int) ≤ N := by omega
                    clear hC q hke hM
                    go_wp2_with (fail)
                    go_meet
                    case rel => exact ⟨p, F, va, vc, n, xs, rfl, rfl, rfl, ⟨HLn.out, by have := HK.out; omega⟩, HQ⟩
                  · have q1 : (F : Int) ≤ N := by omega
                    have q2 : ¬ N ≤ (F : Int) + (n : Int) := by omega
                    clear hC q hke hM
                    go_wp2_with (fail)
                    go_meet
                    case rel => exact ⟨p, F, va, vc, n, xs, rfl, rfl, rfl, ⟨HLn.out, by have := HK.out; omega⟩, HQ⟩
            · by_cases h4 : kind = 4
              · as_aux_lemma =>
                  subst h4
                  have hD := nuDrop HG.out (by have := HKn.out; omega) N HOp.out.hn
                  have hbd := HG.out.bound
                  have hln := HK.out.2.2.1
                  rw [hln] at hbd hD
                  have bF : (F : Int) ≤ 999999 := by omega
                  have bFn : (F : Int) + (n : Int) ≤ 1000000 := by omega
                  have b0F : (1 : Int) ≤ (F : Int) := by omega
                  have HBd : Hid (1 ≤ F ∧ F ≤ 999999 ∧ F + n ≤ 1000000) := hbd
                  have HLn : Hid (xs.length = n) := hln
                  clear hk hbd hln h3
                  go_upto_region 34 with fail
                  have hD9 : Hid (∀ u, u = wa.drew → Calls Tryz.prog 20 #[dptr p, .int .i64 N] u fun e w' => e = .returned (.int .i64 0) ∧ ∃ F' : Nat, Hid (F ≤ F' ∧ ((F' : Int) ≤ N ∨ F' = F) ∧ F' ≤ F + n ∧ F' ≤ 999999) ∧ Hid (NuS (fun j => j = ob) w b m p (.slice va n vc) xs (xs.drop (F' - F)) F' k w') ∧ w'.cell? ⟨ob, 1, none⟩ = some (.int .i64 N)) := by
                    show ∀ u, _
                    rintro u rfl
                    have hG2 := HG.out.below (w' := wa.drew) ⟨rfl, rfl, rfl, Nat.le_refl _, fun _ _ => rfl⟩
                    have := nuDrop hG2.1 (by have := HKn.out; omega) N HOp.out.hn
                    rw [HLn.out] at this
                    refine this.mono ?_
                    rintro e w5 ⟨he, F', f1, f2, f3, q, hke⟩
                    exact ⟨he, F', ⟨f1, f2, f3, q.bound.2.1⟩, q, cell_blk (((hke ob rfl).trans (hG2.2 ob rfl)).trans HB.out) rfl⟩
                  clear hD
                  obtain ⟨mx, hmx, hmx2⟩ : ∃ mx : Int, max N (F : Int) = mx ∧ ((N ≤ mx) ∧ (F : Int) ≤ mx) := ⟨_, rfl, Int.le_max_left _ _, Int.le_max_right _ _⟩
                  have HMx : Hid (N ≤ mx ∧ (F : Int) ≤ mx) := hmx2
                  have x1 : ∀ u : BwD wa, u.wo.cell? ⟨ob, 1, none⟩ = some (.int .i64 N) := fun u => cell_blk ((u.is.block ob (lt_blk HB.out)).trans HB.out) rfl
                  have hD8 : Hid (∀ u : BwD wa, Calls Tryz.prog 20 #[dptr p, .int .i64 N] u.wo fun e w' => e = .returned (.int .i64 0) ∧ ∃ F' : Nat, (F ≤ F' ∧ ((F' : Int) ≤ N ∨ F' = F) ∧ F' ≤ F + n ∧ F' ≤ 999999) ∧ NuS (fun j => j = ob) w b m p (.slice va n vc) xs (xs.drop (F' - F)) F' k w' ∧ w'.heap[ob]? = some (.cells #[.int .i64 4, .int .i64 N, .slice ba bl bc, .int .u64 (keep : Int)] 37 (0, 0))) := by
                    show ∀ u, _
                    intro u
                    have hG2 := HG.out.below u.is
                    have := nuDrop hG2.1 (by have := HKn.out; omega) N HOp.out.hn
                    rw [HLn.out] at this
                    refine this.mono ?_
                    rintro e w5 ⟨he, F', f1, f2, f3, q, hke⟩
                    exact ⟨he, F', ⟨f1, f2, f3, q.bound.2.1⟩, q, (hke ob rfl).trans ((hG2.2 ob rfl).trans HB.out)⟩
                  clear hmx2 hD9 y0 y1
                  refine region_mid (fun w' => ∃ u : BwD wa, w' = u.wo) (fun w2 w3 => ∃ u : BwD w2, w3 = u.wo) 3 #[true, true, true, false, false, false, false, false, false, false, false, false, false, false, false, false, false, false, false, false, false, false, false, false, false, false, false, false, false] (by kernel_rfl) (by kernel_rfl) (BwD.first wa) (fun u => ⟨BwD.of (Below.refl _ _), rfl⟩) ?_
                  haveI := BwD.some wa
                  simp only [List.take_succ_cons, List.take_zero]
                  repeat (go_big_quiet_step (exact rfl))
                  refine wpQuiet_nil ?_
                  rintro w9 ⟨U9, rfl⟩
                  refine mid_call (R := fun v w' => v = .int .i64 0 ∧ ∃ F' : Nat, (F ≤ F' ∧ ((F' : Int) ≤ N ∨ F' = F) ∧ F' ≤ F + n ∧ F' ≤ 999999) ∧ NuS (fun j => j = ob) w b m p (.slice va n vc) xs (xs.drop (F' - F)) F' k w' ∧ w'.heap[ob]? = some (.cells #[.int .i64 4, .int .i64 N, .slice ba bl bc, .int .u64 (keep : Int)] 37 (0, 0))) rfl rfl rfl (by kernel_rfl) ((hD8.out U9).mono (fun e w' q => ⟨_, q.1, rfl, q.2⟩)) ?_
                  rintro v w5 ⟨rfl, F', hF', hq5, hob5⟩
                  have HF' : Hid (F ≤ F' ∧ ((F' : Int) ≤ N ∨ F' = F) ∧ F' ≤ F + n ∧ F' ≤ 999999) := hF'
                  have HQ5 : Hid (NuS (fun j => j = ob) w b m p (.slice va n vc) xs (xs.drop (F' - F)) F' k w5) := hq5
                  have bF' : (F' : Int) ≤ 999999 := by omega
                  have r1 : ¬ (F' : Int) < (F : Int) := by omega
                  have r2 : ¬ mx < (F' : Int) := by have := HMx.out; omega
                  have r3 : ¬ (F : Int) + (n : Int) < (F' : Int) := by omega
                  have d1 : decide ((F' : Int) < (F : Int)) = false := decide_eq_false r1
                  have d2 : decide (mx < (F' : Int)) = false := decide_eq_false r2
                  have d3 : decide ((F : Int) + (n : Int) < (F' : Int)) = false := decide_eq_false r3
                  have x5 : ∀ u : BwD w5, u.wo.cell? ⟨ob, 1, none⟩ = some (.int .i64 N) := fun u => cell_blk ((u.is.block ob (lt_blk hob5)).trans hob5) rfl
                  have FF : Hid (∀ u : BwD w5, Calls Tryz.prog 21 #[dptr p] u.wo fun e w' => e = .returned (.int .i64 (F' : Int)) ∧ ∃ u' : BwD w5, w' = u'.wo) := fun u => (nuFirst (HQ5.out.below u.is).1).mono fun e w' r => ⟨r.1, u, r.2⟩
                  clear x1 hD8 hF' hq5 hob5
                  haveI := BwD.some w5
                  simp only [List.drop_succ_cons, List.drop_zero, List.setIfInBounds_toArray, List.set_cons_succ, List.set_cons_zero]
                  repeat (go_big_quiet_step (first | (go_at_call 21; exact FF.out _) | exact rfl))
                  refine wpQuiet_nil ?_
                  rintro w10 ⟨U10, rfl⟩
                  have HQ10 : Hid (NuS (fun j => j = ob) w b m p (.slice va n vc) xs (xs.drop (F' - F)) F' k U10.wo) := (HQ5.out.below U10.is).1
                  clear FF x5 HQ5 d1 d2 d3
                  generalize U10.wo = w11 at *
                  have hown := ownO_drop HQ10.out.own (F' - F) (by have := HF'.out; rw [HLn.out]; omega)
                  obtain ⟨va', vc', hv', _, _⟩ := hown.shape
                  have hq2 := (HQ10.out.cut (fun j hj => ob_sliced hj) hown).alone.more
                  rw [hv'] at hq2
                  obtain ⟨n', hn'⟩ : ∃ n', (xs.drop (F' - F)).length = n' := ⟨_, rfl⟩
                  rw [hn'] at hq2 hv'
                  have HQ := (show Hid (NuS NoG w b m p (.slice va' n' vc') (xs.drop (F' - F)) (xs.drop (F' - F)) F' (k + 1) w11) from hq2)
                  obtain ⟨j, hj⟩ : ∃ j, F' - F = j := ⟨_, rfl⟩
                  have q3 : IntKind.i64.wrap ((F' : Int) - (F : Int)) = (j : Int) := by have := HF'.out; rw [IntKind.wrap_i64]; omega
                  have q4 : (F' : Int) - (F : Int) = (j : Int) := by have := HF'.out; omega
                  have hsh := HQ10.out.own.shape
                  have z5 : ∀ u, (Instr.slice 42 (.slice va n vc) (some (.int .i64 (j : Int))) none none).run Tryz.prog u = .ok (.slice va' n' vc') u := fun u => by
                    obtain ⟨a9, c9, e9, e10, _⟩ := hsh
                    have ec : vc = c9 := congrArg (fun v => match v with | Value.slice _ _ c => c | _ => 0) e9
                    rw [HLn.out] at e10
                    rw [slice_fromS va n vc j (by have := HF'.out; omega) (by omega) u, ← hv', hj, HLn.out]
                  have HN' : Hid (n' ≤ n ∧ (xs.drop (F' - F)).length = n') := ⟨by rw [← hn', List.length_drop]; have := HLn.out; omega, hn'⟩
                  have hFi := nuFirst HQ10.out
                  have HFi : Hid (Calls Tryz.prog 21 #[dptr p] w11 fun e w' => e = .returned (.int .i64 (F' : Int)) ∧ w' = w11) := hFi
                  clear hown hv' hq2 hn' hj hsh hFi r1 r2 r3 hmx
                  go_wp2_with (fail)
                  refine HFi.out.mono ?_
                  rintro e u1 ⟨rfl, hu1⟩
                  subst hu1
                  go_wp2_with (fail)
                  refine HFi.out.mono ?_
                  rintro e u2 ⟨rfl, hu2⟩
                  subst hu2
                  clear HFi z5 q3 q4
                  go_wp2_with (fail)
                  go_meet
                  case rel => exact ⟨p, F', va', vc', n', _, rfl, rfl, rfl, ⟨HN'.out.2, by have := HN'.out; have := HK.out; omega⟩, HQ⟩
              · by_cases h5 : kind = 5
                · as_aux_lemma =>
                    subst h5
                    have hR := nuReset HG.out (by have := HKn.out; omega) N HOp.out.hn
                    have HQ0 : Hid (∀ w', NuS (fun j => j = ob) w b m p (.slice va n vc) xs [] N.toNat k w' → NuS NoG w b m p (.slice none 0 0) [] [] N.toNat (k + 1) w') := fun w' hq => (hq.cut (fun j hj => by cases hj) (OwnO.nil _ _)).alone.more
                    clear hk h3 h4
                    go_wp2_with (fail)
                    refine hR.mono ?_
                    rintro e w5 (⟨M, rfl, hM1, hM2, rfl, q, hke⟩ | ⟨hM, rfl, q, hke⟩)
                    · have y5 : w5.cell? ⟨ob, 1, none⟩ = some (.int .i64 (M : Int)) := cell_blk ((hke ob rfl).trans HB.out) rfl
                      have q1 : (1 : Int) ≤ (M : Int) := by omega
                      have q2 : (M : Int) ≤ 999999 := by omega
                      have HQ := (show Hid (NuS NoG w b m p (.slice none 0 0) [] [] M (k + 1) w5) from by have := HQ0.out w5 (by rw [Int.toNat_natCast]; exact q); rwa [Int.toNat_natCast] at this)
                      clear hR q hke hM1 hM2 HQ0
                      go_wp2_with (fail)
                      go_meet
                      case rel => exact ⟨p, M, none, 0, 0, [], rfl, rfl, rfl, ⟨rfl, by omega⟩, HQ⟩
                    · have y5 : w5.cell? ⟨ob, 1, none⟩ = some (.int .i64 N) := cell_blk ((hke ob rfl).trans HB.out) rfl
                      have HQ := (show Hid (NuS NoG w b m p (.slice va n vc) xs xs F (k + 1) w5) from q.alone.more)
                      by_cases h1 : N < 1
                      · have q1 : ¬ (1 : Int) ≤ N := by omega
                        clear hR q hke hM HQ0
                        go_wp2_with (fail)
                        go_meet
                        case rel => exact ⟨p, F, va, vc, n, xs, rfl, rfl, rfl, ⟨HK.out.2.2.1, by have := HK.out; omega⟩, HQ⟩
                      · have q1 : (1 : Int) ≤ N := by omega
                        have q2 : ¬ N ≤ 999999 := by omega
                        clear hR q hke hM HQ0
                        go_wp2_with (fail)
                        go_meet
                        case rel => exact ⟨p, F, va, vc, n, xs, rfl, rfl, rfl, ⟨HK.out.2.2.1, by have := HK.out; omega⟩, HQ⟩
                · by_cases h8 : kind = 8
                  · as_aux_lemma =>
                      subst h8
                      have hO := nuOpen HT.out HG.out (by have := HKn.out; omega)
                      clear hk h3 h4 h5
                      go_wp2_with (fail)
                      refine hO.mono ?_
                      rintro e w5 ⟨p2, rfl, q, _⟩
                      have HQ := (show Hid (NuS NoG w b m p2 (.slice va n vc) xs xs F (k + 1) w5) from q.alone.more)
                      clear hO q
                      go_wp2_with (fail)
                      go_meet
                      case rel => exact ⟨p2, F, va, vc, n, xs, rfl, rfl, rfl, ⟨HK.out.2.2.1, by have := HK.out; omega⟩, HQ⟩
                  · as_aux_lemma =>
                      have k1 : (kind == 1) = false := by simp; omega
                      have k2 : (kind == 2) = false := by simp; omega
                      have k3 : (kind == 3) = false := by simp; omega
                      have k4 : (kind == 4) = false := by simp; omega
                      have k5 : (kind == 5) = false := by simp; omega
                      have k6 : (kind == 6) = false := by simp; omega
                      have k7 : (kind == 7) = false := by simp; omega
                      have k8 : (kind == 8) = false := by simp; omega
                      have k9 : (kind == 9) = false := by simp; omega
                      have HQ := (show Hid (NuS NoG w b m p (.slice va n vc) xs xs F (k + 1) wa) from HG.out.alone.more)
                      clear hk h3 h4 h5 h8
                      go_wp2_with (fail)
                      go_meet
                      case rel => exact ⟨p, F, va, vc, n, xs, rfl, rfl, rfl, ⟨HK.out.2.2.1, by have := HK.out; omega⟩, HQ⟩
        case rest =>
          obtain ⟨p', F', va', vc', n', xs', rfl, rfl, rfl, HX, HQ⟩ := hcut
          obtain ⟨wd, hwd⟩ : ∃ wd, wd = wc := ⟨_, rfl⟩
          subst hwd
          have hbd := HQ.out.bound
          have hln := HX.out.1
          rw [hln] at hbd
          have bF : (F' : Int) ≤ 999999 := by omega
          have bFn : (F' : Int) + (n' : Int) ≤ 1000000 := by omega
          have b0F : (1 : Int) ≤ (F' : Int) := by omega
          have HFi : Hid (Calls Tryz.prog 21 #[dptr p'] wd fun e w' => e = .returned (.int .i64 (F' : Int)) ∧ w' = wd) := nuFirst HQ.out
          have hLa := nuLast HQ.out
          rw [hln] at hLa
          have q3 : ((F' + n' : Nat) : Int) - 1 = (F' : Int) + (n' : Int) - 1 := by omega
          rw [q3] at hLa
          have HLa : Hid (Calls Tryz.prog 18 #[dptr p'] wd fun e w' => e = .returned (.int .i64 ((F' : Int) + (n' : Int) - 1)) ∧ NuS NoG w b m p' (.slice va' n' vc') xs' xs' F' (k + 1) w' ∧ KE NoG wd w') := hLa
          have HLn : Hid (xs'.length = n') := hln
          clear hbd hln hLa q3 HG HB HRb HBn HOp bbn bbl y0 y1
          go_wp2_with (fail)
          refine HFi.out.mono ?_
          rintro e u1 ⟨rfl, hu1⟩
          subst hu1
          go_wp2_with (fail)
          refine HLa.out.mono ?_
          rintro e w5 ⟨rfl, q5, _⟩
          have HQ5 : Hid (NuS NoG w b m p' (.slice va' n' vc') xs' xs' F' (k + 1) w5) := q5
          clear HFi HLa q5 HQ
          go_wp2_with (fail)
          go_loopw [18] (fun kk wr => ∃ j : Nat, kk = .int .i64 (j : Int) ∧ Hid (j ≤ n') ∧ Hid (NuS NoG w b m p' (.slice va' n' vc') xs' xs' F' (k + 1) wr)) (fun kk _ => n' - (intOf kk).toNat)
          case atStart => exact ⟨0, rfl, Nat.zero_le _, HQ5⟩
          case round =>
            obtain ⟨j, rfl, HJ, HI⟩ := hrel
            clear HQ5
            by_cases hj : j < n'
            · have b3 : (j : Int) < (n' : Int) := by omega
              have b4 : (0 : Int) ≤ (j : Int) := by omega
              have HJn : Hid (j < n') := hj
              have hGt := nuGet HI.out (by have := HKn.out; omega) j (by rw [HLn.out]; exact hj)
              rw [show ((F' + j : Nat) : Int) = (F' : Int) + (j : Int) by omega] at hGt
              have bjn : j < n' := hj
              clear hj HJ
              go_wp2_with (fail)
              refine hGt.mono ?_
              rintro e v2 ⟨ga, gc, r, hr, rfl, hrow, hb2⟩
              have HI2 : Hid (NuS NoG w b m p' (.slice va' n' vc') xs' xs' F' (k + 1) v2) := (HI.out.below hb2).1
              obtain ⟨rl, hrl⟩ : ∃ rl, r.length = rl := ⟨_, rfl⟩
              rw [hrl] at hrow ⊢
              obtain ⟨XC, hXC⟩ : ∃ XC : ByteArray, XC = ⟨r.toArray⟩ := ⟨_, rfl⟩
              have z1 : ∀ i, (convert 34 9 (.slice ga rl gc)).run Tryz.prog (v2.drewN i) = .ok (.string XC) (v2.drewN i) := fun i => by rw [hXC]; exact (hrow.drewN i).string
              obtain ⟨g, o, hg, _, hcell⟩ := HI2.out.own.at hr
              have hcell2 : ∀ i, (v2.drewN i).cell? ⟨g, o + j, none⟩ = some (.string XC) := fun i => by
                have : v2.cell? ⟨g, o + j, none⟩ = some (.string XC) := by rw [hcell, hXC]
                exact this
              subst hg
              clear hGt hr hrow hb2 hrl hXC hcell HI
              go_wp2_with (fail)
              go_quiet (fail)
              go_wp2_with (fail)
              go_roundw
              case rel => exact ⟨j + 1, by first | rfl | go_num, by have := HJn.out; show j + 1 ≤ n'; omega, (HI2.out.below (w' := v2.drewN _) ⟨rfl, rfl, rfl, Nat.le_refl _, fun _ _ => rfl⟩).1⟩
              case measure => have := HJn.out; simp [intOf]; omega
            · have b3 : ¬ (j : Int) < (n' : Int) := by omega
              have bjn : ¬ j < n' := hj
              clear hj HJ
              go_wp2_with (fail)
              go_roundw
              case rel => exact ⟨p', F', k + 1, va', vc', n', xs', rfl, rfl, rfl, by first | rfl | go_num, by have := HX.out; have := HKn.out; exact ⟨by omega, by omega, HLn.out, by omega⟩, HI⟩
              case measure => have := HKn.out; simp [intOf]; omega
    · have HQ := (show Hid (Below w.heap.size w wr) from HS.out.bel)
      by_cases h1 : k < len
      · have b1 : (k : Int) < (len : Int) := by omega
        have b2 : ¬ (k : Int) < 60 := by omega
        have d2 : decide (k < 60) = false := by simp; omega
        clear hkn HS
        go_wp2_with (fail)
        go_ret
        exact ⟨rfl, HQ.out⟩
      · have b1 : ¬ (k : Int) < (len : Int) := by omega
        clear hkn HS
        go_wp2_with (fail)
        go_ret
        exact ⟨rfl, HQ.out⟩
end Go.Proofs.YtkbmblmnhhlicaaGreatDoor
