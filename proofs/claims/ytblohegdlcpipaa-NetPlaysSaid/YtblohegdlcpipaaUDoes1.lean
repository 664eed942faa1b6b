/- A step on a net and the document's own: Send; walked. -/
import Derived.Test.YtblohegdlcpipaaUDoes0
set_option linter.unusedVariables false
set_option linter.unusedSimpArgs false
namespace Go.Proofs.Ytblohegdlcpipaa
open Go.RowKit

set_option maxHeartbeats 16000000 in
set_option maxRecDepth 40000 in
theorem udoes1 {w0 w : World} {bn br sd : Nat} {vn vr : Value} {ls : List L3} (h : Pr w0 w bn vn br vr sd ls) (kind A B : Int) (hkind : kind = 1) (S : Nat) (hS : S < 18446744073709551616) {da : Option Addr} {dn dc : Nat} {l0 : List UInt8} (hd : BRow w0 da dn dc l0) (hdc : dn ≤ dc) (hdn : dn ≤ 140737488355328) :
    Calls Try.prog 9 #[nptr bn, nptr br, .agg #[.int .i64 kind, .int .i64 A, .int .i64 B, .slice da dn dc, .int .u64 (S : Int)]] w fun e w' => e = .returned (.bool true) ∧ PrGo w0 w bn vn br vr w' := by
  obtain ⟨w1, hw1⟩ : ∃ w1, w1 = w.alloc (.cells #[.int .i64 kind, .int .i64 A, .int .i64 B, .slice da dn dc, .int .u64 (S : Int)] 34) := ⟨_, rfl⟩
  have hb1 : Below w.heap.size w w1 := by rw [hw1]; exact (Below.refl _ w).alloc (Nat.le_refl _) _
  have hk1 : w1.heap[w.heap.size]? = some (.cells #[.int .i64 kind, .int .i64 A, .int .i64 B, .slice da dn dc, .int .u64 (S : Int)] 34 (0, 0)) := by rw [hw1]; exact heap_alloc_new _ _
  have HH : Hid (Pr w0 w bn vn br vr sd ls ∧ S < 18446744073709551616) := ⟨h, hS⟩
  have H1 : Hid (Below w.heap.size w w1 ∧ w1.heap[w.heap.size]? = some (.cells #[.int .i64 kind, .int .i64 A, .int .i64 B, .slice da dn dc, .int .u64 (S : Int)] 34 (0, 0)) ∧ BRow w0 da dn dc l0 ∧ dn ≤ dc) := ⟨hb1, hk1, hd, hdc⟩
  have x3 := cell_blk hk1 (i := 3) rfl
  have fz := free_blk hk1 3
  have bd : (dn : Int) ≤ 140737488355328 := by omega
  have zs : ∀ u, 1000 ≤ dn → (Instr.slice 32 (.slice da dn dc) none (some (.int .i64 1000)) none).run Try.prog u = .ok (.slice da 1000 dc) u := fun u hk => toB da dn dc 1000 hk hdc u
  have HKi : Hid (kind = 1) := hkind
  clear hkind
  clear h hS hd hdc hdn hb1 hk1
  go_enter Try.func9, Try.ntmps9
  go_upto_region 1 with fail
  rw [← hw1]
  clear hw1
  go_upto_if 24 with fail
  go_cut [] from 21 to 191 (fun wz => ∃ m l, Hid (OpAt w0 w wz kind A B da m dc S l))
  case first =>
    by_cases h1000 : dn ≤ 1000
    · have q1 : ¬ ((1000 : Int) < (dn : Int)) := by omega
      go_wp2_with (fail)
      go_meet
      case rel => exact ⟨dn, l0, H1.out.1, H1.out.2.1, H1.out.2.2.1, h1000, lt_blk H1.out.2.1⟩
    · have q1 : (1000 : Int) < (dn : Int) := by omega
      have z := fun u => zs u (by omega)
      go_wp2_with (fail)
      go_meet
      case rel => exact ⟨1000, l0.take 1000, H1.out.1.setCell (Nat.le_refl _) _, set_blk H1.out.2.1 3 _, H1.out.2.2.1.pre' (by omega), Nat.le_refl _, by rw [set_size]; exact lt_blk H1.out.2.1⟩
  case rest =>
    obtain ⟨m, l, HO⟩ := hcut
    clear H1 x3 fz zs bd
    have y0 := cell_blk HO.out.blk (i := 0) rfl
    have y1 := cell_blk HO.out.blk (i := 1) rfl
    have y2 := cell_blk HO.out.blk (i := 2) rfl
    have y3 := cell_blk HO.out.blk (i := 3) rfl
    have y4 := cell_blk HO.out.blk (i := 4) rfl
    have HP : Hid (Pr w0 wc bn vn br vr sd ls) := HH.out.1.below HO.out.bel
    have hkind := HKi.out
    subst hkind
    obtain ⟨xs, hxs, hxm⟩ := HP.out.net
    have hwb : Below wc.heap.size wc (wc.alloc (.cells #[] 5)) := (Below.refl _ _).alloc (Nat.le_refl _) _
    have hown := own_made0 wc wc.heap.size (Nat.le_refl _)
    have hdat : BRow wc da m dc l := HO.out.dat.below HP.out.bel
    have hrow := hdat.below hwb
    have HX : Hid (NetW wc bn vn sd xs ∧ xs.map Lr.v = ls ∧ l.length = m ∧ m ≤ 1000 ∧ Below wc.heap.size wc (wc.alloc (.cells #[] 5))) := ⟨hxs, hxm, hdat.1, HO.out.short, hwb⟩
    have bm : (m : Int) ≤ 1000 := by have := HO.out.short; omega
    have hkq : (wc.alloc (.cells #[] 5)).heap[w.heap.size]? = some (.cells #[.int .i64 1, .int .i64 A, .int .i64 B, .slice da m dc, .int .u64 (S : Int)] 34 (0, 0)) := blk_below HO.out.blk hwb
    have q3 := cell_blk hkq (i := 3) rfl
    clear hxs hxm hwb hdat hkq y4
    go_wp2_with (at_builtin; refine wpList_copy hown hrow ?c2 ?c3 rfl _ _ rfl rfl rfl ?_)
    case c2 => have := HX.out; simp; omega
    intro vo w2 hown2 hb2
    (try rw [List.nil_append] at hown2)
    obtain ⟨la, lc, hv⟩ := own_slice hown2
    subst hv
    have hbr := own_brow hown2
    have hown3 : w2.ownsRow wc.heap.size 5 1 (.slice la l.length lc) l.length (Lib.byteCells l) := hown2
    rw [HX.out.2.2.1] at hbr hown3 ⊢
    have hb3 : Below wc.heap.size wc w2 := HX.out.2.2.2.2.trans hb2
    have hq2 := blk_below HO.out.blk hb3
    have z1 := cell_blk hq2 (i := 1) rfl
    have z2 := cell_blk hq2 (i := 2) rfl
    have HSd : Hid (Calls Try.prog 12 #[nptr bn, .int .i64 A, .int .i64 B, .slice la m lc] w2 fun e w' => e = .returned (.tuple #[]) ∧ LentS w0 wc bn vn br vr sd ls (sendA ls A B l) la m w') := by
      refine (usendx_any (HX.out.1.below hb3) A B hbr HX.out.2.2.2.1).mono ?_
      rintro e w' ⟨he, hg⟩
      rw [HX.out.2.1] at hg
      exact ⟨he, lent_made HP.out HX.out.1 hb3 hown3 hg⟩
    have HQ : Hid (w2.heap[w.heap.size]? = some (.cells #[.int .i64 1, .int .i64 A, .int .i64 B, .slice da m dc, .int .u64 (S : Int)] 34 (0, 0))) := hq2
    clear hown hrow hown2 hown3 hbr hb2 hb3 hq2 q3 y0 y1 y2 y3
    go_wp2_with (fail)
    refine HSd.out.mono ?_
    rintro e w3 ⟨rfl, hlent⟩
    have HL3 : Hid (LentS w0 wc bn vn br vr sd ls (sendA ls A B l) la m w3) := hlent
    clear hlent HSd z1 z2
    go_wp2_with (fail)
    go_loopw [8] (fun v8 wr => ∃ j : Nat, v8 = .int .i64 (j : Int) ∧ j ≤ m ∧ Hid (LentS w0 wc bn vn br vr sd ls (sendA ls A B l) la m wr)) (fun v8 _ => m - (intOf v8).toNat)
    case atStart => exact ⟨0, rfl, Nat.zero_le _, HL3.out⟩
    case round =>
      clear HL3
      obtain ⟨j, rfl, hj, HL⟩ := hrel
      by_cases hlt : j < m
      · have bj : (j : Int) < (m : Int) := by omega
        have e1 : IntKind.i64.wrap ((j : Int) + 1) = (j : Int) + 1 := by rw [IntKind.wrap_i64]; omega
        obtain ⟨g, cur, hla, hgc, hgs, hst⟩ := HL.out.set hlt
        subst hla
        obtain ⟨u0, x0⟩ : ∃ u0, wr.cell? ⟨g, j, none⟩ = some u0 := ⟨cur[j]'(by omega), cell_blk hgc (Array.getElem?_eq_getElem (by omega))⟩
        have f0 : wr.frozen? ⟨g, j, none⟩ = false := free_blk hgc j
        have HL2 : Hid (LentS w0 wc bn vn br vr sd ls (sendA ls A B l) (some ⟨g, 0, none⟩) m (wr.setCell ⟨g, j, none⟩ (.int .u8 7))) := hst _
        have HJ : Hid (j < m) := hlt
        clear HL hgc hgs hst hlt
        go_wp2_with (fail)
        go_roundw
        case rel => exact ⟨j + 1, by first | rfl | go_num, by have := HJ.out; omega, HL2⟩
        case measure => have := HJ.out; simp [intOf]; omega
      · have bj : ¬ ((j : Int) < (m : Int)) := by omega
        have hq3 := kt_blk HL.out.kt HO.out.blk
        have z1 := cell_blk hq3 (i := 1) rfl
        have z2 := cell_blk hq3 (i := 2) rfl
        have z3 := cell_blk hq3 (i := 3) rfl
        have hcv : (convert 32 9 (.slice da m dc)).run Try.prog wr = .ok (.string ⟨l.toArray⟩) wr := (HO.out.dat.below HL.out.bel).string
        have HRS : Hid (Calls Try.prog 18 #[nptr br, .int .i64 A, .int .i64 B, .string ⟨l.toArray⟩] wr fun e w' => e = .returned (.tuple #[]) ∧ PrGo w0 w bn vn br vr w') := by
          refine (rsend_any HL.out.ref A B l).mono ?_
          rintro e w' ⟨he, hg⟩
          exact ⟨he, PrGo.pre HO.out.bel (HL.out.mid.done hg)⟩
        clear HL hq3 hlt hj
        go_wp2_with (fail)
        refine HRS.out.mono ?_
        rintro e w5 ⟨rfl, hgo⟩
        have HF : Hid (PrGo w0 w bn vn br vr w5) := hgo
        clear HRS hgo z1 z2 z3 hcv
        go_wp2
        go_ret
        exact ⟨rfl, HF.out⟩
end Go.Proofs.Ytblohegdlcpipaa
