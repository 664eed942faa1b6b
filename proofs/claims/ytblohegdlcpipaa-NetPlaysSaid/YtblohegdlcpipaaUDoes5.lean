/- A step on a net and the document's own: Split; walked. -/
import Derived.Test.YtblohegdlcpipaaUDoes0
set_option linter.unusedVariables false
set_option linter.unusedSimpArgs false
namespace Go.Proofs.Ytblohegdlcpipaa
open Go.RowKit

set_option maxHeartbeats 16000000 in
set_option maxRecDepth 40000 in
theorem udoes5 {w0 w : World} {bn br sd : Nat} {vn vr : Value} {ls : List L3} (h : Pr w0 w bn vn br vr sd ls) (kind A B : Int) (hkind : kind = 5) (S : Nat) (hS : S < 18446744073709551616) {da : Option Addr} {dn dc : Nat} {l0 : List UInt8} (hd : BRow w0 da dn dc l0) (hdc : dn ≤ dc) (hdn : dn ≤ 140737488355328) :
    Calls Try.prog 9 #[nptr bn, nptr br, .agg #[.int .i64 kind, .int .i64 A, .int .i64 B, .slice da dn dc, .int .u64 (S : Int)]] w fun e w' => e = .returned (.bool true) ∧ PrGo w0 w bn vn br vr w' := by
  obtain ⟨w1, hw1⟩ : ∃ w1, w1 = w.alloc (.cells #[.int .i64 kind, .int .i64 A, .int .i64 B, .slice da dn dc, .int .u64 (S : Int)] 34) := ⟨_, rfl⟩
  have hb1 : Below w.heap.size w w1 := by rw [hw1]; exact (Below.refl _ w).alloc (Nat.le_refl _) _
  have hk1 : w1.heap[w.heap.size]? = some (.cells #[.int .i64 kind, .int .i64 A, .int .i64 B, .slice da dn dc, .int .u64 (S : Int)] 34 (0, 0)) := by rw [hw1]; exact heap_alloc_new _ _
  have HH : Hid (Pr w0 w bn vn br vr sd ls ∧ S < 18446744073709551616) := ⟨h, hS⟩
  have H1 : Hid (Below w.heap.size w w1 ∧ w1.heap[w.heap.size]? = some (.cells #[.int .i64 kind, .int .i64 A, .int .i64 B, .slice da dn dc, .int .u64 (S : Int)] 34 (0, 0)) ∧ BRow w0 da dn dc l0 ∧ dn ≤ dc) := ⟨hb1, hk1, hd, hdc⟩
  have x3 := cell_blk hk1 (i := 3) rfl
  have fz := free_blk hk1 3
  have bd : (dn : Int) ≤ 140737488355328 := by omega
  have zs : ∀ u, 1000 ≤ dn → (Instr.slice 32 (.slice da dn dc) none (some (.int .i64 1000)) none).run Try.prog u = .ok (.slice da 1000 dc) u := fun u hk => toB da dn dc 1000 hk hdc u
  have HKi : Hid (kind = 5) := hkind
  clear hkind
  clear h hS hd hdc hdn hb1 hk1
  go_enter Try.func9, Try.ntmps9
  go_upto_region 1 with fail
  rw [← hw1]
  clear hw1
  go_upto_if 24 with fail
  go_cut [] from 21 to 191 (fun wz => ∃ m l, Hid (OpAt w0 w wz kind A B da m dc S l))
  case first =>
    by_cases h1000 : dn ≤ 1000
    · have q1 : ¬ ((1000 : Int) < (dn : Int)) := by omega
      go_wp2_with (fail)
      go_meet
      case rel => exact ⟨dn, l0, H1.out.1, H1.out.2.1, H1.out.2.2.1, h1000, lt_blk H1.out.2.1⟩
    · have q1 : (1000 : Int) < (dn : Int) := by omega
      have z := fun u => zs u (by omega)
      go_wp2_with (fail)
      go_meet
      case rel => exact ⟨1000, l0.take 1000, H1.out.1.setCell (Nat.le_refl _) _, set_blk H1.out.2.1 3 _, H1.out.2.2.1.pre' (by omega), Nat.le_refl _, by rw [set_size]; exact lt_blk H1.out.2.1⟩
  case rest =>
    obtain ⟨m, l, HO⟩ := hcut
    clear H1 x3 fz zs bd
    have y0 := cell_blk HO.out.blk (i := 0) rfl
    have y1 := cell_blk HO.out.blk (i := 1) rfl
    have y2 := cell_blk HO.out.blk (i := 2) rfl
    have y3 := cell_blk HO.out.blk (i := 3) rfl
    have y4 := cell_blk HO.out.blk (i := 4) rfl
    have HP : Hid (Pr w0 wc bn vn br vr sd ls) := HH.out.1.below HO.out.bel
    have hkind := HKi.out
    subst hkind
    clear y1 y2 y3
    have HSp : Hid (Calls Try.prog 16 #[nptr bn, .int .u64 (S : Int)] wc fun e w' => e = .returned (.tuple #[]) ∧ PrMid w0 wc bn vn br vr sd S ls ls w') := by
      obtain ⟨xs, hx, hm⟩ := HP.out.net
      refine (usplit_any hx S HH.out.2).mono ?_
      rintro e w' ⟨he, h1, h2⟩
      exact ⟨he, HP.out.mid ⟨vn, ⟨xs, h1, hm⟩, h2.wide (fun k hk => Or.inl hk), fun g hg => .inl hg⟩⟩
    go_wp2_with (fail)
    refine HSp.out.mono ?_
    rintro e w2 ⟨rfl, hm⟩
    have z4 := cell_blk (kt_blk hm.kt HO.out.blk) (i := 4) rfl
    have x1 := hm.ref.c1
    have fz : w2.frozen? ⟨br, 1, none⟩ = false := free_blk hm.ref.blk 1
    have HF : Hid (PrGo w0 w bn vn br vr (w2.setCell ⟨br, 1, none⟩ (.int .u64 (S : Int)))) := by
      refine PrGo.pre HO.out.bel (hm.done ⟨vr, ⟨set_blk hm.ref.blk 1 _, hm.ref.row.keep (fun g hg => set_other _ (hm.ref.ne hg)), hm.ref.few, HH.out.2, hm.ref.nod⟩, Fr.set (S := NetB br vr) (p := ⟨br, 1, none⟩) (Fr.refl _ _) (Or.inl rfl) _, fun g hg => .inl hg⟩)
    clear HSp hm y0 y4
    go_wp2
    go_ret
    exact ⟨rfl, HF.out⟩
end Go.Proofs.Ytblohegdlcpipaa
