/- A step on a net and the document's own: Take; walked. -/
import Derived.Test.YtblohegdlcpipaaUDoes0
set_option linter.unusedVariables false
set_option linter.unusedSimpArgs false
namespace Go.Proofs.Ytblohegdlcpipaa
open Go.RowKit

set_option maxHeartbeats 16000000 in
set_option maxRecDepth 40000 in
theorem udoes2 {w0 w : World} {bn br sd : Nat} {vn vr : Value} {ls : List L3} (h : Pr w0 w bn vn br vr sd ls) (kind A B : Int) (hkind : kind = 2) (S : Nat) (hS : S < 18446744073709551616) {da : Option Addr} {dn dc : Nat} {l0 : List UInt8} (hd : BRow w0 da dn dc l0) (hdc : dn ≤ dc) (hdn : dn ≤ 140737488355328) :
    Calls Try.prog 9 #[nptr bn, nptr br, .agg #[.int .i64 kind, .int .i64 A, .int .i64 B, .slice da dn dc, .int .u64 (S : Int)]] w fun e w' => e = .returned (.bool true) ∧ PrGo w0 w bn vn br vr w' := by
  obtain ⟨w1, hw1⟩ : ∃ w1, w1 = w.alloc (.cells #[.int .i64 kind, .int .i64 A, .int .i64 B, .slice da dn dc, .int .u64 (S : Int)] 34) := ⟨_, rfl⟩
  have hb1 : Below w.heap.size w w1 := by rw [hw1]; exact (Below.refl _ w).alloc (Nat.le_refl _) _
  have hk1 : w1.heap[w.heap.size]? = some (.cells #[.int .i64 kind, .int .i64 A, .int .i64 B, .slice da dn dc, .int .u64 (S : Int)] 34 (0, 0)) := by rw [hw1]; exact heap_alloc_new _ _
  have HH : Hid (Pr w0 w bn vn br vr sd ls ∧ S < 18446744073709551616) := ⟨h, hS⟩
  have H1 : Hid (Below w.heap.size w w1 ∧ w1.heap[w.heap.size]? = some (.cells #[.int .i64 kind, .int .i64 A, .int .i64 B, .slice da dn dc, .int .u64 (S : Int)] 34 (0, 0)) ∧ BRow w0 da dn dc l0 ∧ dn ≤ dc) := ⟨hb1, hk1, hd, hdc⟩
  have x3 := cell_blk hk1 (i := 3) rfl
  have fz := free_blk hk1 3
  have bd : (dn : Int) ≤ 140737488355328 := by omega
  have zs : ∀ u, 1000 ≤ dn → (Instr.slice 32 (.slice da dn dc) none (some (.int .i64 1000)) none).run Try.prog u = .ok (.slice da 1000 dc) u := fun u hk => toB da dn dc 1000 hk hdc u
  have HKi : Hid (kind = 2) := hkind
  clear hkind
  clear h hS hd hdc hdn hb1 hk1
  go_enter Try.func9, Try.ntmps9
  go_upto_region 1 with fail
  rw [← hw1]
  clear hw1
  go_upto_if 24 with fail
  go_cut [] from 21 to 191 (fun wz => ∃ m l, Hid (OpAt w0 w wz kind A B da m dc S l))
  case first =>
    by_cases h1000 : dn ≤ 1000
    · have q1 : ¬ ((1000 : Int) < (dn : Int)) := by omega
      go_wp2_with (fail)
      go_meet
      case rel => exact ⟨dn, l0, H1.out.1, H1.out.2.1, H1.out.2.2.1, h1000, lt_blk H1.out.2.1⟩
    · have q1 : (1000 : Int) < (dn : Int) := by omega
      have z := fun u => zs u (by omega)
      go_wp2_with (fail)
      go_meet
      case rel => exact ⟨1000, l0.take 1000, H1.out.1.setCell (Nat.le_refl _) _, set_blk H1.out.2.1 3 _, H1.out.2.2.1.pre' (by omega), Nat.le_refl _, by rw [set_size]; exact lt_blk H1.out.2.1⟩
  case rest =>
    obtain ⟨m, l, HO⟩ := hcut
    clear H1 x3 fz zs bd
    have y0 := cell_blk HO.out.blk (i := 0) rfl
    have y1 := cell_blk HO.out.blk (i := 1) rfl
    have y2 := cell_blk HO.out.blk (i := 2) rfl
    have y3 := cell_blk HO.out.blk (i := 3) rfl
    have y4 := cell_blk HO.out.blk (i := 4) rfl
    have HP : Hid (Pr w0 wc bn vn br vr sd ls) := HH.out.1.below HO.out.bel
    have hkind := HKi.out
    subst hkind
    clear y2 y3 y4
    obtain ⟨y, hy⟩ : ∃ y, takenR ls sd A = y := ⟨_, rfl⟩
    obtain ⟨X, hX⟩ : ∃ X, takesB ls sd A = X := ⟨_, rfl⟩
    obtain ⟨n, hn⟩ : ∃ n, y.2.2.length = n := ⟨_, rfl⟩
    have HY : Hid (takenR ls sd A = y ∧ takesB ls sd A = X ∧ y.2.2.length = n) := ⟨hy, hX, hn⟩
    clear hy hX hn
    have HN : Hid (Calls Try.prog 15 #[nptr bn, .int .i64 A] wc fun e w' => ∃ a c, e = .returned (.tuple #[.int .i64 (y.1 : Int), .int .i64 (y.2.1 : Int), .slice a n c, .bool X]) ∧ OwnB w' 0 (.slice a n c) y.2.2 ∧ PrMid w0 wc bn vn br vr sd sd ls (takeA ls sd A) w') := by
      refine (utake_any HP.out.net A).mono ?_
      rintro e w' ⟨a, c, he, ho, hg⟩
      rw [HY.out.1, HY.out.2.1] at he
      rw [HY.out.1] at ho
      rw [HY.out.2.2] at he ho
      exact ⟨a, c, he, ho, HP.out.mid hg⟩
    go_wp2_with (fail)
    refine HN.out.mono ?_
    rintro e w2 ⟨ba, bc, rfl, hob, hm⟩
    have z1 := cell_blk (kt_blk hm.kt HO.out.blk) (i := 1) rfl
    have HR : Hid (Calls Try.prog 19 #[nptr br, .int .i64 A] w2 fun e w' => e = .returned (.tuple #[aggR y, .bool X]) ∧ OwnB w' 0 (.slice ba n bc) y.2.2 ∧ PrGo w0 wc bn vn br vr w') := by
      refine (rtake_any hm.ref A).mono ?_
      rintro e w' ⟨he, hg⟩
      rw [HY.out.1, HY.out.2.1] at he
      refine ⟨he, ?_, hm.done hg⟩
      obtain ⟨_, _, h2, _⟩ := hg
      exact hob.krf hm.ref h2
    clear HN hob hm y0 y1
    go_wp2_with (fail)
    refine HR.out.mono ?_
    rintro e w3 ⟨rfl, hob, hgo⟩
    obtain ⟨w4, hw4⟩ : ∃ w4, w4 = w3.alloc (.cells #[.int .i64 (y.1 : Int), .int .i64 (y.2.1 : Int), .string ⟨y.2.2.toArray⟩] 39) := ⟨_, rfl⟩
    have hb4 : Below w3.heap.size w3 w4 := by rw [hw4]; exact (Below.refl _ _).alloc (Nat.le_refl _) _
    have hk4 : w4.heap[w3.heap.size]? = some (.cells #[.int .i64 (y.1 : Int), .int .i64 (y.2.1 : Int), .string ⟨y.2.2.toArray⟩] 39 (0, 0)) := by rw [hw4]; exact heap_alloc_new _ _
    have l0 := cell_blk hk4 (i := 0) rfl
    have l1 := cell_blk hk4 (i := 1) rfl
    have l2 := cell_blk hk4 (i := 2) rfl
    have hcv : (convert 32 9 (.slice ba n bc)).run Try.prog w4 = .ok (.string ⟨y.2.2.toArray⟩) w4 := by
      have hl := HY.out.2.2
      have h1 : OwnB w3 0 (.slice ba y.2.2.length bc) y.2.2 := by rw [hl]; exact hob
      have := ((own_brow h1).below hb4).string
      rwa [hl] at this
    have HF : Hid (PrGo w0 w bn vn br vr w4) := PrGo.pre HO.out.bel (hgo.below hb4)
    have e1 : ((y.1 : Int) != (y.1 : Int)) = false := by simp
    have e2 : ((y.2.1 : Int) != (y.2.1 : Int)) = false := by simp
    have e3 : (y.2.2 != y.2.2) = false := by simp
    have e4 : (X != X) = false := by simp
    clear HR hob hgo hb4 hk4 z1
    go_upto_region 19 with fail
    rw [← hw4]
    clear hw4
    go_wp2
    go_ret
    exact ⟨rfl, HF.out⟩
end Go.Proofs.Ytblohegdlcpipaa
