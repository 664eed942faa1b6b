/- What must be in any case: walked. -/
import Derived.Test.YtblohegdlcpipaaUOwn
import Derived.Lib.SlBytesConst
set_option linter.unusedVariables false
set_option linter.unusedSimpArgs false
namespace Go.Proofs.Ytblohegdlcpipaa
open Go.RowKit

theorem conv_mark (w : World) (C : Array Value) (n c : Nat) : (convert 32 32 (.slice (some ⟨w.heap.size, 0, none⟩) n c)).run Try.prog (w.alloc (.cells C 5)) = .ok (.slice (some ⟨w.heap.size, 0, none⟩) n c) (w.alloc (.cells C 5 (C.size, C.size + 1))) :=
  Lib.run_convert_bytes_const w 32 5 C n c Try.underlying32 Try.underlying5
theorem brow_mark (w : World) (u : UInt8) (mk : Nat × Nat) : BRow (w.alloc (.cells #[.int .u8 (u.toNat : Int)] 5 mk)) (some ⟨w.heap.size, 0, none⟩) 1 1 [u] := by
  refine ⟨rfl, .inr ⟨_, rfl, fun j hj => ?_⟩⟩
  have hj0 : j = 0 := by simpa using hj
  subst hj0
  simp [World.cell?, World.alloc, Addr.add, -World.alloc_eq]
theorem osend1m {w0 w : World} {B b sd : Nat} {ls : List L3} (h : NetO w0 B w b sd ls) (f t : Int) (u : UInt8) (mk : Nat × Nat) :
    Calls Try.prog 12 #[nptr b, .int .i64 f, .int .i64 t, .slice (some ⟨w.heap.size, 0, none⟩) 1 1] (w.alloc (.cells #[.int .u8 (u.toNat : Int)] 5 mk)) fun e w' => e = .returned (.tuple #[]) ∧ OGo w0 B w b sd (sendA ls f t [u]) w' := by
  have hb : Below w.heap.size w (w.alloc (.cells #[.int .u8 (u.toNat : Int)] 5 mk)) := (Below.refl _ w).alloc (Nat.le_refl _) _
  refine (osend (h.below hb) f t (brow_mark w u mk) (by omega)).mono ?_
  rintro e w' ⟨he, hg⟩
  exact ⟨he, hg.1, (KT.below hb).trans hg.2⟩
theorem rc1 : reachB 4 2 3 = false := by kernel_rfl
theorem rc2 : reachB 0 2 3 = true := by kernel_rfl
theorem rc3 : reachB 0 5 6 = true := by kernel_rfl
theorem rc4 : reachB 0 5 64 = false := by kernel_rfl
def lA : L3 := (1, 2, [97])
def lB : L3 := (2, 3, [98])

set_option maxHeartbeats 8000000 in
set_option maxRecDepth 40000 in
theorem ushown_any (w : World) : Calls Try.prog 7 #[] w fun e w' => e = .returned (.bool true) ∧ Below w.heap.size w w' := by
  have HNew := onew w
  have cv := conv_mark
  go_enter Try.func7, Try.ntmps7
  go_wp2_with (fail)
  refine HNew.mono ?_
  rintro e w1 ⟨b, rfl, h1⟩
  clear HNew
  have H1 : Hid (NetO w w.heap.size w1 b 0 []) := h1
  have hq : ∀ u, (binOp BinOp.eql 24 (nptr b) (.pointer none)).run Try.prog u = .ok (.bool false) u := fun u => by kernel_rfl
  have S1 : Hid (Calls Try.prog 12 #[nptr b, .int .i64 1, .int .i64 2, .slice (some ⟨w1.heap.size, 0, none⟩) 1 1] (w1.alloc (.cells #[.int .u8 97] 5 (1, 2))) fun e w' => e = .returned (.tuple #[]) ∧ NetO w w.heap.size w' b 0 [lA]) := by
    refine (osend1m h1 1 2 97 (1, 2)).mono ?_
    rintro e w' ⟨he, hg⟩
    exact ⟨he, hg.1⟩
  clear h1
  go_wp2_with (fail)
  refine S1.out.mono ?_
  rintro e w2 ⟨rfl, h2⟩
  clear S1 H1
  have S2 : Hid (Calls Try.prog 12 #[nptr b, .int .i64 2, .int .i64 3, .slice (some ⟨w2.heap.size, 0, none⟩) 1 1] (w2.alloc (.cells #[.int .u8 98] 5 (1, 2))) fun e w' => e = .returned (.tuple #[]) ∧ NetO w w.heap.size w' b 0 [lA, lB]) := by
    refine (osend1m h2 2 3 98 (1, 2)).mono ?_
    rintro e w' ⟨he, hg⟩
    exact ⟨he, hg.1⟩
  clear h2
  go_wp2_with (fail)
  refine S2.out.mono ?_
  rintro e w3 ⟨rfl, h3⟩
  clear S2
  have S3 : Hid (Calls Try.prog 14 #[nptr b, .int .i64 1, .int .i64 0] w3 fun e w' => e = .returned (.bool true) ∧ NetO w w.heap.size w' b 0 [lB, lA]) := by
    refine (omove h3 1 0).mono ?_
    rintro e w' ⟨he, hg⟩
    exact ⟨he, hg.1⟩
  clear h3
  go_wp2_with (fail)
  refine S3.out.mono ?_
  rintro e w4 ⟨rfl, h4⟩
  clear S3
  have S4 : Hid (Calls Try.prog 16 #[nptr b, .int .u64 4] w4 fun e w' => e = .returned (.tuple #[]) ∧ NetO w w.heap.size w' b 4 [lB, lA]) := by
    refine (osplit h4 4 (by omega)).mono ?_
    rintro e w' ⟨he, hg⟩
    exact ⟨he, hg.1⟩
  clear h4
  go_wp2_with (fail)
  refine S4.out.mono ?_
  rintro e w5 ⟨rfl, h5⟩
  clear S4
  have S5 : Hid (Calls Try.prog 15 #[nptr b, .int .i64 0] w5 fun e w' => e = .returned (.tuple #[.int .i64 0, .int .i64 0, .slice none 0 0, .bool false]) ∧ NetO w w.heap.size w' b 4 [lB, lA]) := by
    refine (otake_far h5 (j := 0) (y := lB) rfl rc1).mono ?_
    rintro e w' ⟨he, hg⟩
    exact ⟨he, hg.1⟩
  clear h5
  go_wp2_with (fail)
  refine S5.out.mono ?_
  rintro e w6 ⟨rfl, h6⟩
  clear S5
  have S6 : Hid (Calls Try.prog 16 #[nptr b, .int .u64 0] w6 fun e w' => e = .returned (.tuple #[]) ∧ NetO w w.heap.size w' b 0 [lB, lA]) := by
    refine (osplit h6 0 (by omega)).mono ?_
    rintro e w' ⟨he, hg⟩
    exact ⟨he, hg.1⟩
  clear h6
  go_wp2_with (fail)
  refine S6.out.mono ?_
  rintro e w7 ⟨rfl, h7⟩
  clear S6
  have S7 : Hid (Calls Try.prog 15 #[nptr b, .int .i64 0] w7 fun e w' => ∃ a c, e = .returned (.tuple #[.int .i64 2, .int .i64 3, .slice a 1 c, .bool true]) ∧ BRow w' a 1 c [98] ∧ NetO w w.heap.size w' b 0 [lA]) := by
    refine (otake h7 (j := 0) (y := lB) rfl rc2).mono ?_
    rintro e w' ⟨a, c, he, ho, hg⟩
    exact ⟨a, c, he, own_brow ho, hg.1⟩
  clear h7
  go_wp2_with (fail)
  refine S7.out.mono ?_
  rintro e w8 ⟨a, c, rfl, hr8, h8⟩
  clear S7
  have hcv : (convert 32 9 (.slice a 1 c)).run Try.prog w8 = .ok (.string ⟨#[98]⟩) w8 := hr8.string
  have S8 := olen h8
  have S9 : Hid (Calls Try.prog 13 #[nptr b, .int .i64 0] w8 fun e w' => e = .returned (.bool true) ∧ NetO w w.heap.size w' b 0 [lA, lA]) := by
    refine (ocopy h8 0).mono ?_
    rintro e w' ⟨he, hg⟩
    exact ⟨he, hg.1⟩
  clear h8 hr8
  go_wp2_with (fail)
  refine S8.mono ?_
  rintro e w9 ⟨rfl, hw⟩
  replace hw := hw.symm
  subst hw
  clear S8 hcv
  simp only [List.length_cons, List.length_nil]
  go_wp2_with (fail)
  refine S9.out.mono ?_
  rintro e w9 ⟨rfl, h9⟩
  clear S9
  have S10 := olen h9
  have S11 := oreach h9 5 6
  have S12 := oreach h9 5 64
  rw [rc3] at S11
  rw [rc4] at S12
  have HB : Hid (Below w.heap.size w w9) := h9.bel
  clear h9
  go_wp2_with (fail)
  refine S10.mono ?_
  rintro e w10 ⟨rfl, hw⟩
  replace hw := hw.symm
  subst hw
  clear S10
  simp only [List.length_cons, List.length_nil]
  go_wp2_with (fail)
  refine S11.mono ?_
  rintro e w10 ⟨rfl, hw⟩
  replace hw := hw.symm
  subst hw
  clear S11
  go_wp2_with (fail)
  refine S12.mono ?_
  rintro e w10 ⟨rfl, hw⟩
  replace hw := hw.symm
  subst hw
  clear S12
  go_wp2
  go_ret
  exact ⟨rfl, HB.out⟩
end Go.Proofs.Ytblohegdlcpipaa
