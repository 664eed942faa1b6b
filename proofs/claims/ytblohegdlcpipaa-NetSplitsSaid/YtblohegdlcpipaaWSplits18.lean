/- NetSplits: any split, any three nodes: walked. -/
import Derived.Test.YtblohegdlcpipaaUShown
set_option linter.unusedVariables false
set_option linter.unusedSimpArgs false
namespace Go.Proofs.Ytblohegdlcpipaa
open Go.RowKit

theorem raa {s : Nat} {x : Int} : reachB s x x = nodeB x := by simp [reachB]
theorem rcomm {s : Nat} {x y : Int} : reachB s y x = reachB s x y := by
  unfold reachB
  rw [Bool.and_comm (nodeB y) (nodeB x)]
  congr 1
  simp only [decide_eq_decide]
  exact ⟨fun h => h.symm, fun h => h.symm⟩
theorem rtrans {s : Nat} {x y z : Int} (h1 : reachB s x y = true) (h2 : reachB s y z = true) : reachB s x z = true := by
  simp only [reachB, Bool.and_eq_true, decide_eq_true_eq] at h1 h2 ⊢
  exact ⟨⟨h1.1.1, h2.1.2⟩, h1.2.trans h2.2⟩
theorem rno1 {s : Nat} {x y : Int} (h : nodeB x = false) : reachB s x y = false := by simp [reachB, h]
theorem rno2 {s : Nat} {x y : Int} (h : nodeB y = false) : reachB s x y = false := by simp [reachB, h]

set_option maxHeartbeats 16000000 in
set_option maxRecDepth 40000 in
theorem wsplits_any (s : Nat) (hs : s < 18446744073709551616) (x y z : Int) (w : World) : Calls Try.prog 5 #[.int .u64 (s : Int), .int .i64 x, .int .i64 y, .int .i64 z] w fun e w' => e = .returned (.bool true) ∧ Below w.heap.size w w' := by
  have HSh := ushown_any w
  have HSs : Hid (s < 18446744073709551616) := hs
  clear hs
  go_enter Try.func5, Try.ntmps5
  go_wp2_with (fail)
  refine HSh.mono ?_
  rintro e w1 ⟨rfl, hb1⟩
  clear HSh
  have HNew : Hid (Calls Try.prog 8 #[] w1 fun e w' => ∃ b, e = .returned (nptr b) ∧ NetO w w.heap.size w' b 0 []) := onew2 hb1 hb1.size
  clear hb1
  go_wp2_with (fail)
  refine HNew.out.mono ?_
  rintro e w2 ⟨b, rfl, h2⟩
  clear HNew
  have hq : ∀ u, (binOp BinOp.eql 24 (nptr b) (.pointer none)).run Try.prog u = .ok (.bool false) u := fun u => by kernel_rfl
  have S3 : Hid (Calls Try.prog 16 #[nptr b, .int .u64 (s : Int)] w2 fun e w' => e = .returned (.tuple #[]) ∧ NetO w w.heap.size w' b s []) := by
    refine (osplit h2 s HSs.out).mono ?_
    rintro e w' ⟨he, hg⟩
    exact ⟨he, hg.1⟩
  clear h2
  go_wp2_with (fail)
  refine S3.out.mono ?_
  rintro e w3 ⟨rfl, h3⟩
  clear S3 hq
  have H3 : Hid (NetO w w.heap.size w3 b s []) := h3
  have RA : Hid (∀ x y : Int, Calls Try.prog 17 #[nptr b, .int .i64 x, .int .i64 y] w3 fun e w' => e = .returned (.bool (reachB s x y)) ∧ w' = w3) := fun x y => oreach h3 x y
  clear h3
  by_cases lx : 0 ≤ x
  · by_cases ux : x ≤ 63
    · have hP : nodeB x = true := nodeB_iff.2 ⟨lx, ux⟩
      by_cases ly : 0 ≤ y
      · by_cases uy : y ≤ 63
        · have hQ : nodeB y = true := nodeB_iff.2 ⟨ly, uy⟩
          cases hR : reachB s x y with
          | false =>
            have C1 : Hid (Calls Try.prog 17 #[nptr b, .int .i64 x, .int .i64 x] w3 fun e w' => e = .returned (.bool true) ∧ w' = w3) := (RA.out x x).mono fun e w' h => ⟨by rw [h.1, raa, hP], h.2⟩
            have C2 : Hid (Calls Try.prog 17 #[nptr b, .int .i64 y, .int .i64 y] w3 fun e w' => e = .returned (.bool true) ∧ w' = w3) := (RA.out y y).mono fun e w' h => ⟨by rw [h.1, raa, hQ], h.2⟩
            have C3 : Hid (Calls Try.prog 17 #[nptr b, .int .i64 x, .int .i64 y] w3 fun e w' => e = .returned (.bool false) ∧ w' = w3) := (RA.out x y).mono fun e w' h => ⟨by rw [h.1, hR], h.2⟩
            have C4 : Hid (Calls Try.prog 17 #[nptr b, .int .i64 y, .int .i64 x] w3 fun e w' => e = .returned (.bool false) ∧ w' = w3) := (RA.out y x).mono fun e w' h => ⟨by rw [h.1, rcomm, hR], h.2⟩
            have S4 : Hid (Calls Try.prog 12 #[nptr b, .int .i64 x, .int .i64 y, .slice (some ⟨w3.heap.size, 0, none⟩) 1 1] (w3.alloc (.cells #[.int .u8 120] 5 (1, 2))) fun e w' => e = .returned (.tuple #[]) ∧ NetO w w.heap.size w' b s [(x.toNat, y.toNat, [120])]) := by
              refine (osend1m H3.out x y 120 (1, 2)).mono ?_
              rintro e w' ⟨he, hg⟩
              have := hg.1
              rw [show sendA [] x y [120] = [(x.toNat, y.toNat, [120])] from by unfold sendA; rw [if_pos ⟨hP, hQ, by decide⟩]; rfl] at this
              exact ⟨he, this⟩
            have cv := conv_mark w3
            have HR : Hid (reachB s x y = false) := hR
            clear hP hQ hR RA H3
            go_wp2_with (fail)
            refine C1.out.mono ?_
            rintro e wx ⟨rfl, hw⟩
            replace hw := hw.symm
            subst hw
            go_wp2_with (fail)
            refine C2.out.mono ?_
            rintro e wx ⟨rfl, hw⟩
            replace hw := hw.symm
            subst hw
            go_wp2_with (fail)
            refine C3.out.mono ?_
            rintro e wx ⟨rfl, hw⟩
            replace hw := hw.symm
            subst hw
            go_wp2_with (fail)
            refine C4.out.mono ?_
            rintro e wx ⟨rfl, hw⟩
            replace hw := hw.symm
            subst hw
            go_wp2_with (fail)
            refine C3.out.mono ?_
            rintro e wx ⟨rfl, hw⟩
            replace hw := hw.symm
            subst hw
            go_wp2_with (fail)
            refine C3.out.mono ?_
            rintro e wx ⟨rfl, hw⟩
            replace hw := hw.symm
            subst hw
            clear C1 C2 C3 C4
            go_wp2_with (fail)
            refine S4.out.mono ?_
            rintro e w4 ⟨rfl, h4⟩
            clear S4 cv
            have S5 : Hid (Calls Try.prog 15 #[nptr b, .int .i64 0] w4 fun e w' => e = .returned (.tuple #[.int .i64 0, .int .i64 0, .slice none 0 0, .bool false]) ∧ NetO w w.heap.size w' b s [(x.toNat, y.toNat, [120])]) := by
              refine (otake_far h4 (j := 0) (y := (x.toNat, y.toNat, [120])) rfl (by rw [show ((x.toNat : Nat) : Int) = x by omega, show ((y.toNat : Nat) : Int) = y by omega]; exact HR.out)).mono ?_
              rintro e w' ⟨he, hg⟩
              exact ⟨he, hg.1⟩
            clear h4
            go_wp2_with (fail)
            refine S5.out.mono ?_
            rintro e w5 ⟨rfl, h5⟩
            clear S5
            have C7 : Hid (Calls Try.prog 17 #[nptr b, .int .i64 x, .int .i64 y] w5 fun e w' => e = .returned (.bool false) ∧ w' = w5) := (oreach h5 x y).mono fun e w' h => ⟨by rw [h.1, HR.out], h.2⟩
            have C8 : Hid (Calls Try.prog 10 #[nptr b] w5 fun e w' => e = .returned (.int .i64 1) ∧ w' = w5) := olen h5
            have HB : Hid (Below w.heap.size w w5) := h5.bel
            clear h5
            go_wp2_with (fail)
            refine C7.out.mono ?_
            rintro e wx ⟨rfl, hw⟩
            replace hw := hw.symm
            subst hw
            go_wp2_with (fail)
            refine C8.out.mono ?_
            rintro e wx ⟨rfl, hw⟩
            replace hw := hw.symm
            subst hw
            clear C7 C8
            go_wp2
            go_ret
            exact ⟨rfl, HB.out⟩
          | true =>
            cases hS : reachB s y z with
            | false =>
              have C1 : Hid (Calls Try.prog 17 #[nptr b, .int .i64 x, .int .i64 x] w3 fun e w' => e = .returned (.bool true) ∧ w' = w3) := (RA.out x x).mono fun e w' h => ⟨by rw [h.1, raa, hP], h.2⟩
              have C2 : Hid (Calls Try.prog 17 #[nptr b, .int .i64 y, .int .i64 y] w3 fun e w' => e = .returned (.bool true) ∧ w' = w3) := (RA.out y y).mono fun e w' h => ⟨by rw [h.1, raa, hQ], h.2⟩
              have C3 : Hid (Calls Try.prog 17 #[nptr b, .int .i64 x, .int .i64 y] w3 fun e w' => e = .returned (.bool true) ∧ w' = w3) := (RA.out x y).mono fun e w' h => ⟨by rw [h.1, hR], h.2⟩
              have C4 : Hid (Calls Try.prog 17 #[nptr b, .int .i64 y, .int .i64 x] w3 fun e w' => e = .returned (.bool true) ∧ w' = w3) := (RA.out y x).mono fun e w' h => ⟨by rw [h.1, rcomm, hR], h.2⟩
              have C5 : Hid (Calls Try.prog 17 #[nptr b, .int .i64 y, .int .i64 z] w3 fun e w' => e = .returned (.bool false) ∧ w' = w3) := (RA.out y z).mono fun e w' h => ⟨by rw [h.1, hS], h.2⟩
              have S4 : Hid (Calls Try.prog 12 #[nptr b, .int .i64 x, .int .i64 y, .slice (some ⟨w3.heap.size, 0, none⟩) 1 1] (w3.alloc (.cells #[.int .u8 120] 5 (1, 2))) fun e w' => e = .returned (.tuple #[]) ∧ NetO w w.heap.size w' b s [(x.toNat, y.toNat, [120])]) := by
                refine (osend1m H3.out x y 120 (1, 2)).mono ?_
                rintro e w' ⟨he, hg⟩
                have := hg.1
                rw [show sendA [] x y [120] = [(x.toNat, y.toNat, [120])] from by unfold sendA; rw [if_pos ⟨hP, hQ, by decide⟩]; rfl] at this
                exact ⟨he, this⟩
              have cv := conv_mark w3
              have HR : Hid (reachB s x y = true) := hR
              clear hP hQ hR RA H3 hS
              go_wp2_with (fail)
              refine C1.out.mono ?_
              rintro e wx ⟨rfl, hw⟩
              replace hw := hw.symm
              subst hw
              go_wp2_with (fail)
              refine C2.out.mono ?_
              rintro e wx ⟨rfl, hw⟩
              replace hw := hw.symm
              subst hw
              go_wp2_with (fail)
              refine C3.out.mono ?_
              rintro e wx ⟨rfl, hw⟩
              replace hw := hw.symm
              subst hw
              go_wp2_with (fail)
              refine C4.out.mono ?_
              rintro e wx ⟨rfl, hw⟩
              replace hw := hw.symm
              subst hw
              go_wp2_with (fail)
              refine C3.out.mono ?_
              rintro e wx ⟨rfl, hw⟩
              replace hw := hw.symm
              subst hw
              go_wp2_with (fail)
              refine C3.out.mono ?_
              rintro e wx ⟨rfl, hw⟩
              replace hw := hw.symm
              subst hw
              go_wp2_with (fail)
              refine C5.out.mono ?_
              rintro e wx ⟨rfl, hw⟩
              replace hw := hw.symm
              subst hw
              clear C1 C2 C3 C4 C5
              go_wp2_with (fail)
              refine S4.out.mono ?_
              rintro e w4 ⟨rfl, h4⟩
              clear S4 cv
              have S5 : Hid (Calls Try.prog 15 #[nptr b, .int .i64 0] w4 fun e w' => ∃ a c, e = .returned (.tuple #[.int .i64 (x.toNat : Int), .int .i64 (y.toNat : Int), .slice a 1 c, .bool true]) ∧ NetO w w.heap.size w' b s []) := by
                refine (otake h4 (j := 0) (y := (x.toNat, y.toNat, [120])) rfl (by rw [show ((x.toNat : Nat) : Int) = x by omega, show ((y.toNat : Nat) : Int) = y by omega]; exact HR.out)).mono ?_
                rintro e w' ⟨a, c, he, ho, hg⟩
                exact ⟨a, c, he, hg.1⟩
              clear h4
              go_wp2_with (fail)
              refine S5.out.mono ?_
              rintro e w5 ⟨a, c, rfl, h5⟩
              clear S5
              have C7 : Hid (Calls Try.prog 17 #[nptr b, .int .i64 x, .int .i64 y] w5 fun e w' => e = .returned (.bool true) ∧ w' = w5) := (oreach h5 x y).mono fun e w' h => ⟨by rw [h.1, HR.out], h.2⟩
              have C8 : Hid (Calls Try.prog 10 #[nptr b] w5 fun e w' => e = .returned (.int .i64 0) ∧ w' = w5) := olen h5
              have HB : Hid (Below w.heap.size w w5) := h5.bel
              clear h5
              go_wp2_with (fail)
              refine C7.out.mono ?_
              rintro e wx ⟨rfl, hw⟩
              replace hw := hw.symm
              subst hw
              go_wp2_with (fail)
              refine C8.out.mono ?_
              rintro e wx ⟨rfl, hw⟩
              replace hw := hw.symm
              subst hw
              clear C7 C8
              go_wp2
              go_ret
              exact ⟨rfl, HB.out⟩
            | true =>
              have C1 : Hid (Calls Try.prog 17 #[nptr b, .int .i64 x, .int .i64 x] w3 fun e w' => e = .returned (.bool true) ∧ w' = w3) := (RA.out x x).mono fun e w' h => ⟨by rw [h.1, raa, hP], h.2⟩
              have C2 : Hid (Calls Try.prog 17 #[nptr b, .int .i64 y, .int .i64 y] w3 fun e w' => e = .returned (.bool true) ∧ w' = w3) := (RA.out y y).mono fun e w' h => ⟨by rw [h.1, raa, hQ], h.2⟩
              have C3 : Hid (Calls Try.prog 17 #[nptr b, .int .i64 x, .int .i64 y] w3 fun e w' => e = .returned (.bool true) ∧ w' = w3) := (RA.out x y).mono fun e w' h => ⟨by rw [h.1, hR], h.2⟩
              have C4 : Hid (Calls Try.prog 17 #[nptr b, .int .i64 y, .int .i64 x] w3 fun e w' => e = .returned (.bool true) ∧ w' = w3) := (RA.out y x).mono fun e w' h => ⟨by rw [h.1, rcomm, hR], h.2⟩
              have C5 : Hid (Calls Try.prog 17 #[nptr b, .int .i64 y, .int .i64 z] w3 fun e w' => e = .returned (.bool true) ∧ w' = w3) := (RA.out y z).mono fun e w' h => ⟨by rw [h.1, hS], h.2⟩
              have C6 : Hid (Calls Try.prog 17 #[nptr b, .int .i64 x, .int .i64 z] w3 fun e w' => e = .returned (.bool true) ∧ w' = w3) := (RA.out x z).mono fun e w' h => ⟨by rw [h.1, rtrans hR hS], h.2⟩
              have S4 : Hid (Calls Try.prog 12 #[nptr b, .int .i64 x, .int .i64 y, .slice (some ⟨w3.heap.size, 0, none⟩) 1 1] (w3.alloc (.cells #[.int .u8 120] 5 (1, 2))) fun e w' => e = .returned (.tuple #[]) ∧ NetO w w.heap.size w' b s [(x.toNat, y.toNat, [120])]) := by
                refine (osend1m H3.out x y 120 (1, 2)).mono ?_
                rintro e w' ⟨he, hg⟩
                have := hg.1
                rw [show sendA [] x y [120] = [(x.toNat, y.toNat, [120])] from by unfold sendA; rw [if_pos ⟨hP, hQ, by decide⟩]; rfl] at this
                exact ⟨he, this⟩
              have cv := conv_mark w3
              have HR : Hid (reachB s x y = true) := hR
              clear hP hQ hR RA H3 hS
              go_wp2_with (fail)
              refine C1.out.mono ?_
              rintro e wx ⟨rfl, hw⟩
              replace hw := hw.symm
              subst hw
              go_wp2_with (fail)
              refine C2.out.mono ?_
              rintro e wx ⟨rfl, hw⟩
              replace hw := hw.symm
              subst hw
              go_wp2_with (fail)
              refine C3.out.mono ?_
              rintro e wx ⟨rfl, hw⟩
              replace hw := hw.symm
              subst hw
              go_wp2_with (fail)
              refine C4.out.mono ?_
              rintro e wx ⟨rfl, hw⟩
              replace hw := hw.symm
              subst hw
              go_wp2_with (fail)
              refine C3.out.mono ?_
              rintro e wx ⟨rfl, hw⟩
              replace hw := hw.symm
              subst hw
              go_wp2_with (fail)
              refine C3.out.mono ?_
              rintro e wx ⟨rfl, hw⟩
              replace hw := hw.symm
              subst hw
              go_wp2_with (fail)
              refine C5.out.mono ?_
              rintro e wx ⟨rfl, hw⟩
              replace hw := hw.symm
              subst hw
              go_wp2_with (fail)
              refine C6.out.mono ?_
              rintro e wx ⟨rfl, hw⟩
              replace hw := hw.symm
              subst hw
              clear C1 C2 C3 C4 C5 C6
              go_wp2_with (fail)
              refine S4.out.mono ?_
              rintro e w4 ⟨rfl, h4⟩
              clear S4 cv
              have S5 : Hid (Calls Try.prog 15 #[nptr b, .int .i64 0] w4 fun e w' => ∃ a c, e = .returned (.tuple #[.int .i64 (x.toNat : Int), .int .i64 (y.toNat : Int), .slice a 1 c, .bool true]) ∧ NetO w w.heap.size w' b s []) := by
                refine (otake h4 (j := 0) (y := (x.toNat, y.toNat, [120])) rfl (by rw [show ((x.toNat : Nat) : Int) = x by omega, show ((y.toNat : Nat) : Int) = y by omega]; exact HR.out)).mono ?_
                rintro e w' ⟨a, c, he, ho, hg⟩
                exact ⟨a, c, he, hg.1⟩
              clear h4
              go_wp2_with (fail)
              refine S5.out.mono ?_
              rintro e w5 ⟨a, c, rfl, h5⟩
              clear S5
              have C7 : Hid (Calls Try.prog 17 #[nptr b, .int .i64 x, .int .i64 y] w5 fun e w' => e = .returned (.bool true) ∧ w' = w5) := (oreach h5 x y).mono fun e w' h => ⟨by rw [h.1, HR.out], h.2⟩
              have C8 : Hid (Calls Try.prog 10 #[nptr b] w5 fun e w' => e = .returned (.int .i64 0) ∧ w' = w5) := olen h5
              have HB : Hid (Below w.heap.size w w5) := h5.bel
              clear h5
              go_wp2_with (fail)
              refine C7.out.mono ?_
              rintro e wx ⟨rfl, hw⟩
              replace hw := hw.symm
              subst hw
              go_wp2_with (fail)
              refine C8.out.mono ?_
              rintro e wx ⟨rfl, hw⟩
              replace hw := hw.symm
              subst hw
              clear C7 C8
              go_wp2
              go_ret
              exact ⟨rfl, HB.out⟩
        · have hQ : nodeB y = false := by simp [nodeB, uy]
          have hR : reachB s x y = false := rno2 hQ
          have C1 : Hid (Calls Try.prog 17 #[nptr b, .int .i64 x, .int .i64 x] w3 fun e w' => e = .returned (.bool true) ∧ w' = w3) := (RA.out x x).mono fun e w' h => ⟨by rw [h.1, raa, hP], h.2⟩
          have C2 : Hid (Calls Try.prog 17 #[nptr b, .int .i64 y, .int .i64 y] w3 fun e w' => e = .returned (.bool false) ∧ w' = w3) := (RA.out y y).mono fun e w' h => ⟨by rw [h.1, raa, hQ], h.2⟩
          have C3 : Hid (Calls Try.prog 17 #[nptr b, .int .i64 x, .int .i64 y] w3 fun e w' => e = .returned (.bool false) ∧ w' = w3) := (RA.out x y).mono fun e w' h => ⟨by rw [h.1, hR], h.2⟩
          have C4 : Hid (Calls Try.prog 17 #[nptr b, .int .i64 y, .int .i64 x] w3 fun e w' => e = .returned (.bool false) ∧ w' = w3) := (RA.out y x).mono fun e w' h => ⟨by rw [h.1, rcomm, hR], h.2⟩
          have S4 : Hid (Calls Try.prog 12 #[nptr b, .int .i64 x, .int .i64 y, .slice (some ⟨w3.heap.size, 0, none⟩) 1 1] (w3.alloc (.cells #[.int .u8 120] 5 (1, 2))) fun e w' => e = .returned (.tuple #[]) ∧ NetO w w.heap.size w' b s []) := by
            refine (osend1m H3.out x y 120 (1, 2)).mono ?_
            rintro e w' ⟨he, hg⟩
            have := hg.1
            rw [show sendA [] x y [120] = [] from by unfold sendA; rw [if_neg (fun h => by rw [hQ] at h; cases h.2.1)]] at this
            exact ⟨he, this⟩
          have cv := conv_mark w3
          have HR : Hid (reachB s x y = false) := hR
          clear hP hQ hR RA H3
          go_wp2_with (fail)
          refine C1.out.mono ?_
          rintro e wx ⟨rfl, hw⟩
          replace hw := hw.symm
          subst hw
          go_wp2_with (fail)
          refine C2.out.mono ?_
          rintro e wx ⟨rfl, hw⟩
          replace hw := hw.symm
          subst hw
          go_wp2_with (fail)
          refine C3.out.mono ?_
          rintro e wx ⟨rfl, hw⟩
          replace hw := hw.symm
          subst hw
          go_wp2_with (fail)
          refine C4.out.mono ?_
          rintro e wx ⟨rfl, hw⟩
          replace hw := hw.symm
          subst hw
          go_wp2_with (fail)
          refine C3.out.mono ?_
          rintro e wx ⟨rfl, hw⟩
          replace hw := hw.symm
          subst hw
          go_wp2_with (fail)
          refine C3.out.mono ?_
          rintro e wx ⟨rfl, hw⟩
          replace hw := hw.symm
          subst hw
          clear C1 C2 C3 C4
          go_wp2_with (fail)
          refine S4.out.mono ?_
          rintro e w4 ⟨rfl, h4⟩
          clear S4 cv
          have S5 : Hid (Calls Try.prog 15 #[nptr b, .int .i64 0] w4 fun e w' => e = .returned (.tuple #[.int .i64 0, .int .i64 0, .slice none 0 0, .bool false]) ∧ NetO w w.heap.size w' b s []) := by
            refine (otake_none h4 0 rfl).mono ?_
            rintro e w' ⟨he, hg⟩
            exact ⟨he, hg.1⟩
          clear h4
          go_wp2_with (fail)
          refine S5.out.mono ?_
          rintro e w5 ⟨rfl, h5⟩
          clear S5
          have C7 : Hid (Calls Try.prog 17 #[nptr b, .int .i64 x, .int .i64 y] w5 fun e w' => e = .returned (.bool false) ∧ w' = w5) := (oreach h5 x y).mono fun e w' h => ⟨by rw [h.1, HR.out], h.2⟩
          have C8 : Hid (Calls Try.prog 10 #[nptr b] w5 fun e w' => e = .returned (.int .i64 0) ∧ w' = w5) := olen h5
          have HB : Hid (Below w.heap.size w w5) := h5.bel
          clear h5
          go_wp2_with (fail)
          refine C7.out.mono ?_
          rintro e wx ⟨rfl, hw⟩
          replace hw := hw.symm
          subst hw
          go_wp2_with (fail)
          refine C8.out.mono ?_
          rintro e wx ⟨rfl, hw⟩
          replace hw := hw.symm
          subst hw
          clear C7 C8
          go_wp2
          go_ret
          exact ⟨rfl, HB.out⟩
      · have hQ : nodeB y = false := by simp [nodeB, ly]
        have hR : reachB s x y = false := rno2 hQ
        have C1 : Hid (Calls Try.prog 17 #[nptr b, .int .i64 x, .int .i64 x] w3 fun e w' => e = .returned (.bool true) ∧ w' = w3) := (RA.out x x).mono fun e w' h => ⟨by rw [h.1, raa, hP], h.2⟩
        have C2 : Hid (Calls Try.prog 17 #[nptr b, .int .i64 y, .int .i64 y] w3 fun e w' => e = .returned (.bool false) ∧ w' = w3) := (RA.out y y).mono fun e w' h => ⟨by rw [h.1, raa, hQ], h.2⟩
        have C3 : Hid (Calls Try.prog 17 #[nptr b, .int .i64 x, .int .i64 y] w3 fun e w' => e = .returned (.bool false) ∧ w' = w3) := (RA.out x y).mono fun e w' h => ⟨by rw [h.1, hR], h.2⟩
        have C4 : Hid (Calls Try.prog 17 #[nptr b, .int .i64 y, .int .i64 x] w3 fun e w' => e = .returned (.bool false) ∧ w' = w3) := (RA.out y x).mono fun e w' h => ⟨by rw [h.1, rcomm, hR], h.2⟩
        have S4 : Hid (Calls Try.prog 12 #[nptr b, .int .i64 x, .int .i64 y, .slice (some ⟨w3.heap.size, 0, none⟩) 1 1] (w3.alloc (.cells #[.int .u8 120] 5 (1, 2))) fun e w' => e = .returned (.tuple #[]) ∧ NetO w w.heap.size w' b s []) := by
          refine (osend1m H3.out x y 120 (1, 2)).mono ?_
          rintro e w' ⟨he, hg⟩
          have := hg.1
          rw [show sendA [] x y [120] = [] from by unfold sendA; rw [if_neg (fun h => by rw [hQ] at h; cases h.2.1)]] at this
          exact ⟨he, this⟩
        have cv := conv_mark w3
        have HR : Hid (reachB s x y = false) := hR
        clear hP hQ hR RA H3
        go_wp2_with (fail)
        refine C1.out.mono ?_
        rintro e wx ⟨rfl, hw⟩
        replace hw := hw.symm
        subst hw
        go_wp2_with (fail)
        refine C2.out.mono ?_
        rintro e wx ⟨rfl, hw⟩
        replace hw := hw.symm
        subst hw
        go_wp2_with (fail)
        refine C3.out.mono ?_
        rintro e wx ⟨rfl, hw⟩
        replace hw := hw.symm
        subst hw
        go_wp2_with (fail)
        refine C4.out.mono ?_
        rintro e wx ⟨rfl, hw⟩
        replace hw := hw.symm
        subst hw
        go_wp2_with (fail)
        refine C3.out.mono ?_
        rintro e wx ⟨rfl, hw⟩
        replace hw := hw.symm
        subst hw
        go_wp2_with (fail)
        refine C3.out.mono ?_
        rintro e wx ⟨rfl, hw⟩
        replace hw := hw.symm
        subst hw
        clear C1 C2 C3 C4
        go_wp2_with (fail)
        refine S4.out.mono ?_
        rintro e w4 ⟨rfl, h4⟩
        clear S4 cv
        have S5 : Hid (Calls Try.prog 15 #[nptr b, .int .i64 0] w4 fun e w' => e = .returned (.tuple #[.int .i64 0, .int .i64 0, .slice none 0 0, .bool false]) ∧ NetO w w.heap.size w' b s []) := by
          refine (otake_none h4 0 rfl).mono ?_
          rintro e w' ⟨he, hg⟩
          exact ⟨he, hg.1⟩
        clear h4
        go_wp2_with (fail)
        refine S5.out.mono ?_
        rintro e w5 ⟨rfl, h5⟩
        clear S5
        have C7 : Hid (Calls Try.prog 17 #[nptr b, .int .i64 x, .int .i64 y] w5 fun e w' => e = .returned (.bool false) ∧ w' = w5) := (oreach h5 x y).mono fun e w' h => ⟨by rw [h.1, HR.out], h.2⟩
        have C8 : Hid (Calls Try.prog 10 #[nptr b] w5 fun e w' => e = .returned (.int .i64 0) ∧ w' = w5) := olen h5
        have HB : Hid (Below w.heap.size w w5) := h5.bel
        clear h5
        go_wp2_with (fail)
        refine C7.out.mono ?_
        rintro e wx ⟨rfl, hw⟩
        replace hw := hw.symm
        subst hw
        go_wp2_with (fail)
        refine C8.out.mono ?_
        rintro e wx ⟨rfl, hw⟩
        replace hw := hw.symm
        subst hw
        clear C7 C8
        go_wp2
        go_ret
        exact ⟨rfl, HB.out⟩
    · have hP : nodeB x = false := by simp [nodeB, ux]
      by_cases ly : 0 ≤ y
      · by_cases uy : y ≤ 63
        · have hQ : nodeB y = true := nodeB_iff.2 ⟨ly, uy⟩
          have hR : reachB s x y = false := rno1 hP
          have C1 : Hid (Calls Try.prog 17 #[nptr b, .int .i64 x, .int .i64 x] w3 fun e w' => e = .returned (.bool false) ∧ w' = w3) := (RA.out x x).mono fun e w' h => ⟨by rw [h.1, raa, hP], h.2⟩
          have C2 : Hid (Calls Try.prog 17 #[nptr b, .int .i64 y, .int .i64 y] w3 fun e w' => e = .returned (.bool true) ∧ w' = w3) := (RA.out y y).mono fun e w' h => ⟨by rw [h.1, raa, hQ], h.2⟩
          have C3 : Hid (Calls Try.prog 17 #[nptr b, .int .i64 x, .int .i64 y] w3 fun e w' => e = .returned (.bool false) ∧ w' = w3) := (RA.out x y).mono fun e w' h => ⟨by rw [h.1, hR], h.2⟩
          have C4 : Hid (Calls Try.prog 17 #[nptr b, .int .i64 y, .int .i64 x] w3 fun e w' => e = .returned (.bool false) ∧ w' = w3) := (RA.out y x).mono fun e w' h => ⟨by rw [h.1, rcomm, hR], h.2⟩
          have S4 : Hid (Calls Try.prog 12 #[nptr b, .int .i64 x, .int .i64 y, .slice (some ⟨w3.heap.size, 0, none⟩) 1 1] (w3.alloc (.cells #[.int .u8 120] 5 (1, 2))) fun e w' => e = .returned (.tuple #[]) ∧ NetO w w.heap.size w' b s []) := by
            refine (osend1m H3.out x y 120 (1, 2)).mono ?_
            rintro e w' ⟨he, hg⟩
            have := hg.1
            rw [show sendA [] x y [120] = [] from by unfold sendA; rw [if_neg (fun h => by rw [hP] at h; cases h.1)]] at this
            exact ⟨he, this⟩
          have cv := conv_mark w3
          have HR : Hid (reachB s x y = false) := hR
          clear hP hQ hR RA H3
          go_wp2_with (fail)
          refine C1.out.mono ?_
          rintro e wx ⟨rfl, hw⟩
          replace hw := hw.symm
          subst hw
          go_wp2_with (fail)
          refine C2.out.mono ?_
          rintro e wx ⟨rfl, hw⟩
          replace hw := hw.symm
          subst hw
          go_wp2_with (fail)
          refine C3.out.mono ?_
          rintro e wx ⟨rfl, hw⟩
          replace hw := hw.symm
          subst hw
          go_wp2_with (fail)
          refine C4.out.mono ?_
          rintro e wx ⟨rfl, hw⟩
          replace hw := hw.symm
          subst hw
          go_wp2_with (fail)
          refine C3.out.mono ?_
          rintro e wx ⟨rfl, hw⟩
          replace hw := hw.symm
          subst hw
          go_wp2_with (fail)
          refine C3.out.mono ?_
          rintro e wx ⟨rfl, hw⟩
          replace hw := hw.symm
          subst hw
          clear C1 C2 C3 C4
          go_wp2_with (fail)
          refine S4.out.mono ?_
          rintro e w4 ⟨rfl, h4⟩
          clear S4 cv
          have S5 : Hid (Calls Try.prog 15 #[nptr b, .int .i64 0] w4 fun e w' => e = .returned (.tuple #[.int .i64 0, .int .i64 0, .slice none 0 0, .bool false]) ∧ NetO w w.heap.size w' b s []) := by
            refine (otake_none h4 0 rfl).mono ?_
            rintro e w' ⟨he, hg⟩
            exact ⟨he, hg.1⟩
          clear h4
          go_wp2_with (fail)
          refine S5.out.mono ?_
          rintro e w5 ⟨rfl, h5⟩
          clear S5
          have C7 : Hid (Calls Try.prog 17 #[nptr b, .int .i64 x, .int .i64 y] w5 fun e w' => e = .returned (.bool false) ∧ w' = w5) := (oreach h5 x y).mono fun e w' h => ⟨by rw [h.1, HR.out], h.2⟩
          have C8 : Hid (Calls Try.prog 10 #[nptr b] w5 fun e w' => e = .returned (.int .i64 0) ∧ w' = w5) := olen h5
          have HB : Hid (Below w.heap.size w w5) := h5.bel
          clear h5
          go_wp2_with (fail)
          refine C7.out.mono ?_
          rintro e wx ⟨rfl, hw⟩
          replace hw := hw.symm
          subst hw
          go_wp2_with (fail)
          refine C8.out.mono ?_
          rintro e wx ⟨rfl, hw⟩
          replace hw := hw.symm
          subst hw
          clear C7 C8
          go_wp2
          go_ret
          exact ⟨rfl, HB.out⟩
        · have hQ : nodeB y = false := by simp [nodeB, uy]
          have hR : reachB s x y = false := rno1 hP
          have C1 : Hid (Calls Try.prog 17 #[nptr b, .int .i64 x, .int .i64 x] w3 fun e w' => e = .returned (.bool false) ∧ w' = w3) := (RA.out x x).mono fun e w' h => ⟨by rw [h.1, raa, hP], h.2⟩
          have C2 : Hid (Calls Try.prog 17 #[nptr b, .int .i64 y, .int .i64 y] w3 fun e w' => e = .returned (.bool false) ∧ w' = w3) := (RA.out y y).mono fun e w' h => ⟨by rw [h.1, raa, hQ], h.2⟩
          have C3 : Hid (Calls Try.prog 17 #[nptr b, .int .i64 x, .int .i64 y] w3 fun e w' => e = .returned (.bool false) ∧ w' = w3) := (RA.out x y).mono fun e w' h => ⟨by rw [h.1, hR], h.2⟩
          have C4 : Hid (Calls Try.prog 17 #[nptr b, .int .i64 y, .int .i64 x] w3 fun e w' => e = .returned (.bool false) ∧ w' = w3) := (RA.out y x).mono fun e w' h => ⟨by rw [h.1, rcomm, hR], h.2⟩
          have S4 : Hid (Calls Try.prog 12 #[nptr b, .int .i64 x, .int .i64 y, .slice (some ⟨w3.heap.size, 0, none⟩) 1 1] (w3.alloc (.cells #[.int .u8 120] 5 (1, 2))) fun e w' => e = .returned (.tuple #[]) ∧ NetO w w.heap.size w' b s []) := by
            refine (osend1m H3.out x y 120 (1, 2)).mono ?_
            rintro e w' ⟨he, hg⟩
            have := hg.1
            rw [show sendA [] x y [120] = [] from by unfold sendA; rw [if_neg (fun h => by rw [hP] at h; cases h.1)]] at this
            exact ⟨he, this⟩
          have cv := conv_mark w3
          have HR : Hid (reachB s x y = false) := hR
          clear hP hQ hR RA H3
          go_wp2_with (fail)
          refine C1.out.mono ?_
          rintro e wx ⟨rfl, hw⟩
          replace hw := hw.symm
          subst hw
          go_wp2_with (fail)
          refine C2.out.mono ?_
          rintro e wx ⟨rfl, hw⟩
          replace hw := hw.symm
          subst hw
          go_wp2_with (fail)
          refine C3.out.mono ?_
          rintro e wx ⟨rfl, hw⟩
          replace hw := hw.symm
          subst hw
          go_wp2_with (fail)
          refine C4.out.mono ?_
          rintro e wx ⟨rfl, hw⟩
          replace hw := hw.symm
          subst hw
          go_wp2_with (fail)
          refine C3.out.mono ?_
          rintro e wx ⟨rfl, hw⟩
          replace hw := hw.symm
          subst hw
          go_wp2_with (fail)
          refine C3.out.mono ?_
          rintro e wx ⟨rfl, hw⟩
          replace hw := hw.symm
          subst hw
          clear C1 C2 C3 C4
          go_wp2_with (fail)
          refine S4.out.mono ?_
          rintro e w4 ⟨rfl, h4⟩
          clear S4 cv
          have S5 : Hid (Calls Try.prog 15 #[nptr b, .int .i64 0] w4 fun e w' => e = .returned (.tuple #[.int .i64 0, .int .i64 0, .slice none 0 0, .bool false]) ∧ NetO w w.heap.size w' b s []) := by
            refine (otake_none h4 0 rfl).mono ?_
            rintro e w' ⟨he, hg⟩
            exact ⟨he, hg.1⟩
          clear h4
          go_wp2_with (fail)
          refine S5.out.mono ?_
          rintro e w5 ⟨rfl, h5⟩
          clear S5
          have C7 : Hid (Calls Try.prog 17 #[nptr b, .int .i64 x, .int .i64 y] w5 fun e w' => e = .returned (.bool false) ∧ w' = w5) := (oreach h5 x y).mono fun e w' h => ⟨by rw [h.1, HR.out], h.2⟩
          have C8 : Hid (Calls Try.prog 10 #[nptr b] w5 fun e w' => e = .returned (.int .i64 0) ∧ w' = w5) := olen h5
          have HB : Hid (Below w.heap.size w w5) := h5.bel
          clear h5
          go_wp2_with (fail)
          refine C7.out.mono ?_
          rintro e wx ⟨rfl, hw⟩
          replace hw := hw.symm
          subst hw
          go_wp2_with (fail)
          refine C8.out.mono ?_
          rintro e wx ⟨rfl, hw⟩
          replace hw := hw.symm
          subst hw
          clear C7 C8
          go_wp2
          go_ret
          exact ⟨rfl, HB.out⟩
      · have hQ : nodeB y = false := by simp [nodeB, ly]
        have hR : reachB s x y = false := rno1 hP
        have C1 : Hid (Calls Try.prog 17 #[nptr b, .int .i64 x, .int .i64 x] w3 fun e w' => e = .returned (.bool false) ∧ w' = w3) := (RA.out x x).mono fun e w' h => ⟨by rw [h.1, raa, hP], h.2⟩
        have C2 : Hid (Calls Try.prog 17 #[nptr b, .int .i64 y, .int .i64 y] w3 fun e w' => e = .returned (.bool false) ∧ w' = w3) := (RA.out y y).mono fun e w' h => ⟨by rw [h.1, raa, hQ], h.2⟩
        have C3 : Hid (Calls Try.prog 17 #[nptr b, .int .i64 x, .int .i64 y] w3 fun e w' => e = .returned (.bool false) ∧ w' = w3) := (RA.out x y).mono fun e w' h => ⟨by rw [h.1, hR], h.2⟩
        have C4 : Hid (Calls Try.prog 17 #[nptr b, .int .i64 y, .int .i64 x] w3 fun e w' => e = .returned (.bool false) ∧ w' = w3) := (RA.out y x).mono fun e w' h => ⟨by rw [h.1, rcomm, hR], h.2⟩
        have S4 : Hid (Calls Try.prog 12 #[nptr b, .int .i64 x, .int .i64 y, .slice (some ⟨w3.heap.size, 0, none⟩) 1 1] (w3.alloc (.cells #[.int .u8 120] 5 (1, 2))) fun e w' => e = .returned (.tuple #[]) ∧ NetO w w.heap.size w' b s []) := by
          refine (osend1m H3.out x y 120 (1, 2)).mono ?_
          rintro e w' ⟨he, hg⟩
          have := hg.1
          rw [show sendA [] x y [120] = [] from by unfold sendA; rw [if_neg (fun h => by rw [hP] at h; cases h.1)]] at this
          exact ⟨he, this⟩
        have cv := conv_mark w3
        have HR : Hid (reachB s x y = false) := hR
        clear hP hQ hR RA H3
        go_wp2_with (fail)
        refine C1.out.mono ?_
        rintro e wx ⟨rfl, hw⟩
        replace hw := hw.symm
        subst hw
        go_wp2_with (fail)
        refine C2.out.mono ?_
        rintro e wx ⟨rfl, hw⟩
        replace hw := hw.symm
        subst hw
        go_wp2_with (fail)
        refine C3.out.mono ?_
        rintro e wx ⟨rfl, hw⟩
        replace hw := hw.symm
        subst hw
        go_wp2_with (fail)
        refine C4.out.mono ?_
        rintro e wx ⟨rfl, hw⟩
        replace hw := hw.symm
        subst hw
        go_wp2_with (fail)
        refine C3.out.mono ?_
        rintro e wx ⟨rfl, hw⟩
        replace hw := hw.symm
        subst hw
        go_wp2_with (fail)
        refine C3.out.mono ?_
        rintro e wx ⟨rfl, hw⟩
        replace hw := hw.symm
        subst hw
        clear C1 C2 C3 C4
        go_wp2_with (fail)
        refine S4.out.mono ?_
        rintro e w4 ⟨rfl, h4⟩
        clear S4 cv
        have S5 : Hid (Calls Try.prog 15 #[nptr b, .int .i64 0] w4 fun e w' => e = .returned (.tuple #[.int .i64 0, .int .i64 0, .slice none 0 0, .bool false]) ∧ NetO w w.heap.size w' b s []) := by
          refine (otake_none h4 0 rfl).mono ?_
          rintro e w' ⟨he, hg⟩
          exact ⟨he, hg.1⟩
        clear h4
        go_wp2_with (fail)
        refine S5.out.mono ?_
        rintro e w5 ⟨rfl, h5⟩
        clear S5
        have C7 : Hid (Calls Try.prog 17 #[nptr b, .int .i64 x, .int .i64 y] w5 fun e w' => e = .returned (.bool false) ∧ w' = w5) := (oreach h5 x y).mono fun e w' h => ⟨by rw [h.1, HR.out], h.2⟩
        have C8 : Hid (Calls Try.prog 10 #[nptr b] w5 fun e w' => e = .returned (.int .i64 0) ∧ w' = w5) := olen h5
        have HB : Hid (Below w.heap.size w w5) := h5.bel
        clear h5
        go_wp2_with (fail)
        refine C7.out.mono ?_
        rintro e wx ⟨rfl, hw⟩
        replace hw := hw.symm
        subst hw
        go_wp2_with (fail)
        refine C8.out.mono ?_
        rintro e wx ⟨rfl, hw⟩
        replace hw := hw.symm
        subst hw
        clear C7 C8
        go_wp2
        go_ret
        exact ⟨rfl, HB.out⟩
  · have hP : nodeB x = false := by simp [nodeB, lx]
    by_cases ly : 0 ≤ y
    · by_cases uy : y ≤ 63
      · have hQ : nodeB y = true := nodeB_iff.2 ⟨ly, uy⟩
        have hR : reachB s x y = false := rno1 hP
        have C1 : Hid (Calls Try.prog 17 #[nptr b, .int .i64 x, .int .i64 x] w3 fun e w' => e = .returned (.bool false) ∧ w' = w3) := (RA.out x x).mono fun e w' h => ⟨by rw [h.1, raa, hP], h.2⟩
        have C2 : Hid (Calls Try.prog 17 #[nptr b, .int .i64 y, .int .i64 y] w3 fun e w' => e = .returned (.bool true) ∧ w' = w3) := (RA.out y y).mono fun e w' h => ⟨by rw [h.1, raa, hQ], h.2⟩
        have C3 : Hid (Calls Try.prog 17 #[nptr b, .int .i64 x, .int .i64 y] w3 fun e w' => e = .returned (.bool false) ∧ w' = w3) := (RA.out x y).mono fun e w' h => ⟨by rw [h.1, hR], h.2⟩
        have C4 : Hid (Calls Try.prog 17 #[nptr b, .int .i64 y, .int .i64 x] w3 fun e w' => e = .returned (.bool false) ∧ w' = w3) := (RA.out y x).mono fun e w' h => ⟨by rw [h.1, rcomm, hR], h.2⟩
        have S4 : Hid (Calls Try.prog 12 #[nptr b, .int .i64 x, .int .i64 y, .slice (some ⟨w3.heap.size, 0, none⟩) 1 1] (w3.alloc (.cells #[.int .u8 120] 5 (1, 2))) fun e w' => e = .returned (.tuple #[]) ∧ NetO w w.heap.size w' b s []) := by
          refine (osend1m H3.out x y 120 (1, 2)).mono ?_
          rintro e w' ⟨he, hg⟩
          have := hg.1
          rw [show sendA [] x y [120] = [] from by unfold sendA; rw [if_neg (fun h => by rw [hP] at h; cases h.1)]] at this
          exact ⟨he, this⟩
        have cv := conv_mark w3
        have HR : Hid (reachB s x y = false) := hR
        clear hP hQ hR RA H3
        go_wp2_with (fail)
        refine C1.out.mono ?_
        rintro e wx ⟨rfl, hw⟩
        replace hw := hw.symm
        subst hw
        go_wp2_with (fail)
        refine C2.out.mono ?_
        rintro e wx ⟨rfl, hw⟩
        replace hw := hw.symm
        subst hw
        go_wp2_with (fail)
        refine C3.out.mono ?_
        rintro e wx ⟨rfl, hw⟩
        replace hw := hw.symm
        subst hw
        go_wp2_with (fail)
        refine C4.out.mono ?_
        rintro e wx ⟨rfl, hw⟩
        replace hw := hw.symm
        subst hw
        go_wp2_with (fail)
        refine C3.out.mono ?_
        rintro e wx ⟨rfl, hw⟩
        replace hw := hw.symm
        subst hw
        go_wp2_with (fail)
        refine C3.out.mono ?_
        rintro e wx ⟨rfl, hw⟩
        replace hw := hw.symm
        subst hw
        clear C1 C2 C3 C4
        go_wp2_with (fail)
        refine S4.out.mono ?_
        rintro e w4 ⟨rfl, h4⟩
        clear S4 cv
        have S5 : Hid (Calls Try.prog 15 #[nptr b, .int .i64 0] w4 fun e w' => e = .returned (.tuple #[.int .i64 0, .int .i64 0, .slice none 0 0, .bool false]) ∧ NetO w w.heap.size w' b s []) := by
          refine (otake_none h4 0 rfl).mono ?_
          rintro e w' ⟨he, hg⟩
          exact ⟨he, hg.1⟩
        clear h4
        go_wp2_with (fail)
        refine S5.out.mono ?_
        rintro e w5 ⟨rfl, h5⟩
        clear S5
        have C7 : Hid (Calls Try.prog 17 #[nptr b, .int .i64 x, .int .i64 y] w5 fun e w' => e = .returned (.bool false) ∧ w' = w5) := (oreach h5 x y).mono fun e w' h => ⟨by rw [h.1, HR.out], h.2⟩
        have C8 : Hid (Calls Try.prog 10 #[nptr b] w5 fun e w' => e = .returned (.int .i64 0) ∧ w' = w5) := olen h5
        have HB : Hid (Below w.heap.size w w5) := h5.bel
        clear h5
        go_wp2_with (fail)
        refine C7.out.mono ?_
        rintro e wx ⟨rfl, hw⟩
        replace hw := hw.symm
        subst hw
        go_wp2_with (fail)
        refine C8.out.mono ?_
        rintro e wx ⟨rfl, hw⟩
        replace hw := hw.symm
        subst hw
        clear C7 C8
        go_wp2
        go_ret
        exact ⟨rfl, HB.out⟩
      · have hQ : nodeB y = false := by simp [nodeB, uy]
        have hR : reachB s x y = false := rno1 hP
        have C1 : Hid (Calls Try.prog 17 #[nptr b, .int .i64 x, .int .i64 x] w3 fun e w' => e = .returned (.bool false) ∧ w' = w3) := (RA.out x x).mono fun e w' h => ⟨by rw [h.1, raa, hP], h.2⟩
        have C2 : Hid (Calls Try.prog 17 #[nptr b, .int .i64 y, .int .i64 y] w3 fun e w' => e = .returned (.bool false) ∧ w' = w3) := (RA.out y y).mono fun e w' h => ⟨by rw [h.1, raa, hQ], h.2⟩
        have C3 : Hid (Calls Try.prog 17 #[nptr b, .int .i64 x, .int .i64 y] w3 fun e w' => e = .returned (.bool false) ∧ w' = w3) := (RA.out x y).mono fun e w' h => ⟨by rw [h.1, hR], h.2⟩
        have C4 : Hid (Calls Try.prog 17 #[nptr b, .int .i64 y, .int .i64 x] w3 fun e w' => e = .returned (.bool false) ∧ w' = w3) := (RA.out y x).mono fun e w' h => ⟨by rw [h.1, rcomm, hR], h.2⟩
        have S4 : Hid (Calls Try.prog 12 #[nptr b, .int .i64 x, .int .i64 y, .slice (some ⟨w3.heap.size, 0, none⟩) 1 1] (w3.alloc (.cells #[.int .u8 120] 5 (1, 2))) fun e w' => e = .returned (.tuple #[]) ∧ NetO w w.heap.size w' b s []) := by
          refine (osend1m H3.out x y 120 (1, 2)).mono ?_
          rintro e w' ⟨he, hg⟩
          have := hg.1
          rw [show sendA [] x y [120] = [] from by unfold sendA; rw [if_neg (fun h => by rw [hP] at h; cases h.1)]] at this
          exact ⟨he, this⟩
        have cv := conv_mark w3
        have HR : Hid (reachB s x y = false) := hR
        clear hP hQ hR RA H3
        go_wp2_with (fail)
        refine C1.out.mono ?_
        rintro e wx ⟨rfl, hw⟩
        replace hw := hw.symm
        subst hw
        go_wp2_with (fail)
        refine C2.out.mono ?_
        rintro e wx ⟨rfl, hw⟩
        replace hw := hw.symm
        subst hw
        go_wp2_with (fail)
        refine C3.out.mono ?_
        rintro e wx ⟨rfl, hw⟩
        replace hw := hw.symm
        subst hw
        go_wp2_with (fail)
        refine C4.out.mono ?_
        rintro e wx ⟨rfl, hw⟩
        replace hw := hw.symm
        subst hw
        go_wp2_with (fail)
        refine C3.out.mono ?_
        rintro e wx ⟨rfl, hw⟩
        replace hw := hw.symm
        subst hw
        go_wp2_with (fail)
        refine C3.out.mono ?_
        rintro e wx ⟨rfl, hw⟩
        replace hw := hw.symm
        subst hw
        clear C1 C2 C3 C4
        go_wp2_with (fail)
        refine S4.out.mono ?_
        rintro e w4 ⟨rfl, h4⟩
        clear S4 cv
        have S5 : Hid (Calls Try.prog 15 #[nptr b, .int .i64 0] w4 fun e w' => e = .returned (.tuple #[.int .i64 0, .int .i64 0, .slice none 0 0, .bool false]) ∧ NetO w w.heap.size w' b s []) := by
          refine (otake_none h4 0 rfl).mono ?_
          rintro e w' ⟨he, hg⟩
          exact ⟨he, hg.1⟩
        clear h4
        go_wp2_with (fail)
        refine S5.out.mono ?_
        rintro e w5 ⟨rfl, h5⟩
        clear S5
        have C7 : Hid (Calls Try.prog 17 #[nptr b, .int .i64 x, .int .i64 y] w5 fun e w' => e = .returned (.bool false) ∧ w' = w5) := (oreach h5 x y).mono fun e w' h => ⟨by rw [h.1, HR.out], h.2⟩
        have C8 : Hid (Calls Try.prog 10 #[nptr b] w5 fun e w' => e = .returned (.int .i64 0) ∧ w' = w5) := olen h5
        have HB : Hid (Below w.heap.size w w5) := h5.bel
        clear h5
        go_wp2_with (fail)
        refine C7.out.mono ?_
        rintro e wx ⟨rfl, hw⟩
        replace hw := hw.symm
        subst hw
        go_wp2_with (fail)
        refine C8.out.mono ?_
        rintro e wx ⟨rfl, hw⟩
        replace hw := hw.symm
        subst hw
        clear C7 C8
        go_wp2
        go_ret
        exact ⟨rfl, HB.out⟩
    · have hQ : nodeB y = false := by simp [nodeB, ly]
      have hR : reachB s x y = false := rno1 hP
      have C1 : Hid (Calls Try.prog 17 #[nptr b, .int .i64 x, .int .i64 x] w3 fun e w' => e = .returned (.bool false) ∧ w' = w3) := (RA.out x x).mono fun e w' h => ⟨by rw [h.1, raa, hP], h.2⟩
      have C2 : Hid (Calls Try.prog 17 #[nptr b, .int .i64 y, .int .i64 y] w3 fun e w' => e = .returned (.bool false) ∧ w' = w3) := (RA.out y y).mono fun e w' h => ⟨by rw [h.1, raa, hQ], h.2⟩
      have C3 : Hid (Calls Try.prog 17 #[nptr b, .int .i64 x, .int .i64 y] w3 fun e w' => e = .returned (.bool false) ∧ w' = w3) := (RA.out x y).mono fun e w' h => ⟨by rw [h.1, hR], h.2⟩
      have C4 : Hid (Calls Try.prog 17 #[nptr b, .int .i64 y, .int .i64 x] w3 fun e w' => e = .returned (.bool false) ∧ w' = w3) := (RA.out y x).mono fun e w' h => ⟨by rw [h.1, rcomm, hR], h.2⟩
      have S4 : Hid (Calls Try.prog 12 #[nptr b, .int .i64 x, .int .i64 y, .slice (some ⟨w3.heap.size, 0, none⟩) 1 1] (w3.alloc (.cells #[.int .u8 120] 5 (1, 2))) fun e w' => e = .returned (.tuple #[]) ∧ NetO w w.heap.size w' b s []) := by
        refine (osend1m H3.out x y 120 (1, 2)).mono ?_
        rintro e w' ⟨he, hg⟩
        have := hg.1
        rw [show sendA [] x y [120] = [] from by unfold sendA; rw [if_neg (fun h => by rw [hP] at h; cases h.1)]] at this
        exact ⟨he, this⟩
      have cv := conv_mark w3
      have HR : Hid (reachB s x y = false) := hR
      clear hP hQ hR RA H3
      go_wp2_with (fail)
      refine C1.out.mono ?_
      rintro e wx ⟨rfl, hw⟩
      replace hw := hw.symm
      subst hw
      go_wp2_with (fail)
      refine C2.out.mono ?_
      rintro e wx ⟨rfl, hw⟩
      replace hw := hw.symm
      subst hw
      go_wp2_with (fail)
      refine C3.out.mono ?_
      rintro e wx ⟨rfl, hw⟩
      replace hw := hw.symm
      subst hw
      go_wp2_with (fail)
      refine C4.out.mono ?_
      rintro e wx ⟨rfl, hw⟩
      replace hw := hw.symm
      subst hw
      go_wp2_with (fail)
      refine C3.out.mono ?_
      rintro e wx ⟨rfl, hw⟩
      replace hw := hw.symm
      subst hw
      go_wp2_with (fail)
      refine C3.out.mono ?_
      rintro e wx ⟨rfl, hw⟩
      replace hw := hw.symm
      subst hw
      clear C1 C2 C3 C4
      go_wp2_with (fail)
      refine S4.out.mono ?_
      rintro e w4 ⟨rfl, h4⟩
      clear S4 cv
      have S5 : Hid (Calls Try.prog 15 #[nptr b, .int .i64 0] w4 fun e w' => e = .returned (.tuple #[.int .i64 0, .int .i64 0, .slice none 0 0, .bool false]) ∧ NetO w w.heap.size w' b s []) := by
        refine (otake_none h4 0 rfl).mono ?_
        rintro e w' ⟨he, hg⟩
        exact ⟨he, hg.1⟩
      clear h4
      go_wp2_with (fail)
      refine S5.out.mono ?_
      rintro e w5 ⟨rfl, h5⟩
      clear S5
      have C7 : Hid (Calls Try.prog 17 #[nptr b, .int .i64 x, .int .i64 y] w5 fun e w' => e = .returned (.bool false) ∧ w' = w5) := (oreach h5 x y).mono fun e w' h => ⟨by rw [h.1, HR.out], h.2⟩
      have C8 : Hid (Calls Try.prog 10 #[nptr b] w5 fun e w' => e = .returned (.int .i64 0) ∧ w' = w5) := olen h5
      have HB : Hid (Below w.heap.size w w5) := h5.bel
      clear h5
      go_wp2_with (fail)
      refine C7.out.mono ?_
      rintro e wx ⟨rfl, hw⟩
      replace hw := hw.symm
      subst hw
      go_wp2_with (fail)
      refine C8.out.mono ?_
      rintro e wx ⟨rfl, hw⟩
      replace hw := hw.symm
      subst hw
      clear C7 C8
      go_wp2
      go_ret
      exact ⟨rfl, HB.out⟩
end Go.Proofs.Ytblohegdlcpipaa
