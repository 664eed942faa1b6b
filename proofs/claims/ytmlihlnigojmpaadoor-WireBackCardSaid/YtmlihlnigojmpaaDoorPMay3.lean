/- Snapshots: which may be. -/
import Derived.Test.YtmlihlnigojmpaaDoorPMay2
import Derived.Deep.CutBlock
import Derived.Deep.CutRange
set_option linter.unusedVariables false
namespace Go.Proofs.YtmlihlnigojmpaaDoor
open Go.RowKit

def snV (X T : Int) (nv dv : Value) : Value := .agg #[.int .i64 X, .int .i64 T, nv, dv]
def snapB (X T : Int) (nodes : List Int) (dl : Nat) : Bool := inB X 1 999998 && inB T 0 999999 && groupB nodes && decide ((dl : Int) ≤ 300000)

set_option maxHeartbeats 8000000 in
set_option maxRecDepth 40000 in
theorem maySnap_any {w : World} {X T : Int} {na da : Option Addr} {nn nc dn dc : Nat} {nodes : List Int} (hn : NRow w na nodes) (hnl : nodes.length = nn) (hn2 : nn ≤ 140737488355328) (hd2 : dn ≤ 140737488355328) :
    Calls Tryd.prog 52 #[snV X T (.slice na nn nc) (.slice da dn dc)] w fun e w' => e = .returned (.bool (snapB X T nodes dn)) ∧ Below w.heap.size w w' := by
  obtain ⟨w1, hw1⟩ : ∃ w1, w1 = w.alloc (.cells #[.int .i64 X, .int .i64 T, .slice na nn nc, .slice da dn dc] 26) := ⟨_, rfl⟩
  have hb1 : Below w.heap.size w w1 := by rw [hw1]; exact (Below.refl _ w).alloc (Nat.le_refl _) _
  have hk1 : w1.heap[w.heap.size]? = some (.cells #[.int .i64 X, .int .i64 T, .slice na nn nc, .slice da dn dc] 26 (0, 0)) := by rw [hw1]; exact heap_alloc_new _ _
  have x0 : w1.cell? ⟨w.heap.size, 0, none⟩ = some (.int .i64 X) := pcell hk1 rfl
  have x1 : w1.cell? ⟨w.heap.size, 1, none⟩ = some (.int .i64 T) := pcell hk1 rfl
  have x2 : w1.cell? ⟨w.heap.size, 2, none⟩ = some (.slice na nn nc) := pcell hk1 rfl
  have x3 : w1.cell? ⟨w.heap.size, 3, none⟩ = some (.slice da dn dc) := pcell hk1 rfl
  have h1 := within_any X 1 999998 w1
  have h2 := within_any T 0 999999 w1
  have h3 := isGroup_any (c := nc) (hn.below hb1) hnl hn2
  unfold snapB
  obtain ⟨A, hA⟩ : ∃ A, inB X 1 999998 = A := ⟨_, rfl⟩
  obtain ⟨B, hB⟩ : ∃ B, inB T 0 999999 = B := ⟨_, rfl⟩
  obtain ⟨C, hC⟩ : ∃ C, groupB nodes = C := ⟨_, rfl⟩
  obtain ⟨D, hD⟩ : ∃ D, decide ((dn : Int) ≤ 300000) = D := ⟨_, rfl⟩
  rw [hA] at h1 ⊢
  rw [hB] at h2 ⊢
  rw [hC] at h3 ⊢
  rw [hD]
  have HB : Hid (Below w.heap.size w w1) := hb1
  have H1 : Hid (Calls Tryd.prog 50 #[.int .i64 X, .int .i64 1, .int .i64 999998] w1 fun e w' => e = .returned (.bool A) ∧ w' = w1) := h1
  have H2 : Hid (Calls Tryd.prog 50 #[.int .i64 T, .int .i64 0, .int .i64 999999] w1 fun e w' => e = .returned (.bool B) ∧ w' = w1) := h2
  have H3 : Hid (Calls Tryd.prog 70 #[.slice na nn nc] w1 fun e w' => e = .returned (.bool C) ∧ w' = w1) := h3
  clear hA hB hC hn hnl hn2 hd2 hb1 hk1 h1 h2 h3
  go_enter Tryd.func52, Tryd.ntmps52
  unfold snV
  go_upto_region 1 with fail
  rw [← hw1]
  clear hw1
  cases A with
  | false =>
    go_wp2_with (fail)
    refine H1.out.mono ?_
    rintro e w2 ⟨rfl, hw⟩
    subst hw
    clear H1 H2 H3
    go_wp2
    go_ret
    exact ⟨rfl, HB.out⟩
  | true =>
    cases B with
    | false =>
      go_wp2_with (fail)
      refine H1.out.mono ?_
      rintro e w2 ⟨rfl, hw⟩
      subst hw
      go_wp2_with (fail)
      refine H2.out.mono ?_
      rintro e w3 ⟨rfl, hw⟩
      subst hw
      clear H1 H2 H3
      go_wp2
      go_ret
      exact ⟨rfl, HB.out⟩
    | true =>
      cases C with
      | false =>
        go_wp2_with (fail)
        refine H1.out.mono ?_
        rintro e w2 ⟨rfl, hw⟩
        subst hw
        go_wp2_with (fail)
        refine H2.out.mono ?_
        rintro e w3 ⟨rfl, hw⟩
        subst hw
        go_wp2_with (fail)
        refine H3.out.mono ?_
        rintro e w4 ⟨rfl, hw⟩
        subst hw
        clear H1 H2 H3
        go_wp2
        go_ret
        exact ⟨rfl, HB.out⟩
      | true =>
        go_wp2_with (fail)
        refine H1.out.mono ?_
        rintro e w2 ⟨rfl, hw⟩
        subst hw
        go_wp2_with (fail)
        refine H2.out.mono ?_
        rintro e w3 ⟨rfl, hw⟩
        subst hw
        go_wp2_with (fail)
        refine H3.out.mono ?_
        rintro e w4 ⟨rfl, hw⟩
        subst hw
        clear H1 H2 H3
        go_wp2
        go_ret
        exact ⟨by rw [← hD]; rfl, HB.out⟩
end Go.Proofs.YtmlihlnigojmpaaDoor
