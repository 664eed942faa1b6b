/- Letters: which are right. What each Kind has, and the bounds: walked. -/
import Derived.Test.YtmlihlnigojmpaaDoorPMay3
import Derived.Test.YtmlihlnigojmpaaDoorZRead
set_option linter.unusedVariables false
namespace Go.Proofs.YtmlihlnigojmpaaDoor
open Go.RowKit

/-- A letter. -/
structure Lt where
  k : Int
  f : Int
  t : Int
  tm : Int
  i : Int
  lt : Int
  cm : Int
  rd : Int
  ok : Bool
  es : List En
  sx : Int
  st : Int
  ns : List Int
  da : List UInt8
/-- Where its rows lie. -/
structure LtA where
  ea : Option Addr
  ec : Nat
  na : Option Addr
  nc : Nat
  da : Option Addr
  dc : Nat
abbrev ltC (M : Lt) (A : LtA) : Array Value := #[.int .i64 M.k, .int .i64 M.f, .int .i64 M.t, .int .i64 M.tm, .int .i64 M.i, .int .i64 M.lt, .int .i64 M.cm, .int .i64 M.rd, .bool M.ok, .slice A.ea M.es.length A.ec, .int .i64 M.sx, .int .i64 M.st, .slice A.na M.ns.length A.nc, .slice A.da M.da.length A.dc]
def ltV (M : Lt) (A : LtA) : Value := .agg (ltC M A)
def i64B (z : Int) : Prop := -9223372036854775808 ≤ z ∧ z ≤ 9223372036854775807
/-- Its rows may be read, its numbers are numbers. -/
structure LtW (w : World) (M : Lt) (A : LtA) : Prop where
  es : EnRow w A.ea M.es
  ns : NRow w A.na M.ns
  da : BRow w A.da M.da.length A.dc M.da
  el : M.es.length ≤ 140737488355328
  nl : M.ns.length ≤ 140737488355328
  dl : M.da.length ≤ 140737488355328
  dcl : M.da.length ≤ A.dc
  rk : i64B M.k
  rf : i64B M.f
  rt : i64B M.t
  rtm : i64B M.tm
  ri : i64B M.i
  rlt : i64B M.lt
  rcm : i64B M.cm
  rrd : i64B M.rd
  rsx : i64B M.sx
  rst : i64B M.st
theorem LtW.below {w w' : World} {M : Lt} {A : LtA} (h : LtW w M A) (hb : Below w.heap.size w w') : LtW w' M A :=
  { h with es := h.es.below hb, ns := h.ns.below hb, da := h.da.below hb }
/-- A letter in a block of its own. -/
theorem lt_new (w : World) (M : Lt) (A : LtA) : (w.alloc (.cells (ltC M A) 28)).heap[w.heap.size]? = some (.cells (ltC M A) 28 (0, 0)) := heap_alloc_new _ _

def headB (M : Lt) : Bool := inB M.f 1 5 && inB M.t 1 5 && decide (M.f ≠ M.t) && inB M.tm 1 999999
def boundsB (M : Lt) : Bool := inB M.i 0 999999 && inB M.cm 0 999999 && inB M.lt 0 M.tm && inB M.rd 0 1073741824

set_option maxHeartbeats 8000000 in
set_option maxRecDepth 40000 in
theorem head_any {w : World} (M : Lt) (A : LtA) : Calls Tryd.prog 26 #[ltV M A] w fun e w' => e = .returned (.bool (headB M)) ∧ Below w.heap.size w w' := by
  obtain ⟨w1, hw1⟩ : ∃ w1, w1 = w.alloc (.cells (ltC M A) 28) := ⟨_, rfl⟩
  have hb1 : Below w.heap.size w w1 := by rw [hw1]; exact (Below.refl _ w).alloc (Nat.le_refl _) _
  have hk1 : w1.heap[w.heap.size]? = some (.cells (ltC M A) 28 (0, 0)) := by rw [hw1]; exact lt_new w M A
  have x1 : w1.cell? ⟨w.heap.size, 1, none⟩ = some (.int .i64 M.f) := pcell hk1 rfl
  have x2 : w1.cell? ⟨w.heap.size, 2, none⟩ = some (.int .i64 M.t) := pcell hk1 rfl
  have x3 : w1.cell? ⟨w.heap.size, 3, none⟩ = some (.int .i64 M.tm) := pcell hk1 rfl
  have h0 := isNode_any M.f w1
  have h1 := isNode_any M.t w1
  have h3 := within_any M.tm 1 999999 w1
  unfold headB
  obtain ⟨B0, hB0⟩ : ∃ B, inB M.f 1 5 = B := ⟨_, rfl⟩
  rw [hB0] at h0 ⊢
  obtain ⟨B1, hB1⟩ : ∃ B, inB M.t 1 5 = B := ⟨_, rfl⟩
  rw [hB1] at h1 ⊢
  obtain ⟨B2, hB2⟩ : ∃ B, decide (M.f ≠ M.t) = B := ⟨_, rfl⟩
  rw [hB2]
  have h2 : (M.f != M.t) = B2 := by rw [← hB2]; by_cases h : M.f = M.t <;> simp [h]
  obtain ⟨B3, hB3⟩ : ∃ B, inB M.tm 1 999999 = B := ⟨_, rfl⟩
  rw [hB3] at h3 ⊢
  have HB : Hid (Below w.heap.size w w1) := hb1
  have H0 : Hid (Calls Tryd.prog 49 #[.int .i64 M.f] w1 fun e w' => e = .returned (.bool B0) ∧ w' = w1) := h0
  have H1 : Hid (Calls Tryd.prog 49 #[.int .i64 M.t] w1 fun e w' => e = .returned (.bool B1) ∧ w' = w1) := h1
  have H3 : Hid (Calls Tryd.prog 50 #[.int .i64 M.tm, .int .i64 1, .int .i64 999999] w1 fun e w' => e = .returned (.bool B3) ∧ w' = w1) := h3
  clear hb1 hk1 hB0 hB1 hB2 hB3 h0 h1 h3
  go_enter Tryd.func26, Tryd.ntmps26
  unfold ltV
  go_upto_region 1 with fail
  rw [← hw1]
  clear hw1
  cases B0 with
  | false =>
    go_wp2_with (fail)
    refine H0.out.mono ?_
    rintro e u0 ⟨rfl, hw⟩
    subst hw
    clear H0 H1 H3
    go_wp2
    go_ret
    exact ⟨rfl, HB.out⟩
  | true =>
    cases B1 with
    | false =>
      go_wp2_with (fail)
      refine H0.out.mono ?_
      rintro e u0 ⟨rfl, hw⟩
      subst hw
      go_wp2_with (fail)
      refine H1.out.mono ?_
      rintro e u1 ⟨rfl, hw⟩
      subst hw
      clear H0 H1 H3
      go_wp2
      go_ret
      exact ⟨rfl, HB.out⟩
    | true =>
      cases B2 with
      | false =>
        go_wp2_with (fail)
        refine H0.out.mono ?_
        rintro e u0 ⟨rfl, hw⟩
        subst hw
        go_wp2_with (fail)
        refine H1.out.mono ?_
        rintro e u1 ⟨rfl, hw⟩
        subst hw
        clear H0 H1 H3
        go_wp2
        go_ret
        exact ⟨rfl, HB.out⟩
      | true =>
        cases B3 with
        | false =>
          go_wp2_with (fail)
          refine H0.out.mono ?_
          rintro e u0 ⟨rfl, hw⟩
          subst hw
          go_wp2_with (fail)
          refine H1.out.mono ?_
          rintro e u1 ⟨rfl, hw⟩
          subst hw
          go_wp2_with (fail)
          refine H3.out.mono ?_
          rintro e u3 ⟨rfl, hw⟩
          subst hw
          clear H0 H1 H3
          go_wp2
          go_ret
          exact ⟨rfl, HB.out⟩
        | true =>
          go_wp2_with (fail)
          refine H0.out.mono ?_
          rintro e u0 ⟨rfl, hw⟩
          subst hw
          go_wp2_with (fail)
          refine H1.out.mono ?_
          rintro e u1 ⟨rfl, hw⟩
          subst hw
          go_wp2_with (fail)
          refine H3.out.mono ?_
          rintro e u3 ⟨rfl, hw⟩
          subst hw
          clear H0 H1 H3
          go_wp2
          go_ret
          exact ⟨rfl, HB.out⟩

set_option maxHeartbeats 8000000 in
set_option maxRecDepth 40000 in
theorem bounds_any {w : World} (M : Lt) (A : LtA) : Calls Tryd.prog 27 #[ltV M A] w fun e w' => e = .returned (.bool (boundsB M)) ∧ Below w.heap.size w w' := by
  obtain ⟨w1, hw1⟩ : ∃ w1, w1 = w.alloc (.cells (ltC M A) 28) := ⟨_, rfl⟩
  have hb1 : Below w.heap.size w w1 := by rw [hw1]; exact (Below.refl _ w).alloc (Nat.le_refl _) _
  have hk1 : w1.heap[w.heap.size]? = some (.cells (ltC M A) 28 (0, 0)) := by rw [hw1]; exact lt_new w M A
  have x3 : w1.cell? ⟨w.heap.size, 3, none⟩ = some (.int .i64 M.tm) := pcell hk1 rfl
  have x4 : w1.cell? ⟨w.heap.size, 4, none⟩ = some (.int .i64 M.i) := pcell hk1 rfl
  have x5 : w1.cell? ⟨w.heap.size, 5, none⟩ = some (.int .i64 M.lt) := pcell hk1 rfl
  have x6 : w1.cell? ⟨w.heap.size, 6, none⟩ = some (.int .i64 M.cm) := pcell hk1 rfl
  have x7 : w1.cell? ⟨w.heap.size, 7, none⟩ = some (.int .i64 M.rd) := pcell hk1 rfl
  have h0 := within_any M.i 0 999999 w1
  have h1 := within_any M.cm 0 999999 w1
  have h2 := within_any M.lt 0 M.tm w1
  have h3 := within_any M.rd 0 1073741824 w1
  unfold boundsB
  obtain ⟨B0, hB0⟩ : ∃ B, inB M.i 0 999999 = B := ⟨_, rfl⟩
  rw [hB0] at h0 ⊢
  obtain ⟨B1, hB1⟩ : ∃ B, inB M.cm 0 999999 = B := ⟨_, rfl⟩
  rw [hB1] at h1 ⊢
  obtain ⟨B2, hB2⟩ : ∃ B, inB M.lt 0 M.tm = B := ⟨_, rfl⟩
  rw [hB2] at h2 ⊢
  obtain ⟨B3, hB3⟩ : ∃ B, inB M.rd 0 1073741824 = B := ⟨_, rfl⟩
  rw [hB3] at h3 ⊢
  have HB : Hid (Below w.heap.size w w1) := hb1
  have H0 : Hid (Calls Tryd.prog 50 #[.int .i64 M.i, .int .i64 0, .int .i64 999999] w1 fun e w' => e = .returned (.bool B0) ∧ w' = w1) := h0
  have H1 : Hid (Calls Tryd.prog 50 #[.int .i64 M.cm, .int .i64 0, .int .i64 999999] w1 fun e w' => e = .returned (.bool B1) ∧ w' = w1) := h1
  have H2 : Hid (Calls Tryd.prog 50 #[.int .i64 M.lt, .int .i64 0, .int .i64 M.tm] w1 fun e w' => e = .returned (.bool B2) ∧ w' = w1) := h2
  have H3 : Hid (Calls Tryd.prog 50 #[.int .i64 M.rd, .int .i64 0, .int .i64 1073741824] w1 fun e w' => e = .returned (.bool B3) ∧ w' = w1) := h3
  clear hb1 hk1 hB0 hB1 hB2 hB3 h0 h1 h2 h3
  go_enter Tryd.func27, Tryd.ntmps27
  unfold ltV
  go_upto_region 1 with fail
  rw [← hw1]
  clear hw1
  cases B0 with
  | false =>
    go_wp2_with (fail)
    refine H0.out.mono ?_
    rintro e u0 ⟨rfl, hw⟩
    subst hw
    clear H0 H1 H2 H3
    go_wp2
    go_ret
    exact ⟨rfl, HB.out⟩
  | true =>
    cases B1 with
    | false =>
      go_wp2_with (fail)
      refine H0.out.mono ?_
      rintro e u0 ⟨rfl, hw⟩
      subst hw
      go_wp2_with (fail)
      refine H1.out.mono ?_
      rintro e u1 ⟨rfl, hw⟩
      subst hw
      clear H0 H1 H2 H3
      go_wp2
      go_ret
      exact ⟨rfl, HB.out⟩
    | true =>
      cases B2 with
      | false =>
        go_wp2_with (fail)
        refine H0.out.mono ?_
        rintro e u0 ⟨rfl, hw⟩
        subst hw
        go_wp2_with (fail)
        refine H1.out.mono ?_
        rintro e u1 ⟨rfl, hw⟩
        subst hw
        go_wp2_with (fail)
        refine H2.out.mono ?_
        rintro e u2 ⟨rfl, hw⟩
        subst hw
        clear H0 H1 H2 H3
        go_wp2
        go_ret
        exact ⟨rfl, HB.out⟩
      | true =>
        cases B3 with
        | false =>
          go_wp2_with (fail)
          refine H0.out.mono ?_
          rintro e u0 ⟨rfl, hw⟩
          subst hw
          go_wp2_with (fail)
          refine H1.out.mono ?_
          rintro e u1 ⟨rfl, hw⟩
          subst hw
          go_wp2_with (fail)
          refine H2.out.mono ?_
          rintro e u2 ⟨rfl, hw⟩
          subst hw
          go_wp2_with (fail)
          refine H3.out.mono ?_
          rintro e u3 ⟨rfl, hw⟩
          subst hw
          clear H0 H1 H2 H3
          go_wp2
          go_ret
          exact ⟨rfl, HB.out⟩
        | true =>
          go_wp2_with (fail)
          refine H0.out.mono ?_
          rintro e u0 ⟨rfl, hw⟩
          subst hw
          go_wp2_with (fail)
          refine H1.out.mono ?_
          rintro e u1 ⟨rfl, hw⟩
          subst hw
          go_wp2_with (fail)
          refine H2.out.mono ?_
          rintro e u2 ⟨rfl, hw⟩
          subst hw
          go_wp2_with (fail)
          refine H3.out.mono ?_
          rintro e u3 ⟨rfl, hw⟩
          subst hw
          clear H0 H1 H2 H3
          go_wp2
          go_ret
          exact ⟨rfl, HB.out⟩
end Go.Proofs.YtmlihlnigojmpaaDoor
