/- Entries: which may be. -/
import Derived.Test.YtmlihlnigojmpaaDoorPMay
set_option linter.unusedVariables false
namespace Go.Proofs.YtmlihlnigojmpaaDoor
open Go.RowKit

abbrev enV (i t k : Int) (da : Option Addr) (dn dc : Nat) (na : Option Addr) (nn nc : Nat) : Value := .agg #[.int .i64 i, .int .i64 t, .int .i64 k, .slice da dn dc, .slice na nn nc]
set_option maxHeartbeats 4000000 in
set_option maxRecDepth 20000 in
theorem mayE_any {w : World} (i t k : Int) {da na : Option Addr} {dn dc nn nc : Nat} {zs : List Int} (h : NRow w na zs) (hn : zs.length = nn) (hn2 : nn ≤ 140737488355328) (hd : dn ≤ 140737488355328) :
    Calls Tryd.prog 69 #[enV i t k da dn dc na nn nc] w fun e w' => e = .returned (.bool (mayEB t k dn zs)) ∧ Below w.heap.size w w' := by
  obtain ⟨R, hR⟩ : ∃ R, mayEB t k dn zs = R := ⟨_, rfl⟩
  rw [hR]
  obtain ⟨wb, hwb⟩ : ∃ wb, wb = w.alloc (.cells #[.int .i64 i, .int .i64 t, .int .i64 k, .slice da dn dc, .slice na nn nc] 45) := ⟨_, rfl⟩
  have hbb : Below w.heap.size w wb := by rw [hwb]; exact (Below.refl _ w).alloc (Nat.le_refl _) _
  have hblk : wb.heap[w.heap.size]? = some (.cells #[.int .i64 i, .int .i64 t, .int .i64 k, .slice da dn dc, .slice na nn nc] 45 (0, 0)) := by rw [hwb]; exact heap_alloc_new _ _
  have y1 : wb.cell? ⟨w.heap.size, 1, none⟩ = some (.int .i64 t) := pcell hblk rfl
  have y2 : wb.cell? ⟨w.heap.size, 2, none⟩ = some (.int .i64 k) := pcell hblk rfl
  have y3 : wb.cell? ⟨w.heap.size, 3, none⟩ = some (.slice da dn dc) := pcell hblk rfl
  have y4 : wb.cell? ⟨w.heap.size, 4, none⟩ = some (.slice na nn nc) := pcell hblk rfl
  have hW := within_any t 1 999999 wb
  have hG : Hid (Calls Tryd.prog 70 #[.slice na nn nc] wb fun e w' => e = .returned (.bool (groupB zs)) ∧ w' = wb) := isGroup_any (h.below hbb) hn hn2
  have HB : Hid (Below w.heap.size w wb) := hbb
  have HZ : Hid (zs.isEmpty = decide (nn = 0)) := by
    show zs.isEmpty = _
    rw [← hn]
    cases zs <;> simp
  have bdn : (dn : Int) ≤ 140737488355328 := by omega
  have bnn : (nn : Int) ≤ 140737488355328 := by omega
  obtain ⟨A, hA⟩ : ∃ A, inB t 1 999999 = A := ⟨_, rfl⟩
  unfold mayEB at hR
  rw [hA, HZ.out] at hR
  rw [hA] at hW
  clear h hn hn2 hd hbb hblk hA
  cases A with
  | false =>
    have HR : Hid (R = false) := by show R = false; rw [← hR]; rfl
    clear hR
    go_enter Tryd.func69, Tryd.ntmps69
    go_wp2_with (fail)
    rw [← hwb]
    clear hwb
    refine hW.mono ?_
    rintro e w1 ⟨rfl, hw⟩
    subst hw
    clear hW y1 y2 y3 y4
    go_wp2
    go_ret
    exact ⟨by rw [HR.out]; rfl, HB.out⟩
  | true =>
    rw [Bool.true_and] at hR
    go_enter Tryd.func69, Tryd.ntmps69
    go_wp2_with (fail)
    rw [← hwb]
    clear hwb
    refine hW.mono ?_
    rintro e w1 ⟨rfl, hw⟩
    subst hw
    clear hW
    by_cases h0 : k = 0
    · subst h0
      rw [if_pos rfl] at hR
      by_cases hd0 : dn = 0
      · subst hd0
        by_cases hn0 : nn = 0
        · subst hn0
          have HR : Hid (R = true) := by show R = true; rw [← hR]; rfl
          clear hR
          go_wp2
          go_ret
          exact ⟨by rw [HR.out]; rfl, HB.out⟩
        · have HR : Hid (R = false) := by show R = false; rw [← hR]; simp [hn0]
          have q1 : ((nn : Int) == 0) = false := by simp; omega
          clear hR hn0
          go_wp2
          go_ret
          exact ⟨by rw [HR.out]; rfl, HB.out⟩
      · have HR : Hid (R = false) := by show R = false; rw [← hR]; simp [hd0]
        have q1 : ((dn : Int) == 0) = false := by simp; omega
        clear hR hd0
        go_wp2
        go_ret
        exact ⟨by rw [HR.out]; rfl, HB.out⟩
    · rw [if_neg h0] at hR
      by_cases h1 : k = 1
      · subst h1
        rw [if_pos rfl] at hR
        by_cases hd0 : dn ≤ 8000
        · have q2 : (dn : Int) ≤ 8000 := by omega
          by_cases hn0 : nn = 0
          · subst hn0
            have HR : Hid (R = true) := by show R = true; rw [← hR]; simp [hd0]
            clear hR hd0 h0
            go_wp2
            go_ret
            exact ⟨by rw [HR.out]; rfl, HB.out⟩
          · have HR : Hid (R = false) := by show R = false; rw [← hR]; simp [hn0]
            have q1 : ((nn : Int) == 0) = false := by simp; omega
            clear hR hn0 hd0 h0
            go_wp2
            go_ret
            exact ⟨by rw [HR.out]; rfl, HB.out⟩
        · have HR : Hid (R = false) := by show R = false; rw [← hR]; simp [hd0]
          have q2 : ¬ (dn : Int) ≤ 8000 := by omega
          clear hR hd0 h0
          go_wp2
          go_ret
          exact ⟨by rw [HR.out]; rfl, HB.out⟩
      · rw [if_neg h1] at hR
        by_cases h2 : k = 2
        · subst h2
          rw [if_pos rfl] at hR
          by_cases hd0 : dn = 0
          · subst hd0
            have HR : Hid (R = groupB zs) := by show R = groupB zs; rw [← hR]; rfl
            obtain ⟨GB, hGB⟩ : ∃ GB, groupB zs = GB := ⟨_, rfl⟩
            rw [hGB] at hG HR
            clear hR h0 h1 hGB
            go_wp2_with (fail)
            refine hG.out.mono ?_
            rintro e w2 ⟨rfl, hw⟩
            subst hw
            clear hG
            go_wp2
            go_ret
            exact ⟨by rw [HR.out]; rfl, HB.out⟩
          · have HR : Hid (R = false) := by show R = false; rw [← hR]; simp [hd0]
            have q1 : ((dn : Int) == 0) = false := by simp; omega
            clear hR hd0 h0 h1
            go_wp2
            go_ret
            exact ⟨by rw [HR.out]; rfl, HB.out⟩
        · rw [if_neg h2] at hR
          have HR : Hid (R = false) := hR.symm
          have q0 : (k == 0) = false := by simp; omega
          have q1 : (k == 1) = false := by simp; omega
          have q2 : (k == 2) = false := by simp; omega
          clear hR h0 h1 h2
          go_wp2
          go_ret
          exact ⟨by rw [HR.out]; rfl, HB.out⟩

/-- An entry. -/
structure En where
  idx : Int
  term : Int
  kind : Int
  data : List UInt8
  nodes : List Int
abbrev En.B (e : En) : Bool := mayEB e.term e.kind e.data.length e.nodes
/-- Entries in memory, that may be read. -/
structure EnAt (w : World) (g p : Nat) (e : En) (da : Option Addr) (dc : Nat) (na : Option Addr) (nc : Nat) : Prop where
  c0 : w.cell? ⟨g, p, none⟩ = some (.int .i64 e.idx)
  c1 : w.cell? ⟨g, p + 1, none⟩ = some (.int .i64 e.term)
  c2 : w.cell? ⟨g, p + 2, none⟩ = some (.int .i64 e.kind)
  c3 : w.cell? ⟨g, p + 3, none⟩ = some (.slice da e.data.length dc)
  c4 : w.cell? ⟨g, p + 4, none⟩ = some (.slice na e.nodes.length nc)
  row : BRow w da e.data.length dc e.data
  nod : NRow w na e.nodes
  dl : e.data.length ≤ 140737488355328
  nl : e.nodes.length ≤ 140737488355328
  ri : -9223372036854775808 ≤ e.idx ∧ e.idx ≤ 9223372036854775807
  rt : -9223372036854775808 ≤ e.term ∧ e.term ≤ 9223372036854775807
  rk : -9223372036854775808 ≤ e.kind ∧ e.kind ≤ 9223372036854775807
def EnRow (w : World) (a : Option Addr) (es : List En) : Prop := ∀ j e, es[j]? = some e → ∃ g o da dc na nc, a = some ⟨g, o, none⟩ ∧ EnAt w g (o + j * 5) e da dc na nc
theorem EnAt.below {w w' : World} {g p : Nat} {e : En} {da : Option Addr} {dc : Nat} {na : Option Addr} {nc : Nat} (h : EnAt w g p e da dc na nc) (hb : Below w.heap.size w w') : EnAt w' g p e da dc na nc := by
  have hc : ∀ {a : Addr} {v : Value}, w.cell? a = some v → w'.cell? a = some v := fun hc => by rw [hb.cell (World.block_lt_of_cell? w _ hc)]; exact hc
  exact { c0 := hc h.c0, c1 := hc h.c1, c2 := hc h.c2, c3 := hc h.c3, c4 := hc h.c4, row := h.row.below hb, nod := h.nod.below hb, dl := h.dl, nl := h.nl, ri := h.ri, rt := h.rt, rk := h.rk }
theorem EnRow.below {w w' : World} {a : Option Addr} {es : List En} (h : EnRow w a es) (hb : Below w.heap.size w w') : EnRow w' a es := fun j e hj => by
  obtain ⟨g, o, da, dc, na, nc, h1, h2⟩ := h j e hj
  exact ⟨g, o, da, dc, na, nc, h1, h2.below hb⟩
end Go.Proofs.YtmlihlnigojmpaaDoor
