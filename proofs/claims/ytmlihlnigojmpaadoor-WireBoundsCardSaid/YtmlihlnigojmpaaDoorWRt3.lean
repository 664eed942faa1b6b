/- Letters: what stands where nothing may stand, and what a Kind has beside numbers: walked. -/
import Derived.Test.YtmlihlnigojmpaaDoorWRt2
set_option linter.unusedVariables false
namespace Go.Proofs.YtmlihlnigojmpaaDoor
open Go.RowKit

def mayB (M : Lt) : Bool := if M.k = 1 ∨ M.k = 2 ∨ M.k = 4 then true else if M.k = 3 then decide (M.es.length ≤ 4) && goB M.tm M.i M.lt M.es else if M.k = 5 then snapB M.sx M.st M.ns M.da.length && decide (M.st ≤ M.tm) else false
def numB (M : Lt) : Bool := (M.i == 0) && (M.lt == 0) && (M.cm == 0) && (M.rd == 0)
def snpB (M : Lt) : Bool := (M.sx == 0) && (M.st == 0) && ((M.ns.length : Int) == 0) && ((M.da.length : Int) == 0)
def nilB (M : Lt) : Bool := numB M && !M.ok && ((M.es.length : Int) == 0) && snpB M

set_option maxHeartbeats 8000000 in
set_option maxRecDepth 40000 in
theorem nothing_any {w : World} (M : Lt) (A : LtA) (hl : M.es.length ≤ 140737488355328 ∧ M.ns.length ≤ 140737488355328 ∧ M.da.length ≤ 140737488355328) : Calls Tryd.prog 29 #[ltV M A] w fun e w' => e = .returned (.bool (nilB M)) ∧ Below w.heap.size w w' := by
  obtain ⟨w1, hw1⟩ : ∃ w1, w1 = w.alloc (.cells (ltC M A) 28) := ⟨_, rfl⟩
  have hb1 : Below w.heap.size w w1 := by rw [hw1]; exact (Below.refl _ w).alloc (Nat.le_refl _) _
  have hk1 : w1.heap[w.heap.size]? = some (.cells (ltC M A) 28 (0, 0)) := by rw [hw1]; exact lt_new w M A
  have x4 : w1.cell? ⟨w.heap.size, 4, none⟩ = some (.int .i64 M.i) := pcell hk1 rfl
  have x5 : w1.cell? ⟨w.heap.size, 5, none⟩ = some (.int .i64 M.lt) := pcell hk1 rfl
  have x6 : w1.cell? ⟨w.heap.size, 6, none⟩ = some (.int .i64 M.cm) := pcell hk1 rfl
  have x7 : w1.cell? ⟨w.heap.size, 7, none⟩ = some (.int .i64 M.rd) := pcell hk1 rfl
  have HK : Hid (w1.heap[w.heap.size]? = some (.cells (ltC M A) 28 (0, 0)) ∧ Below w.heap.size w w1) := ⟨hk1, hb1⟩
  obtain ⟨en, hen⟩ : ∃ en, M.es.length = en := ⟨_, rfl⟩
  obtain ⟨nn, hnn⟩ : ∃ nn, M.ns.length = nn := ⟨_, rfl⟩
  obtain ⟨dn, hdn⟩ : ∃ dn, M.da.length = dn := ⟨_, rfl⟩
  have HL : Hid (M.es.length = en ∧ M.ns.length = nn ∧ M.da.length = dn) := ⟨hen, hnn, hdn⟩
  obtain ⟨NB, hNB⟩ : ∃ NB, numB M = NB := ⟨_, rfl⟩
  obtain ⟨SB, hSB⟩ : ∃ SB, snpB M = SB := ⟨_, rfl⟩
  have HN : Hid (((M.i == 0) && (M.lt == 0) && (M.cm == 0) && (M.rd == 0)) = NB) := hNB
  have HS : Hid (((M.sx == 0) && (M.st == 0) && ((nn : Int) == 0) && ((dn : Int) == 0)) = SB) := by
    show _ = SB
    rw [← hSB, snpB, hnn, hdn]
  have HR : Hid (nilB M = (NB && !M.ok && ((en : Int) == 0) && SB)) := by
    show _ = _
    rw [nilB, hNB, hSB, hen]
  have be : (en : Int) ≤ 140737488355328 := by omega
  have bn : (nn : Int) ≤ 140737488355328 := by omega
  have bd : (dn : Int) ≤ 140737488355328 := by omega
  clear hb1 hk1 hNB hSB hen hnn hdn hl
  go_enter Tryd.func29, Tryd.ntmps29
  unfold ltV
  go_upto_region 1 with fail
  rw [← hw1]
  clear hw1
  go_cut [3] from 6 to 24 (fun X wx => X = .bool NB ∧ wx = w1)
  case first =>
    obtain ⟨a0, ha0⟩ : ∃ b, (M.i == 0) = b := ⟨_, rfl⟩
    obtain ⟨a1, ha1⟩ : ∃ b, (M.lt == 0) = b := ⟨_, rfl⟩
    obtain ⟨a2, ha2⟩ : ∃ b, (M.cm == 0) = b := ⟨_, rfl⟩
    obtain ⟨a3, ha3⟩ : ∃ b, (M.rd == 0) = b := ⟨_, rfl⟩
    rw [ha0, ha1, ha2, ha3] at HN
    cases a0 with
    | false =>
      clear HS HR
      go_wp2_with fail
      go_meet
      exact ⟨by rw [← HN.out]; rfl, rfl⟩
    | true =>
      cases a1 with
      | false =>
        clear HS HR
        go_wp2_with fail
        go_meet
        exact ⟨by rw [← HN.out]; rfl, rfl⟩
      | true =>
        cases a2 with
        | false =>
          clear HS HR
          go_wp2_with fail
          go_meet
          exact ⟨by rw [← HN.out]; rfl, rfl⟩
        | true =>
          clear HS HR
          go_wp2_with fail
          go_meet
          exact ⟨by rw [← HN.out]; rfl, rfl⟩
  case rest =>
    obtain ⟨rfl, rfl⟩ := hcut
    generalize wc = V at *
    obtain ⟨w2, hw2⟩ : ∃ w2, w2 = V.alloc (.cells #[.int .i64 M.sx, .int .i64 M.st, .slice A.na nn A.nc, .slice A.da dn A.dc] 26) := ⟨_, rfl⟩
    have hb2 : Below V.heap.size V w2 := by rw [hw2]; exact (Below.refl _ V).alloc (Nat.le_refl _) _
    have hk2 : w2.heap[V.heap.size]? = some (.cells #[.int .i64 M.sx, .int .i64 M.st, .slice A.na nn A.nc, .slice A.da dn A.dc] 26 (0, 0)) := by rw [hw2]; exact heap_alloc_new _ _
    have x10 : V.cell? ⟨w.heap.size, 10, none⟩ = some (.int .i64 M.sx) := pcell HK.out.1 rfl
    have x11 : V.cell? ⟨w.heap.size, 11, none⟩ = some (.int .i64 M.st) := pcell HK.out.1 rfl
    have x12 : V.cell? ⟨w.heap.size, 12, none⟩ = some (.slice A.na nn A.nc) := by rw [← HL.out.2.1]; exact pcell HK.out.1 rfl
    have x13 : V.cell? ⟨w.heap.size, 13, none⟩ = some (.slice A.da dn A.dc) := by rw [← HL.out.2.2]; exact pcell HK.out.1 rfl
    have z8 : w2.cell? ⟨w.heap.size, 8, none⟩ = some (.bool M.ok) := lt_cell HK.out.1 hb2 rfl
    have z9 : w2.cell? ⟨w.heap.size, 9, none⟩ = some (.slice A.ea en A.ec) := by rw [← HL.out.1]; exact lt_cell HK.out.1 hb2 rfl
    have HB2 : Hid (Below w.heap.size w w2) := HK.out.2.trans (hb2.mono HK.out.2.size)
    have y0 : w2.cell? ⟨V.heap.size, 0, none⟩ = some (.int .i64 M.sx) := pcell hk2 rfl
    have y1 : w2.cell? ⟨V.heap.size, 1, none⟩ = some (.int .i64 M.st) := pcell hk2 rfl
    have y2 : w2.cell? ⟨V.heap.size, 2, none⟩ = some (.slice A.na nn A.nc) := pcell hk2 rfl
    have y3 : w2.cell? ⟨V.heap.size, 3, none⟩ = some (.slice A.da dn A.dc) := pcell hk2 rfl
    clear x4 x5 x6 x7 hb2 hk2 HN
    go_upto_region 3 with fail
    rw [← hw2]
    clear hw2 x10 x11 x12 x13 HK
    go_cut [5] from 26 to 46 (fun X wx => X = .bool SB ∧ wx = w2)
    case first =>
      obtain ⟨a0, ha0⟩ : ∃ b, (M.sx == 0) = b := ⟨_, rfl⟩
      obtain ⟨a1, ha1⟩ : ∃ b, (M.st == 0) = b := ⟨_, rfl⟩
      obtain ⟨a2, ha2⟩ : ∃ b, ((nn : Int) == 0) = b := ⟨_, rfl⟩
      obtain ⟨a3, ha3⟩ : ∃ b, ((dn : Int) == 0) = b := ⟨_, rfl⟩
      rw [ha0, ha1, ha2, ha3] at HS
      cases a0 with
      | false =>
        clear HR HL
        go_wp2_with fail
        go_meet
        exact ⟨by rw [← HS.out]; rfl, rfl⟩
      | true =>
        cases a1 with
        | false =>
          clear HR HL
          go_wp2_with fail
          go_meet
          exact ⟨by rw [← HS.out]; rfl, rfl⟩
        | true =>
          cases a2 with
          | false =>
            clear HR HL
            go_wp2_with fail
            go_meet
            exact ⟨by rw [← HS.out]; rfl, rfl⟩
          | true =>
            clear HR HL
            go_wp2_with fail
            go_meet
            exact ⟨by rw [← HS.out]; rfl, rfl⟩
    case rest =>
      obtain ⟨rfl, rfl⟩ := hcut
      generalize wc = U at *
      clear HS y0 y1 y2 y3
      obtain ⟨a2, ha2⟩ : ∃ b, ((en : Int) == 0) = b := ⟨_, rfl⟩
      obtain ⟨a1, ha1⟩ : ∃ b, M.ok = b := ⟨_, rfl⟩
      rw [ha2, ha1] at HR
      rw [ha1] at z8
      cases NB with
      | false =>
        go_wp2_with fail
        go_ret
        exact ⟨by rw [HR.out]; rfl, HB2.out⟩
      | true =>
        cases a1 with
        | true =>
          go_wp2_with fail
          go_ret
          exact ⟨by rw [HR.out]; rfl, HB2.out⟩
        | false =>
          cases a2 with
          | false =>
            go_wp2_with fail
            go_ret
            exact ⟨by rw [HR.out]; rfl, HB2.out⟩
          | true =>
            go_wp2_with fail
            go_ret
            exact ⟨by rw [HR.out]; rfl, HB2.out⟩
end Go.Proofs.YtmlihlnigojmpaaDoor
