/- Is a letter large: it is told. -/
import Derived.Test.YtmlihlnigojmpaaDoorWSh17
set_option linter.unusedVariables false
namespace Go.Proofs.YtmlihlnigojmpaaDoor
open Go.RowKit

def BoolQ (w : World) (e : Ending) (w' : World) : Prop := (∃ B, e = .returned (.bool B)) ∧ Below w.heap.size w w'

set_option maxHeartbeats 8000000 in
set_option maxRecDepth 40000 in
theorem large_any {w : World} (M : Lt) (A : LtA) (h : LtW w M A) : Calls Tryd.prog 8 #[ltV M A] w (BoolQ w) := by
  obtain ⟨w1, hw1⟩ : ∃ w1, w1 = w.alloc (.cells (ltC M A) 28) := ⟨_, rfl⟩
  have hb1 : Below w.heap.size w w1 := by rw [hw1]; exact (Below.refl _ w).alloc (Nat.le_refl _) _
  have hk1 : w1.heap[w.heap.size]? = some (.cells (ltC M A) 28 (0, 0)) := by rw [hw1]; exact lt_new w M A
  obtain ⟨en, hen⟩ : ∃ n, M.es.length = n := ⟨_, rfl⟩
  obtain ⟨ea, hea⟩ : ∃ ea, A.ea = ea := ⟨_, rfl⟩
  have x9 : w1.cell? ⟨w.heap.size, 9, none⟩ = some (.slice ea en A.ec) := by rw [← hen, ← hea]; exact pcell hk1 rfl
  have x12 : w1.cell? ⟨w.heap.size, 12, none⟩ = some (.slice A.na M.ns.length A.nc) := pcell hk1 rfl
  have x13 : w1.cell? ⟨w.heap.size, 13, none⟩ = some (.slice A.da M.da.length A.dc) := pcell hk1 rfl
  have be : (en : Int) ≤ 140737488355328 := by have := h.el; omega
  have bn : (M.ns.length : Int) ≤ 140737488355328 := by have := h.nl; omega
  have bd : (M.da.length : Int) ≤ 140737488355328 := by have := h.dl; omega
  have HZ : Hid (EnRow w1 ea M.es ∧ M.es.length = en ∧ Below w.heap.size w w1 ∧ w1.heap[w.heap.size]? = some (.cells (ltC M A) 28 (0, 0)) ∧ A.ea = ea) := ⟨hea ▸ (h.below hb1).es, hen, hb1, hk1, hea⟩
  clear h hb1 hk1 hen hea
  go_enter Tryd.func8, Tryd.ntmps8
  unfold ltV
  go_upto_region 1 with fail
  rw [← hw1]
  clear hw1
  go_wp2_with fail
  have HX9 : Hid (∀ u, Below w1.heap.size w1 u → u.cell? ⟨w.heap.size, 9, none⟩ = some (.slice ea en A.ec)) := fun u hu => by rw [← HZ.out.2.1, ← HZ.out.2.2.2.2]; exact lt_cell HZ.out.2.2.2.1 hu rfl
  go_loopw [3, 4] (fun nv i wr => ∃ (n j : Nat), nv = .int .i64 (n : Int) ∧ i = .int .i64 (j : Int) ∧ j ≤ en ∧ n ≤ 562949953821312 ∧ Hid (Below w1.heap.size w1 wr)) (fun _ i _ => en - (intOf i).toNat)
  case atStart => exact ⟨M.da.length + M.ns.length, 0, by simp, rfl, Nat.zero_le _, by omega, Below.refl _ _⟩
  case round =>
    obtain ⟨n, j, rfl, rfl, hj, hn, HB⟩ := hrel
    have y9 := HX9.out wr HB.out
    have HBw : Hid (Below w.heap.size w wr) := HZ.out.2.2.1.trans (HB.out.mono HZ.out.2.2.1.size)
    by_cases hlt : j < en
    · by_cases hs : n ≤ 400000
      · obtain ⟨e, he⟩ : ∃ e, M.es[j]? = some e := ⟨M.es[j]'(by have := HZ.out.2.1; omega), List.getElem?_eq_getElem _⟩
        obtain ⟨g, o, da, dc, na, nc, hx, hat⟩ := (HZ.out.1.below HB.out) j e he
        have c3 := hat.c3
        have c4 := hat.c4
        have b3 : (e.data.length : Int) ≤ 140737488355328 := by have := hat.dl; omega
        have b4 : (e.nodes.length : Int) ≤ 140737488355328 := by have := hat.nl; omega
        have b3n : e.data.length ≤ 140737488355328 := hat.dl
        have b4n : e.nodes.length ≤ 140737488355328 := hat.nl
        have q1 : (n : Int) ≤ 400000 := by omega
        subst hx
        clear he hat
        go_wp2_with fail
        go_quiet (fail)
        go_wp2_with fail
        go_roundw
        case rel => exact ⟨n + 400 + e.data.length + e.nodes.length, j + 1, by first | rfl | go_num | (congr 1; omega), by first | rfl | go_num, by omega, by omega, HB.out.trans ((blk_drew (w := wr) nq).mono HB.out.size)⟩
        case measure => simp [intOf]; omega
      · have q1 : ¬ (n : Int) ≤ 400000 := by omega
        go_wp2_with fail
        go_ret
        exact ⟨⟨_, rfl⟩, HBw.out⟩
    · go_wp2_with fail
      go_ret
      exact ⟨⟨_, rfl⟩, HBw.out⟩
end Go.Proofs.YtmlihlnigojmpaaDoor
