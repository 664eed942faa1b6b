/- Letters: entries that go on from where the letter says: walked. -/
import Derived.Test.YthpmfmidhmclbaaDoorWRt1
set_option linter.unusedVariables false
namespace Go.Proofs.YthpmfmidhmclbaaDoor
open Go.RowKit

/-- Do entries go on from an Index, a term, up to a term? -/
def goB (top : Int) : Int → Int → List En → Bool
  | _, _, [] => true
  | i, t, e :: r => e.B && decide (e.idx = i + 1) && inB e.term t top && goB top (i + 1) e.term r

theorem lt_cell {w1 w : World} {b : Nat} {cs : Array Value} {T : TypeId} (h : w1.heap[b]? = some (.cells cs T (0, 0))) (hb : Below w1.heap.size w1 w) {i : Nat} {v : Value} (hi : cs[i]? = some v) : w.cell? ⟨b, i, none⟩ = some v := pcell (blk_below h hb) hi

set_option maxHeartbeats 8000000 in
set_option maxRecDepth 40000 in
theorem wgoOn_any {w : World} (M : Lt) (A : LtA) (h : EnRow w A.ea M.es) (hn2 : M.es.length ≤ 140737488355328) (hi : 0 ≤ M.i ∧ M.i ≤ 999999) :
    Calls Tryd.prog 51 #[ltV M A] w fun e w' => e = .returned (.bool (goB M.tm M.i M.lt M.es)) ∧ Below w.heap.size w w' := by
  obtain ⟨w1, hw1⟩ : ∃ w1, w1 = w.alloc (.cells (ltC M A) 28) := ⟨_, rfl⟩
  have hb1 : Below w.heap.size w w1 := by rw [hw1]; exact (Below.refl _ w).alloc (Nat.le_refl _) _
  have hk1 : w1.heap[w.heap.size]? = some (.cells (ltC M A) 28 (0, 0)) := by rw [hw1]; exact lt_new w M A
  obtain ⟨R, hR⟩ : ∃ R, goB M.tm M.i M.lt M.es = R := ⟨_, rfl⟩
  rw [hR]
  have HR : Hid (goB M.tm M.i M.lt M.es = R) := hR
  obtain ⟨n, hn⟩ : ∃ n, M.es.length = n := ⟨_, rfl⟩
  have HZ : Hid (EnRow w1 A.ea M.es ∧ M.es.length = n) := ⟨h.below hb1, hn⟩
  have HB : Hid (Below w.heap.size w w1) := hb1
  have bn : (n : Int) ≤ 140737488355328 := by omega
  have i0 : 0 ≤ M.i := hi.1
  have i1 : M.i ≤ 999999 := hi.2
  have x4 : w1.cell? ⟨w.heap.size, 4, none⟩ = some (.int .i64 M.i) := pcell hk1 rfl
  have x5 : w1.cell? ⟨w.heap.size, 5, none⟩ = some (.int .i64 M.lt) := pcell hk1 rfl
  have x9 : w1.cell? ⟨w.heap.size, 9, none⟩ = some (.slice A.ea n A.ec) := by rw [← hn]; exact pcell hk1 rfl
  have HK : Hid (w1.heap[w.heap.size]? = some (.cells (ltC M A) 28 (0, 0))) := hk1
  obtain ⟨ea, hea⟩ : ∃ ea, A.ea = ea := ⟨_, rfl⟩
  rw [hea] at HZ x9
  clear h hn hn2 hR hk1 hb1 hi hea
  go_enter Tryd.func51, Tryd.ntmps51
  unfold ltV
  go_upto_region 1 with fail
  rw [← hw1]
  clear hw1
  go_quiet (fail)
  go_wp2_with (fail)
  have X3 : Hid (∀ u, Below w1.heap.size w1 u → u.cell? ⟨w.heap.size, 3, none⟩ = some (.int .i64 M.tm)) := fun u hu => lt_cell HK.out hu rfl
  go_loopw [3, 4, 14] (fun ix tv i wr => ∃ (j : Nat) (t : Int), ix = .int .i64 (M.i + (j : Int)) ∧ tv = .int .i64 t ∧ i = .int .i64 (j : Int) ∧ j ≤ n ∧ Hid (goB M.tm M.i M.lt M.es = goB M.tm (M.i + (j : Int)) t (M.es.drop j)) ∧ Hid (Below w1.heap.size w1 wr)) (fun _ _ i _ => n - (intOf i).toNat)
  case atStart => exact ⟨0, M.lt, by simp, rfl, rfl, Nat.zero_le _, by simp [Hid], (Below.refl _ w1).trans (blk_drew nq)⟩
  case round =>
    obtain ⟨j, t, rfl, rfl, rfl, hj, HG, HBr⟩ := hrel
    by_cases hlt : j < n
    · obtain ⟨e, he⟩ : ∃ e, M.es[j]? = some e := ⟨M.es[j]'(by have := HZ.out.2; omega), List.getElem?_eq_getElem _⟩
      have hdr : M.es.drop j = e :: M.es.drop (j + 1) := by
        have hl := (List.getElem?_eq_some_iff.1 he).1
        rw [List.drop_eq_getElem_cons hl]
        congr 1
        exact (List.getElem?_eq_some_iff.1 he).2
      obtain ⟨g, o, da, dc, na, nc, hx, hat⟩ := (HZ.out.1.below HBr.out) j e he
      obtain ⟨B, hB⟩ : ∃ B, e.B = B := ⟨_, rfl⟩
      obtain ⟨C, hC⟩ : ∃ C, inB e.term t M.tm = C := ⟨_, rfl⟩
      obtain ⟨D, hD⟩ : ∃ D, decide (e.idx = M.i + (j : Int) + 1) = D := ⟨_, rfl⟩
      have HG2 : Hid (goB M.tm M.i M.lt M.es = (B && D && C && goB M.tm (M.i + ((j + 1 : Nat) : Int)) e.term (M.es.drop (j + 1)))) := by
        show _ = _
        rw [HG.out, hdr, goB, hB, hC, hD]
        congr 2
        omega
      obtain ⟨w2, hw2⟩ : ∃ w2, w2 = wr.alloc (.cells #[.int .i64 e.idx, .int .i64 e.term, .int .i64 e.kind, .slice da e.data.length dc, .slice na e.nodes.length nc] 45) := ⟨_, rfl⟩
      have hb2 : Below wr.heap.size wr w2 := by rw [hw2]; exact (Below.refl _ wr).alloc (Nat.le_refl _) _
      have hk2 : w2.heap[wr.heap.size]? = some (.cells #[.int .i64 e.idx, .int .i64 e.term, .int .i64 e.kind, .slice da e.data.length dc, .slice na e.nodes.length nc] 45 (0, 0)) := by rw [hw2]; exact heap_alloc_new _ _
      have hb12 : Below w1.heap.size w1 w2 := HBr.out.trans (hb2.mono HBr.out.size)
      have hM := mayE_any (w := w2) e.idx e.term e.kind (da := da) (dn := e.data.length) (dc := dc) (na := na) (nc := nc) (hat.nod.below hb2) rfl hat.nl hat.dl
      rw [show mayEB e.term e.kind e.data.length e.nodes = B from hB] at hM
      have c0 := hat.c0
      have c1 := hat.c1
      have c2 := hat.c2
      have c3 := hat.c3
      have c4 := hat.c4
      have HE : Hid (e.idx = M.i + (j : Int) + 1 ↔ D = true) := by
        show _ ↔ _
        rw [← hD]
        simp
      have hWi := fun u => within_any e.term t M.tm u
      simp only [hC] at hWi
      have HW : Hid (∀ u, Calls Tryd.prog 50 #[.int .i64 e.term, .int .i64 t, .int .i64 M.tm] u fun e' w' => e' = .returned (.bool C) ∧ w' = u) := hWi
      have HM : Hid (Calls Tryd.prog 69 #[.agg #[.int .i64 e.idx, .int .i64 e.term, .int .i64 e.kind, .slice da e.data.length dc, .slice na e.nodes.length nc]] w2 fun e' w' => e' = .returned (.bool B) ∧ Below w2.heap.size w2 w') := hM
      have HK2 : Hid (w2.heap[wr.heap.size]? = some (.cells #[.int .i64 e.idx, .int .i64 e.term, .int .i64 e.kind, .slice da e.data.length dc, .slice na e.nodes.length nc] 45 (0, 0)) ∧ Below w1.heap.size w1 w2) := ⟨hk2, hb12⟩
      have y0 : w2.cell? ⟨wr.heap.size, 0, none⟩ = some (.int .i64 e.idx) := pcell hk2 rfl
      have y1 : w2.cell? ⟨wr.heap.size, 1, none⟩ = some (.int .i64 e.term) := pcell hk2 rfl
      have y2 : w2.cell? ⟨wr.heap.size, 2, none⟩ = some (.int .i64 e.kind) := pcell hk2 rfl
      have y3 : w2.cell? ⟨wr.heap.size, 3, none⟩ = some (.slice da e.data.length dc) := pcell hk2 rfl
      have y4 : w2.cell? ⟨wr.heap.size, 4, none⟩ = some (.slice na e.nodes.length nc) := pcell hk2 rfl
      have ej : IntKind.i64.wrap (M.i + (j : Int) + 1) = M.i + (j : Int) + 1 := by rw [IntKind.wrap_i64]; omega
      subst hx
      clear hM hWi hk2 hb2 hb12 hB hC hD hdr he hat HG
      go_upto_region 4 with fail
      go_upto_region 5 with fail
      rw [← hw2]
      clear hw2 c0 c1 c2 c3 c4
      go_upto_region 6 with fail
      go_wp2_with (fail)
      refine HM.out.mono ?_
      rintro e' w3 ⟨rfl, hb3⟩
      have hb13 := HK2.out.2.trans (hb3.mono HK2.out.2.size)
      have z0 : w3.cell? ⟨wr.heap.size, 0, none⟩ = some (.int .i64 e.idx) := lt_cell HK2.out.1 hb3 rfl
      have z1 : w3.cell? ⟨wr.heap.size, 1, none⟩ = some (.int .i64 e.term) := lt_cell HK2.out.1 hb3 rfl
      have z3 := X3.out w3 hb13
      have HBn : Hid (Below w1.heap.size w1 w3) := hb13
      clear y0 y1 y2 y3 y4 HM hb3 hb13
      have fin : ∀ R', Hid (R = R') → Below w.heap.size w w3 := fun _ _ => HB.out.trans (HBn.out.mono HB.out.size)
      cases B with
      | false =>
        have HF : Hid (R = false) := by show R = false; rw [← HR.out, HG2.out]; simp
        clear HG2 HW
        go_wp2
        go_ret
        exact ⟨by rw [HF.out]; rfl, fin _ HF⟩
      | true =>
        cases D with
        | false =>
          have HF : Hid (R = false) := by show R = false; rw [← HR.out, HG2.out]; simp
          have q1 : (e.idx != M.i + (j : Int) + 1) = true := by
            have := HE.out
            simp at this ⊢
            exact this
          clear HG2 HW
          go_wp2
          go_ret
          exact ⟨by rw [HF.out]; rfl, fin _ HF⟩
        | true =>
          have q1 : (e.idx != M.i + (j : Int) + 1) = false := by
            have := HE.out
            simp at this ⊢
            exact this
          cases C with
          | false =>
            have HF : Hid (R = false) := by show R = false; rw [← HR.out, HG2.out]; simp
            clear HG2
            go_wp2_with (fail)
            refine (HW.out _).mono ?_
            rintro e' w4 ⟨rfl, hw⟩
            subst hw
            clear HW
            go_wp2
            go_ret
            exact ⟨by rw [HF.out]; rfl, fin _ HF⟩
          | true =>
            have HG3 : Hid (goB M.tm M.i M.lt M.es = goB M.tm (M.i + ((j + 1 : Nat) : Int)) e.term (M.es.drop (j + 1))) := by show _ = _; rw [HG2.out]; simp
            clear HG2
            go_wp2_with (fail)
            refine (HW.out _).mono ?_
            rintro e' w4 ⟨rfl, hw⟩
            subst hw
            clear HW
            go_wp2
            go_roundw
            case rel => exact ⟨j + 1, e.term, by congr 1; omega, rfl, by first | rfl | go_num, by omega, HG3, HBn⟩
            case measure => simp [intOf]; omega
    · have hjn : j = n := by omega
      subst hjn
      have HF : Hid (R = true) := by
        show R = true
        rw [← HR.out, HG.out, List.drop_of_length_le (by have := HZ.out.2; omega)]
        rfl
      have HBn : Hid (Below w.heap.size w wr) := HB.out.trans (HBr.out.mono HB.out.size)
      clear HG HR
      go_wp2
      go_ret
      exact ⟨by rw [HF.out]; rfl, HBn.out⟩
end Go.Proofs.YthpmfmidhmclbaaDoor
