/- Letters: entries that go on from an Index (package parts): walked. -/
import Derived.Test.YtmlihlnigojmpaaDoorWRt1
set_option linter.unusedVariables false
namespace Go.Proofs.YtmlihlnigojmpaaDoor
open Go.RowKit

/-- Do entries go on from an Index, a term, up to a term? -/
def goB (top : Int) : Int → Int → List En → Bool
  | _, _, [] => true
  | i, t, e :: r => e.B && decide (e.idx = i + 1) && inB (i + 1) 1 999999 && inB e.term t top && goB top (i + 1) e.term r

theorem lt_cell {w1 w : World} {b : Nat} {cs : Array Value} {T : TypeId} (h : w1.heap[b]? = some (.cells cs T (0, 0))) (hb : Below w1.heap.size w1 w) {i : Nat} {v : Value} (hi : cs[i]? = some v) : w.cell? ⟨b, i, none⟩ = some v := pcell (blk_below h hb) hi

set_option maxHeartbeats 8000000 in
set_option maxRecDepth 40000 in
theorem wgoOn_any {w : World} (es : List En) (ea : Option Addr) (ec : Nat) (I LT TM : Int) (h : EnRow w ea es) (hn2 : es.length ≤ 140737488355328) (hi : 0 ≤ I ∧ I ≤ 999999) :
    Calls Tryd.prog 51 #[.slice ea es.length ec, .int .i64 I, .int .i64 LT, .int .i64 TM] w fun e w' => e = .returned (.bool (goB TM I LT es)) ∧ Below w.heap.size w w' := by
  obtain ⟨R, hR⟩ : ∃ R, goB TM I LT es = R := ⟨_, rfl⟩
  rw [hR]
  have HR : Hid (goB TM I LT es = R) := hR
  obtain ⟨n, hn⟩ : ∃ n, es.length = n := ⟨_, rfl⟩
  have HZ : Hid (EnRow w ea es ∧ es.length = n) := ⟨h, hn⟩
  have bn : (n : Int) ≤ 140737488355328 := by omega
  have i0 : 0 ≤ I := hi.1
  have i1 : I ≤ 999999 := hi.2
  rw [hn]
  clear h hn hn2 hR hi
  go_enter Tryd.func51, Tryd.ntmps51
  go_wp2_with (fail)
  go_loopw [1, 2, 13] (fun ix tv i wr => ∃ (j : Nat) (t : Int), ix = .int .i64 (I + (j : Int)) ∧ tv = .int .i64 t ∧ i = .int .i64 (j : Int) ∧ j ≤ n ∧ Hid (goB TM I LT es = goB TM (I + (j : Int)) t (es.drop j)) ∧ Hid (Below w.heap.size w wr)) (fun _ _ i _ => n - (intOf i).toNat)
  case atStart => exact ⟨0, LT, by simp, rfl, rfl, Nat.zero_le _, by simp [Hid], Below.refl _ w⟩
  case round =>
    obtain ⟨j, t, rfl, rfl, rfl, hj, HG, HBr⟩ := hrel
    by_cases hlt : j < n
    · obtain ⟨e, he⟩ : ∃ e, es[j]? = some e := ⟨es[j]'(by have := HZ.out.2; omega), List.getElem?_eq_getElem _⟩
      have hdr : es.drop j = e :: es.drop (j + 1) := by
        have hl := (List.getElem?_eq_some_iff.1 he).1
        rw [List.drop_eq_getElem_cons hl]
        congr 1
        exact (List.getElem?_eq_some_iff.1 he).2
      obtain ⟨g, o, da, dc, na, nc, hx, hat⟩ := (HZ.out.1.below HBr.out) j e he
      obtain ⟨B, hB⟩ : ∃ B, e.B = B := ⟨_, rfl⟩
      obtain ⟨V, hV⟩ : ∃ V, inB (I + (j : Int) + 1) 1 999999 = V := ⟨_, rfl⟩
      obtain ⟨C, hC⟩ : ∃ C, inB e.term t TM = C := ⟨_, rfl⟩
      obtain ⟨D, hD⟩ : ∃ D, decide (e.idx = I + (j : Int) + 1) = D := ⟨_, rfl⟩
      have HG2 : Hid (goB TM I LT es = (B && D && V && C && goB TM (I + ((j + 1 : Nat) : Int)) e.term (es.drop (j + 1)))) := by
        show _ = _
        rw [HG.out, hdr, goB, hB, hC, hD, hV]
        congr 2
        omega
      obtain ⟨w2, hw2⟩ : ∃ w2, w2 = wr.alloc (.cells #[.int .i64 e.idx, .int .i64 e.term, .int .i64 e.kind, .slice da e.data.length dc, .slice na e.nodes.length nc] 45) := ⟨_, rfl⟩
      have hb2 : Below wr.heap.size wr w2 := by rw [hw2]; exact (Below.refl _ wr).alloc (Nat.le_refl _) _
      have hk2 : w2.heap[wr.heap.size]? = some (.cells #[.int .i64 e.idx, .int .i64 e.term, .int .i64 e.kind, .slice da e.data.length dc, .slice na e.nodes.length nc] 45 (0, 0)) := by rw [hw2]; exact heap_alloc_new _ _
      have hb12 : Below w.heap.size w w2 := HBr.out.trans (hb2.mono HBr.out.size)
      have hM := mayE_any (w := w2) e.idx e.term e.kind (da := da) (dn := e.data.length) (dc := dc) (na := na) (nc := nc) (hat.nod.below hb2) rfl hat.nl hat.dl
      rw [show mayEB e.term e.kind e.data.length e.nodes = B from hB] at hM
      have c0 := hat.c0
      have c1 := hat.c1
      have c2 := hat.c2
      have c3 := hat.c3
      have c4 := hat.c4
      have HE : Hid (e.idx = I + (j : Int) + 1 ↔ D = true) := by
        show _ ↔ _
        rw [← hD]
        simp
      have hWi := fun u => within_any e.term t TM u
      simp only [hC] at hWi
      have HW : Hid (∀ u, Calls Tryd.prog 50 #[.int .i64 e.term, .int .i64 t, .int .i64 TM] u fun e' w' => e' = .returned (.bool C) ∧ w' = u) := hWi
      have hVi := fun u => within_any (I + (j : Int) + 1) 1 999999 u
      simp only [hV] at hVi
      have HV : Hid (∀ u, Calls Tryd.prog 50 #[.int .i64 (I + (j : Int) + 1), .int .i64 1, .int .i64 999999] u fun e' w' => e' = .returned (.bool V) ∧ w' = u) := hVi
      have HM : Hid (Calls Tryd.prog 69 #[.agg #[.int .i64 e.idx, .int .i64 e.term, .int .i64 e.kind, .slice da e.data.length dc, .slice na e.nodes.length nc]] w2 fun e' w' => e' = .returned (.bool B) ∧ Below w2.heap.size w2 w') := hM
      have HK2 : Hid (w2.heap[wr.heap.size]? = some (.cells #[.int .i64 e.idx, .int .i64 e.term, .int .i64 e.kind, .slice da e.data.length dc, .slice na e.nodes.length nc] 45 (0, 0)) ∧ Below w.heap.size w w2) := ⟨hk2, hb12⟩
      have y0 : w2.cell? ⟨wr.heap.size, 0, none⟩ = some (.int .i64 e.idx) := pcell hk2 rfl
      have y1 : w2.cell? ⟨wr.heap.size, 1, none⟩ = some (.int .i64 e.term) := pcell hk2 rfl
      have y2 : w2.cell? ⟨wr.heap.size, 2, none⟩ = some (.int .i64 e.kind) := pcell hk2 rfl
      have y3 : w2.cell? ⟨wr.heap.size, 3, none⟩ = some (.slice da e.data.length dc) := pcell hk2 rfl
      have y4 : w2.cell? ⟨wr.heap.size, 4, none⟩ = some (.slice na e.nodes.length nc) := pcell hk2 rfl
      have ej : IntKind.i64.wrap (I + (j : Int) + 1) = I + (j : Int) + 1 := by rw [IntKind.wrap_i64]; omega
      subst hx
      clear hM hWi hVi hk2 hb2 hb12 hB hC hD hV hdr he hat HG
      go_upto_region 3 with fail
      go_upto_region 4 with fail
      rw [← hw2]
      clear hw2 c0 c1 c2 c3 c4
      go_upto_region 5 with fail
      go_wp2_with (fail)
      refine HM.out.mono ?_
      rintro e' w3 ⟨rfl, hb3⟩
      have hb13 := HK2.out.2.trans (hb3.mono HK2.out.2.size)
      have z0 : w3.cell? ⟨wr.heap.size, 0, none⟩ = some (.int .i64 e.idx) := lt_cell HK2.out.1 hb3 rfl
      have z1 : w3.cell? ⟨wr.heap.size, 1, none⟩ = some (.int .i64 e.term) := lt_cell HK2.out.1 hb3 rfl
      have HBn : Hid (Below w.heap.size w w3) := hb13
      clear y0 y1 y2 y3 y4 HM hb3 hb13
      have fin : ∀ R', Hid (R = R') → Below w.heap.size w w3 := fun _ _ => HBn.out
      cases B with
      | false =>
        have HF : Hid (R = false) := by show R = false; rw [← HR.out, HG2.out]; simp
        clear HG2 HW HV
        go_wp2
        go_ret
        exact ⟨by rw [HF.out]; rfl, fin _ HF⟩
      | true =>
        cases D with
        | false =>
          have HF : Hid (R = false) := by show R = false; rw [← HR.out, HG2.out]; simp
          have q1 : (e.idx != I + (j : Int) + 1) = true := by
            have := HE.out
            simp at this ⊢
            exact this
          clear HG2 HW HV
          go_wp2
          go_ret
          exact ⟨by rw [HF.out]; rfl, fin _ HF⟩
        | true =>
          have q1 : (e.idx != I + (j : Int) + 1) = false := by
            have := HE.out
            simp at this ⊢
            exact this
          cases V with
          | false =>
            have HF : Hid (R = false) := by show R = false; rw [← HR.out, HG2.out]; simp
            clear HG2 HW
            go_wp2_with (fail)
            refine (HV.out _).mono ?_
            rintro e' w4 ⟨rfl, hw⟩
            subst hw
            clear HV
            go_wp2
            go_ret
            exact ⟨by rw [HF.out]; rfl, fin _ HF⟩
          | true =>
            cases C with
            | false =>
              have HF : Hid (R = false) := by show R = false; rw [← HR.out, HG2.out]; simp
              clear HG2
              go_wp2_with (fail)
              refine (HV.out _).mono ?_
              rintro e' w4 ⟨rfl, hw⟩
              subst hw
              clear HV
              go_wp2_with (fail)
              refine (HW.out _).mono ?_
              rintro e' w4 ⟨rfl, hw⟩
              subst hw
              clear HW
              go_wp2
              go_ret
              exact ⟨by rw [HF.out]; rfl, fin _ HF⟩
            | true =>
              have HG3 : Hid (goB TM I LT es = goB TM (I + ((j + 1 : Nat) : Int)) e.term (es.drop (j + 1))) := by show _ = _; rw [HG2.out]; simp
              clear HG2
              go_wp2_with (fail)
              refine (HV.out _).mono ?_
              rintro e' w4 ⟨rfl, hw⟩
              subst hw
              clear HV
              go_wp2_with (fail)
              refine (HW.out _).mono ?_
              rintro e' w4 ⟨rfl, hw⟩
              subst hw
              clear HW
              go_wp2
              go_roundw
              case rel => exact ⟨j + 1, e.term, by congr 1; omega, rfl, by first | rfl | go_num, by omega, HG3, HBn⟩
              case measure => simp [intOf]; omega
    · have hjn : j = n := by omega
      subst hjn
      have HF : Hid (R = true) := by
        show R = true
        rw [← HR.out, HG.out, List.drop_of_length_le (by have := HZ.out.2; omega)]
        rfl
      clear HG HR
      go_wp2
      go_ret
      exact ⟨by rw [HF.out]; rfl, HBr.out⟩
end Go.Proofs.YtmlihlnigojmpaaDoor
