/- Are two entries, two snapshots the same: walked. -/
import Derived.Test.YtmlihlnigojmpaaDoorPSame1
import Derived.Test.YtmlihlnigojmpaaDoorPMay3
set_option linter.unusedVariables false
namespace Go.Proofs.YtmlihlnigojmpaaDoor
open Go.RowKit

theorem en_eq {e f : En} : e = f ↔ e.idx = f.idx ∧ e.term = f.term ∧ e.kind = f.kind ∧ e.data = f.data ∧ e.nodes = f.nodes := by
  cases e
  cases f
  simp
instance : DecidableEq En := fun e f => decidable_of_iff _ en_eq.symm
theorem bool_of {P : Prop} [Decidable P] {b : Bool} (h : b = decide P) (hb : b = true) : P := by
  rw [hb] at h
  simpa using h.symm
theorem bool_not {P : Prop} [Decidable P] {b : Bool} (h : b = decide P) (hb : b = false) : ¬ P := by
  rw [hb] at h
  simpa using h.symm

set_option maxHeartbeats 8000000 in
set_option maxRecDepth 40000 in
theorem sameEntry_any {w : World} (e f : En) {da na db nb : Option Addr} {dn dc nn nc dn' dc' nn' nc' : Nat} (hd : BRow w da dn dc e.data) (hn : NRow w na e.nodes) (hnl : e.nodes.length = nn) (kd : BRow w db dn' dc' f.data) (kn : NRow w nb f.nodes) (knl : f.nodes.length = nn') (hl : nn ≤ 140737488355328) (kl : nn' ≤ 140737488355328) :
    Calls Tryd.prog 60 #[enV e.idx e.term e.kind da dn dc na nn nc, enV f.idx f.term f.kind db dn' dc' nb nn' nc'] w fun r w' => r = .returned (.bool (decide (e = f))) ∧ Below w.heap.size w w' := by
  obtain ⟨R, hR⟩ : ∃ R, decide (e = f) = R := ⟨_, rfl⟩
  rw [hR]
  obtain ⟨w1, hw1⟩ : ∃ w1, w1 = (w.alloc (.cells #[.int .i64 e.idx, .int .i64 e.term, .int .i64 e.kind, .slice da dn dc, .slice na nn nc] 45)).alloc (.cells #[.int .i64 f.idx, .int .i64 f.term, .int .i64 f.kind, .slice db dn' dc', .slice nb nn' nc'] 45) := ⟨_, rfl⟩
  have hb1 : Below w.heap.size w w1 := by rw [hw1]; exact ((Below.refl _ w).alloc (Nat.le_refl _) _).alloc (by simp) _
  have hk1 : w1.heap[w.heap.size]? = some (.cells #[.int .i64 e.idx, .int .i64 e.term, .int .i64 e.kind, .slice da dn dc, .slice na nn nc] 45 (0, 0)) := by
    rw [hw1]
    have := (Below.refl (w.alloc (.cells #[.int .i64 e.idx, .int .i64 e.term, .int .i64 e.kind, .slice da dn dc, .slice na nn nc] 45)).heap.size (w.alloc (.cells #[.int .i64 e.idx, .int .i64 e.term, .int .i64 e.kind, .slice da dn dc, .slice na nn nc] 45))).alloc (Nat.le_refl _) (.cells #[.int .i64 f.idx, .int .i64 f.term, .int .i64 f.kind, .slice db dn' dc', .slice nb nn' nc'] 45)
    exact (this.block _ (by simp)).trans (heap_alloc_new _ _)
  have hk2 : w1.heap[w.heap.size + 1]? = some (.cells #[.int .i64 f.idx, .int .i64 f.term, .int .i64 f.kind, .slice db dn' dc', .slice nb nn' nc'] 45 (0, 0)) := by
    rw [hw1]
    have := heap_alloc_new (w.alloc (.cells #[.int .i64 e.idx, .int .i64 e.term, .int .i64 e.kind, .slice da dn dc, .slice na nn nc] 45)) (.cells #[.int .i64 f.idx, .int .i64 f.term, .int .i64 f.kind, .slice db dn' dc', .slice nb nn' nc'] 45)
    simpa using this
  have hS := sameNodes_any (c := nc) (d := nc') (hn.below hb1) (kn.below hb1) hnl knl hl kl
  obtain ⟨B5, hB5⟩ : ∃ B, decide (e.nodes = f.nodes) = B := ⟨_, rfl⟩
  rw [hB5] at hS
  have HS : Hid (Calls Tryd.prog 61 #[.slice na nn nc, .slice nb nn' nc'] w1 fun r w' => r = .returned (.bool B5) ∧ Below w1.heap.size w1 w') := hS
  have HK : Hid (w1.heap[w.heap.size]? = some (.cells #[.int .i64 e.idx, .int .i64 e.term, .int .i64 e.kind, .slice da dn dc, .slice na nn nc] 45 (0, 0)) ∧ w1.heap[w.heap.size + 1]? = some (.cells #[.int .i64 f.idx, .int .i64 f.term, .int .i64 f.kind, .slice db dn' dc', .slice nb nn' nc'] 45 (0, 0)) ∧ Below w.heap.size w w1 ∧ BRow w1 da dn dc e.data ∧ BRow w1 db dn' dc' f.data) := ⟨hk1, hk2, hb1, hd.below hb1, kd.below hb1⟩
  obtain ⟨L, hL⟩ : ∃ L : ByteArray, L = ⟨e.data.toArray⟩ := ⟨_, rfl⟩
  obtain ⟨K, hK⟩ : ∃ K : ByteArray, K = ⟨f.data.toArray⟩ := ⟨_, rfl⟩
  obtain ⟨B4, h4⟩ : ∃ B, (L.toList == K.toList) = B := ⟨_, rfl⟩
  have hd4 : B4 = decide (e.data = f.data) := by
    rw [← h4, hL, hK, ByteArray.toList_eq, ByteArray.toList_eq]
    show (e.data == f.data) = _
    by_cases h : e.data = f.data <;> simp [h]
  obtain ⟨B1, h1⟩ : ∃ B, (e.idx == f.idx) = B := ⟨_, rfl⟩
  obtain ⟨B2, h2⟩ : ∃ B, (e.term == f.term) = B := ⟨_, rfl⟩
  obtain ⟨B3, h3⟩ : ∃ B, (e.kind == f.kind) = B := ⟨_, rfl⟩
  have HR : Hid (R = (B1 && B2 && B3 && B4 && B5)) := by
    show R = _
    rw [← hR, ← h1, ← h2, ← h3, hd4, ← hB5]
    by_cases i1 : e.idx = f.idx <;> by_cases i2 : e.term = f.term <;> by_cases i3 : e.kind = f.kind <;> by_cases i4 : e.data = f.data <;> by_cases i5 : e.nodes = f.nodes <;> simp [en_eq, i1, i2, i3, i4, i5]
  have x4 : w1.cell? ⟨w.heap.size, 4, none⟩ = some (.slice na nn nc) := pcell hk1 rfl
  have y4 : w1.cell? ⟨w.heap.size + 1, 4, none⟩ = some (.slice nb nn' nc') := pcell hk2 rfl
  have HL : Hid (L = ⟨e.data.toArray⟩ ∧ K = ⟨f.data.toArray⟩) := ⟨hL, hK⟩
  clear hd hn hnl kd kn knl hl kl hb1 hk1 hk2 hS hB5 hL hK hd4 hR
  go_enter Tryd.func60, Tryd.ntmps60
  go_upto_region 1 with fail
  rw [← hw1]
  clear hw1
  go_wp2_with (fail)
  refine HS.out.mono ?_
  rintro r w2 ⟨rfl, hb⟩
  have t1 : (convert 24 9 (.slice da dn dc)).run Tryd.prog w2 = .ok (.string L) w2 := by rw [HL.out.1]; exact (HK.out.2.2.2.1.below hb).string
  have t2 : (convert 24 9 (.slice db dn' dc')).run Tryd.prog w2 = .ok (.string K) w2 := by rw [HL.out.2]; exact (HK.out.2.2.2.2.below hb).string
  have x0 : w2.cell? ⟨w.heap.size, 0, none⟩ = some (.int .i64 e.idx) := pcell ((hb.block _ (Array.getElem?_eq_some_iff.1 HK.out.1).1).trans HK.out.1) rfl
  have x1 : w2.cell? ⟨w.heap.size, 1, none⟩ = some (.int .i64 e.term) := pcell ((hb.block _ (Array.getElem?_eq_some_iff.1 HK.out.1).1).trans HK.out.1) rfl
  have x2 : w2.cell? ⟨w.heap.size, 2, none⟩ = some (.int .i64 e.kind) := pcell ((hb.block _ (Array.getElem?_eq_some_iff.1 HK.out.1).1).trans HK.out.1) rfl
  have x3 : w2.cell? ⟨w.heap.size, 3, none⟩ = some (.slice da dn dc) := pcell ((hb.block _ (Array.getElem?_eq_some_iff.1 HK.out.1).1).trans HK.out.1) rfl
  have y0 : w2.cell? ⟨w.heap.size + 1, 0, none⟩ = some (.int .i64 f.idx) := pcell ((hb.block _ (Array.getElem?_eq_some_iff.1 HK.out.2.1).1).trans HK.out.2.1) rfl
  have y1 : w2.cell? ⟨w.heap.size + 1, 1, none⟩ = some (.int .i64 f.term) := pcell ((hb.block _ (Array.getElem?_eq_some_iff.1 HK.out.2.1).1).trans HK.out.2.1) rfl
  have y2 : w2.cell? ⟨w.heap.size + 1, 2, none⟩ = some (.int .i64 f.kind) := pcell ((hb.block _ (Array.getElem?_eq_some_iff.1 HK.out.2.1).1).trans HK.out.2.1) rfl
  have y3 : w2.cell? ⟨w.heap.size + 1, 3, none⟩ = some (.slice db dn' dc') := pcell ((hb.block _ (Array.getElem?_eq_some_iff.1 HK.out.2.1).1).trans HK.out.2.1) rfl
  have HB : Hid (Below w.heap.size w w2) := HK.out.2.2.1.trans (hb.mono HK.out.2.2.1.size)
  clear HS hb x4 y4 HL HK
  cases B1 with
  | false =>
    go_wp2_with fail
    go_ret
    exact ⟨by rw [HR.out]; rfl, HB.out⟩
  | true =>
    cases B2 with
    | false =>
      go_wp2_with fail
      go_ret
      exact ⟨by rw [HR.out]; rfl, HB.out⟩
    | true =>
      cases B3 with
      | false =>
        go_wp2_with fail
        go_ret
        exact ⟨by rw [HR.out]; rfl, HB.out⟩
      | true =>
        cases B4 with
        | false =>
          go_wp2_with fail
          go_ret
          exact ⟨by rw [HR.out]; rfl, HB.out⟩
        | true =>
          cases B5 with
          | false =>
            go_wp2_with fail
            go_ret
            exact ⟨by rw [HR.out]; rfl, HB.out⟩
          | true =>
            go_wp2_with fail
            go_ret
            exact ⟨by rw [HR.out]; rfl, HB.out⟩

set_option maxHeartbeats 8000000 in
set_option maxRecDepth 40000 in
theorem sameSnap_any {w : World} {X T Y S : Int} {zs ys : List Int} {l r : List UInt8} {da na db nb : Option Addr} {dn dc nn nc dn' dc' nn' nc' : Nat} (hd : BRow w da dn dc l) (hn : NRow w na zs) (hnl : zs.length = nn) (kd : BRow w db dn' dc' r) (kn : NRow w nb ys) (knl : ys.length = nn') (hl : nn ≤ 140737488355328) (kl : nn' ≤ 140737488355328) :
    Calls Tryd.prog 40 #[.agg #[.int .i64 X, .int .i64 T, .slice na nn nc, .slice da dn dc], .agg #[.int .i64 Y, .int .i64 S, .slice nb nn' nc', .slice db dn' dc']] w fun r' w' => r' = .returned (.bool (decide (X = Y ∧ T = S ∧ zs = ys ∧ l = r))) ∧ Below w.heap.size w w' := by
  obtain ⟨R, hR⟩ : ∃ R, decide (X = Y ∧ T = S ∧ zs = ys ∧ l = r) = R := ⟨_, rfl⟩
  rw [hR]
  obtain ⟨w1, hw1⟩ : ∃ w1, w1 = (w.alloc (.cells #[.int .i64 X, .int .i64 T, .slice na nn nc, .slice da dn dc] 26)).alloc (.cells #[.int .i64 Y, .int .i64 S, .slice nb nn' nc', .slice db dn' dc'] 26) := ⟨_, rfl⟩
  have hb1 : Below w.heap.size w w1 := by rw [hw1]; exact ((Below.refl _ w).alloc (Nat.le_refl _) _).alloc (by simp) _
  have hk1 : w1.heap[w.heap.size]? = some (.cells #[.int .i64 X, .int .i64 T, .slice na nn nc, .slice da dn dc] 26 (0, 0)) := by
    rw [hw1]
    have := (Below.refl (w.alloc (.cells #[.int .i64 X, .int .i64 T, .slice na nn nc, .slice da dn dc] 26)).heap.size (w.alloc (.cells #[.int .i64 X, .int .i64 T, .slice na nn nc, .slice da dn dc] 26))).alloc (Nat.le_refl _) (.cells #[.int .i64 Y, .int .i64 S, .slice nb nn' nc', .slice db dn' dc'] 26)
    exact (this.block _ (by simp)).trans (heap_alloc_new _ _)
  have hk2 : w1.heap[w.heap.size + 1]? = some (.cells #[.int .i64 Y, .int .i64 S, .slice nb nn' nc', .slice db dn' dc'] 26 (0, 0)) := by
    rw [hw1]
    have := heap_alloc_new (w.alloc (.cells #[.int .i64 X, .int .i64 T, .slice na nn nc, .slice da dn dc] 26)) (.cells #[.int .i64 Y, .int .i64 S, .slice nb nn' nc', .slice db dn' dc'] 26)
    simpa using this
  have hS := sameNodes_any (c := nc) (d := nc') (hn.below hb1) (kn.below hb1) hnl knl hl kl
  obtain ⟨B3, hB3⟩ : ∃ B, decide (zs = ys) = B := ⟨_, rfl⟩
  rw [hB3] at hS
  have HS : Hid (Calls Tryd.prog 61 #[.slice na nn nc, .slice nb nn' nc'] w1 fun r w' => r = .returned (.bool B3) ∧ Below w1.heap.size w1 w') := hS
  have HK : Hid (w1.heap[w.heap.size]? = some (.cells #[.int .i64 X, .int .i64 T, .slice na nn nc, .slice da dn dc] 26 (0, 0)) ∧ w1.heap[w.heap.size + 1]? = some (.cells #[.int .i64 Y, .int .i64 S, .slice nb nn' nc', .slice db dn' dc'] 26 (0, 0)) ∧ Below w.heap.size w w1 ∧ BRow w1 da dn dc l ∧ BRow w1 db dn' dc' r) := ⟨hk1, hk2, hb1, hd.below hb1, kd.below hb1⟩
  obtain ⟨L, hL⟩ : ∃ L : ByteArray, L = ⟨l.toArray⟩ := ⟨_, rfl⟩
  obtain ⟨K, hK⟩ : ∃ K : ByteArray, K = ⟨r.toArray⟩ := ⟨_, rfl⟩
  obtain ⟨B4, h4⟩ : ∃ B, (L.toList == K.toList) = B := ⟨_, rfl⟩
  have hd4 : B4 = decide (l = r) := by
    rw [← h4, hL, hK, ByteArray.toList_eq, ByteArray.toList_eq]
    show (l == r) = _
    by_cases h : l = r <;> simp [h]
  obtain ⟨B1, h1⟩ : ∃ B, (X == Y) = B := ⟨_, rfl⟩
  obtain ⟨B2, h2⟩ : ∃ B, (T == S) = B := ⟨_, rfl⟩
  have HR : Hid (R = (B1 && B2 && B3 && B4)) := by
    show R = _
    rw [← hR, ← h1, ← h2, hd4, ← hB3]
    by_cases i1 : X = Y <;> by_cases i2 : T = S <;> by_cases i3 : zs = ys <;> by_cases i4 : l = r <;> simp [i1, i2, i3, i4]
  have x2 : w1.cell? ⟨w.heap.size, 2, none⟩ = some (.slice na nn nc) := pcell hk1 rfl
  have y2 : w1.cell? ⟨w.heap.size + 1, 2, none⟩ = some (.slice nb nn' nc') := pcell hk2 rfl
  have HL : Hid (L = ⟨l.toArray⟩ ∧ K = ⟨r.toArray⟩) := ⟨hL, hK⟩
  clear hd hn hnl kd kn knl hl kl hb1 hk1 hk2 hS hB3 hL hK hd4 hR
  go_enter Tryd.func40, Tryd.ntmps40
  go_upto_region 1 with fail
  rw [← hw1]
  clear hw1
  go_wp2_with (fail)
  refine HS.out.mono ?_
  rintro r' w2 ⟨rfl, hb⟩
  have t1 : (convert 24 9 (.slice da dn dc)).run Tryd.prog w2 = .ok (.string L) w2 := by rw [HL.out.1]; exact (HK.out.2.2.2.1.below hb).string
  have t2 : (convert 24 9 (.slice db dn' dc')).run Tryd.prog w2 = .ok (.string K) w2 := by rw [HL.out.2]; exact (HK.out.2.2.2.2.below hb).string
  have x0 : w2.cell? ⟨w.heap.size, 0, none⟩ = some (.int .i64 X) := pcell ((hb.block _ (Array.getElem?_eq_some_iff.1 HK.out.1).1).trans HK.out.1) rfl
  have x1 : w2.cell? ⟨w.heap.size, 1, none⟩ = some (.int .i64 T) := pcell ((hb.block _ (Array.getElem?_eq_some_iff.1 HK.out.1).1).trans HK.out.1) rfl
  have x3 : w2.cell? ⟨w.heap.size, 3, none⟩ = some (.slice da dn dc) := pcell ((hb.block _ (Array.getElem?_eq_some_iff.1 HK.out.1).1).trans HK.out.1) rfl
  have y0 : w2.cell? ⟨w.heap.size + 1, 0, none⟩ = some (.int .i64 Y) := pcell ((hb.block _ (Array.getElem?_eq_some_iff.1 HK.out.2.1).1).trans HK.out.2.1) rfl
  have y1 : w2.cell? ⟨w.heap.size + 1, 1, none⟩ = some (.int .i64 S) := pcell ((hb.block _ (Array.getElem?_eq_some_iff.1 HK.out.2.1).1).trans HK.out.2.1) rfl
  have y3 : w2.cell? ⟨w.heap.size + 1, 3, none⟩ = some (.slice db dn' dc') := pcell ((hb.block _ (Array.getElem?_eq_some_iff.1 HK.out.2.1).1).trans HK.out.2.1) rfl
  have HB : Hid (Below w.heap.size w w2) := HK.out.2.2.1.trans (hb.mono HK.out.2.2.1.size)
  clear HS hb x2 y2 HL HK
  cases B1 with
  | false =>
    go_wp2_with fail
    go_ret
    exact ⟨by rw [HR.out]; rfl, HB.out⟩
  | true =>
    cases B2 with
    | false =>
      go_wp2_with fail
      go_ret
      exact ⟨by rw [HR.out]; rfl, HB.out⟩
    | true =>
      cases B3 with
      | false =>
        go_wp2_with fail
        go_ret
        exact ⟨by rw [HR.out]; rfl, HB.out⟩
      | true =>
        cases B4 with
        | false =>
          go_wp2_with fail
          go_ret
          exact ⟨by rw [HR.out]; rfl, HB.out⟩
        | true =>
          go_wp2_with fail
          go_ret
          exact ⟨by rw [HR.out]; rfl, HB.out⟩

end Go.Proofs.YtmlihlnigojmpaaDoor
