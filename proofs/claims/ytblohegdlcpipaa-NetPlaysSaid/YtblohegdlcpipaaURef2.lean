/- The document's net: nodes, has, Reach, Look; walked. -/
import Derived.Test.YtblohegdlcpipaaURef
set_option linter.unusedVariables false
set_option linter.unusedSimpArgs false
namespace Go.Proofs.Ytblohegdlcpipaa
open Go.RowKit

theorem rnode_any (n : Int) (w : World) : Calls Try.prog 31 #[.int .i64 n] w fun e w' => e = .returned (.bool (nodeB n)) ∧ w' = w := by
  obtain ⟨R, hR⟩ : ∃ R, nodeB n = R := ⟨_, rfl⟩
  rw [hR]
  by_cases h1 : 0 ≤ n
  · by_cases h2 : n ≤ 63
    · have : R = true := by rw [← hR]; simp [nodeB, h1, h2]
      subst this
      clear hR
      go_enter Try.func31, Try.ntmps31
      go_wp2
      go_ret
      exact ⟨rfl, rfl⟩
    · have : R = false := by rw [← hR]; simp [nodeB, h2]
      subst this
      clear hR
      go_enter Try.func31, Try.ntmps31
      go_wp2
      go_ret
      exact ⟨rfl, rfl⟩
  · have : R = false := by rw [← hR]; simp [nodeB, h1]
    subst this
    clear hR
    go_enter Try.func31, Try.ntmps31
    go_wp2
    go_ret
    exact ⟨rfl, rfl⟩
theorem rhas_any {w : World} {b : Nat} {v : Value} {sd : Nat} {ls : List L3} (h : RfW w b v sd ls) (i : Int) : Calls Try.prog 33 #[nptr b, .int .i64 i] w fun e w' => e = .returned (.bool (hasB ls.length i)) ∧ w' = w := by
  obtain ⟨a, c, hv⟩ := h.row.slice
  have x0 := h.c0
  have bn : (ls.length : Int) ≤ 200 := by have := h.few; omega
  rw [hv] at x0
  obtain ⟨n, hn⟩ : ∃ n, ls.length = n := ⟨_, rfl⟩
  rw [hn] at x0 bn ⊢
  clear h hv hn
  obtain ⟨R, hR⟩ : ∃ R, hasB n i = R := ⟨_, rfl⟩
  rw [hR]
  by_cases h1 : 0 ≤ i
  · by_cases h2 : i < (n : Int)
    · have : R = true := by rw [← hR]; simp [hasB, h1, h2]
      subst this
      clear hR
      go_enter Try.func33, Try.ntmps33
      go_wp2
      go_ret
      exact ⟨rfl, rfl⟩
    · have : R = false := by rw [← hR]; simp [hasB, h2]
      subst this
      clear hR
      go_enter Try.func33, Try.ntmps33
      go_wp2
      go_ret
      exact ⟨rfl, rfl⟩
  · have : R = false := by rw [← hR]; simp [hasB, h1]
    subst this
    clear hR
    go_enter Try.func33, Try.ntmps33
    go_wp2
    go_ret
    exact ⟨rfl, rfl⟩

set_option maxHeartbeats 4000000 in
set_option maxRecDepth 20000 in
theorem rreach_any {w : World} {b : Nat} {v : Value} {sd : Nat} {ls : List L3} (h : RfW w b v sd ls) (f t : Int) : Calls Try.prog 22 #[nptr b, .int .i64 f, .int .i64 t] w fun e w' => e = .returned (.bool (reachB sd f t)) ∧ Below w.heap.size w w' := by
  have h1 := rnode_any f w
  have h2 := rnode_any t w
  unfold reachB
  cases hf : nodeB f with
  | false =>
    rw [hf] at h1
    clear h h2 hf
    go_enter Try.func22, Try.ntmps22
    go_wp2_with (fail)
    refine h1.mono ?_
    rintro e w1 ⟨rfl, hw⟩
    replace hw := hw.symm
    subst hw
    clear h1
    go_wp2
    go_ret
    exact ⟨rfl, Below.refl _ _⟩
  | true =>
    rw [hf] at h1
    cases ht : nodeB t with
    | false =>
      rw [ht] at h2
      clear h hf ht
      go_enter Try.func22, Try.ntmps22
      go_wp2_with (fail)
      refine h1.mono ?_
      rintro e w1 ⟨rfl, hw⟩
      replace hw := hw.symm
      subst hw
      clear h1
      go_wp2_with (fail)
      refine h2.mono ?_
      rintro e w1 ⟨rfl, hw⟩
      replace hw := hw.symm
      subst hw
      clear h2
      go_wp2
      go_ret
      exact ⟨rfl, Below.refl _ _⟩
    | true =>
      rw [ht] at h2
      obtain ⟨f0, f1⟩ := nodeB_iff.1 hf
      obtain ⟨t0, t1⟩ := nodeB_iff.1 ht
      obtain ⟨F, rfl⟩ : ∃ F : Nat, f = (F : Int) := ⟨f.toNat, by omega⟩
      obtain ⟨T, rfl⟩ : ∃ T : Nat, t = (T : Int) := ⟨t.toNat, by omega⟩
      have x1 := h.c1
      have bs := h.side
      have e1 : IntKind.u64.wrap (F : Int) = (F : Int) := by rw [IntKind.wrap_u64]; omega
      have e2 : IntKind.u64.wrap (T : Int) = (T : Int) := by rw [IntKind.wrap_u64]; omega
      obtain ⟨D, hD⟩ : ∃ D, decide (sideZ sd (F : Int) = sideZ sd (T : Int)) = D := ⟨_, rfl⟩
      have q1 : (Go.bits BinOp.and .u64 ((sd : Int) / 2 ^ F) 1 == Go.bits BinOp.and .u64 ((sd : Int) / 2 ^ T) 1) = D := by rw [← hD]; rfl
      rw [hD]
      clear h hf ht hD
      go_enter Try.func22, Try.ntmps22
      go_wp2_with (fail)
      refine h1.mono ?_
      rintro e w1 ⟨rfl, hw⟩
      replace hw := hw.symm
      subst hw
      clear h1
      go_wp2_with (fail)
      refine h2.mono ?_
      rintro e w1 ⟨rfl, hw⟩
      replace hw := hw.symm
      subst hw
      clear h2
      go_upto_region 3 with fail
      go_big_region
      go_wp2
      go_ret
      exact ⟨rfl, (Below.refl _ _).drew⟩

theorem res_letter {fn : Func} (h : fn.results = #[.cell 4 39, .tmp 5]) (tmps : Array Value) (w : World) (q : Nat) (x0 x1 x2 : Value) (hp : tmps.getD 4 undef = .pointer (some ⟨q, 0, none⟩)) (c0 : w.cell? ⟨q, 0, none⟩ = some x0) (c1 : w.cell? ⟨q, 1, none⟩ = some x1) (c2 : w.cell? ⟨q, 2, none⟩ = some x2) :
    (results fn tmps).run Try.prog w = .ok (.tuple #[.agg #[x0, x1, x2], tmps.getD 5 undef]) w := by
  rw [Array.getD_eq_getD_getElem?] at hp
  have hsz : ∀ w, (sizeOf 39).run Try.prog w = .ok 3 w := szR
  simp [results, h, hp, go_sem, c0, c1, c2]

def zL3 : L3 := (0, 0, [])
def lookR (ls : List L3) (i : Int) : L3 := if hasB ls.length i = true then ls.getD i.toNat zL3 else zL3
/-- A letter's block, set anew. -/
theorem set3 {w w1 : World} {q : Nat} {c0 c1 c2 : Value} (hb : Below q w w1) (hk : w1.heap[q]? = some (.cells #[c0, c1, c2] 39 (0, 0))) (x0 x1 x2 : Value) :
    Below q w (((w1.setCell ⟨q, 0, none⟩ x0).setCell ⟨q, 1, none⟩ x1).setCell ⟨q, 2, none⟩ x2) ∧ (((w1.setCell ⟨q, 0, none⟩ x0).setCell ⟨q, 1, none⟩ x1).setCell ⟨q, 2, none⟩ x2).heap[q]? = some (.cells #[x0, x1, x2] 39 (0, 0)) :=
  ⟨((hb.setCell (Nat.le_refl _) _).setCell (Nat.le_refl _) _).setCell (Nat.le_refl _) _, set_blk (set_blk (set_blk hk 0 x0) 1 x1) 2 x2⟩
set_option maxHeartbeats 4000000 in
set_option maxRecDepth 20000 in
theorem rlook_any {w : World} {b : Nat} {v : Value} {sd : Nat} {ls : List L3} (h : RfW w b v sd ls) (i : Int) : Calls Try.prog 23 #[nptr b, .int .i64 i] w fun e w' => e = .returned (.tuple #[aggR (lookR ls i), .bool (hasB ls.length i)]) ∧ Below w.heap.size w w' := by
  obtain ⟨w1, hw1⟩ : ∃ w1, w1 = w.alloc (.cells #[.int .i64 0, .int .i64 0, .string ⟨#[]⟩] 39) := ⟨_, rfl⟩
  have hb1 : Below w.heap.size w w1 := by rw [hw1]; exact (Below.refl _ w).alloc (Nat.le_refl _) _
  have hk1 : w1.heap[w.heap.size]? = some (.cells #[.int .i64 0, .int .i64 0, .string ⟨#[]⟩] 39 (0, 0)) := by rw [hw1]; exact heap_alloc_new _ _
  have h1 := rhas_any (h.below hb1) i
  have f0 := free_blk hk1 0
  have f1 := free_blk hk1 1
  have f2 := free_blk hk1 2
  have y0 := cell_blk hk1 (i := 0) rfl
  have y1 := cell_blk hk1 (i := 1) rfl
  have y2 := cell_blk hk1 (i := 2) rfl
  have HS := fun x0 x1 x2 => set3 hb1 hk1 x0 x1 x2
  unfold lookR
  cases hi : hasB ls.length i with
  | false =>
    rw [hi] at h1
    have HSh : Hid (∀ x0 x1 x2, Below w.heap.size w (((w1.setCell ⟨w.heap.size, 0, none⟩ x0).setCell ⟨w.heap.size, 1, none⟩ x1).setCell ⟨w.heap.size, 2, none⟩ x2) ∧ (((w1.setCell ⟨w.heap.size, 0, none⟩ x0).setCell ⟨w.heap.size, 1, none⟩ x1).setCell ⟨w.heap.size, 2, none⟩ x2).heap[w.heap.size]? = some (.cells #[x0, x1, x2] 39 (0, 0))) := HS
    clear h hb1 hk1 hi HS
    go_enter Try.func23, Try.ntmps23
    go_upto_region 1 with fail
    rw [← hw1]
    clear hw1
    go_wp2_with (fail)
    refine h1.mono ?_
    rintro e w2 ⟨rfl, hw⟩
    replace hw := hw.symm
    subst hw
    clear h1
    go_wp2
    obtain ⟨k1, k2⟩ := HSh.out (.int .i64 0) (.int .i64 0) (.string ⟨#[]⟩)
    exact bodyPost_ret (res_letter rfl _ _ w.heap.size _ _ _ rfl (cell_blk k2 rfl) (cell_blk k2 rfl) (cell_blk k2 rfl)) rfl ⟨rfl, k1⟩
  | true =>
    rw [hi] at h1
    obtain ⟨i0, i1⟩ := hasB_iff.1 hi
    obtain ⟨j, rfl⟩ : ∃ j : Nat, i = (j : Int) := ⟨i.toNat, by omega⟩
    obtain ⟨y, hy⟩ : ∃ y, ls[j]? = some y := ⟨ls[j]'(by omega), List.getElem?_eq_getElem _⟩
    have hgd : ls.getD (j : Int).toNat zL3 = y := by rw [Int.toNat_natCast, List.getD_eq_getElem?_getD, hy]; rfl
    rw [hgd]
    have hB := h.below hb1
    obtain ⟨g, c, hv, z0, z1, z2⟩ := hB.row.at hy
    have x0 := hB.c0
    rw [hv] at x0
    obtain ⟨n, hn⟩ : ∃ n, ls.length = n := ⟨_, rfl⟩
    rw [hn] at x0
    have bn : (n : Int) ≤ 200 := by have := h.few; omega
    have bj : (j : Int) < (n : Int) := by omega
    have HSh : Hid (∀ x0 x1 x2, Below w.heap.size w (((w1.setCell ⟨w.heap.size, 0, none⟩ x0).setCell ⟨w.heap.size, 1, none⟩ x1).setCell ⟨w.heap.size, 2, none⟩ x2) ∧ (((w1.setCell ⟨w.heap.size, 0, none⟩ x0).setCell ⟨w.heap.size, 1, none⟩ x1).setCell ⟨w.heap.size, 2, none⟩ x2).heap[w.heap.size]? = some (.cells #[x0, x1, x2] 39 (0, 0))) := HS
    clear h hb1 hk1 hi HS i0 i1 hy hgd hB hv hn
    go_enter Try.func23, Try.ntmps23
    go_upto_region 1 with fail
    rw [← hw1]
    clear hw1
    go_wp2_with (fail)
    refine h1.mono ?_
    rintro e w2 ⟨rfl, hw⟩
    replace hw := hw.symm
    subst hw
    clear h1
    go_wp2
    obtain ⟨k1, k2⟩ := HSh.out (.int .i64 (y.1 : Int)) (.int .i64 (y.2.1 : Int)) (.string ⟨y.2.2.toArray⟩)
    exact bodyPost_ret (res_letter rfl _ _ w.heap.size _ _ _ rfl (cell_blk k2 rfl) (cell_blk k2 rfl) (cell_blk k2 rfl)) rfl ⟨rfl, k1⟩
end Go.Proofs.Ytblohegdlcpipaa
