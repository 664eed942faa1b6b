/- Several texts in one. -/
import Derived.Test.YtkbmblmnhhlicaaGreatDoorV03
import Derived.Test.YtkbmblmnhhlicaaGreatDoorV18
set_option linter.unusedVariables false
/- The segment that holds a record; walked. -/
namespace Go.Proofs.YtkbmblmnhhlicaaGreatDoor
open Go.RowKit

/-- Numbers that rise. -/
abbrev RiseQ (q : Sgs) : Prop := q.Pairwise (fun x y => x.1.num < y.1.num)
/-- How many segments begin at a number or ahead of it. -/
def upto (q : Sgs) (i : Nat) : Nat := (q.filter fun x => decide (x.1.num ≤ i)).length

theorem upto_split : ∀ (q : Sgs) (i : Nat), RiseQ q → (∀ k x, q[k]? = some x → (k < upto q i ↔ x.1.num ≤ i)) ∧ upto q i ≤ q.length
  | [], i, _ => ⟨fun k x h => by simp at h, Nat.le_refl _⟩
  | y :: q, i, h => by
    have h2 := List.pairwise_cons.1 h
    obtain ⟨ih1, ih2⟩ := upto_split q i h2.2
    by_cases hy : y.1.num ≤ i
    · have e : upto (y :: q) i = upto q i + 1 := by unfold upto; rw [List.filter_cons_of_pos (by simpa using hy)]; rfl
      rw [e]
      refine ⟨fun k x hk => ?_, by simp; omega⟩
      rcases k with _ | k
      · simp at hk; subst hk; constructor <;> intro _ <;> omega
      · rw [← ih1 k x (by simpa using hk)]; omega
    · have e0 : q.filter (fun x => decide (x.1.num ≤ i)) = [] := by
        rw [List.filter_eq_nil_iff]
        intro x hx
        have := h2.1 x hx
        simp; omega
      have e : upto (y :: q) i = 0 := by unfold upto; rw [List.filter_cons_of_neg (by simpa using hy), e0]; rfl
      rw [e]
      refine ⟨fun k x hk => ?_, Nat.zero_le _⟩
      rcases k with _ | k
      · simp at hk; subst hk; constructor <;> intro _ <;> omega
      · have hx : x ∈ q := List.mem_of_getElem? (by simpa using hk)
        have := h2.1 x hx
        constructor <;> intro _ <;> omega

set_option maxHeartbeats 1000000 in
set_option maxRecDepth 20000 in
theorem cmp_any {w : World} {p b : Nat} {T : Nat → Prop} {vs : Value} {q : Sgs} (h : LgW w p b T vs q) (l1 l2 : Nat) (hl1 : w.cell? ⟨l1, 0, none⟩ = some (dptr p)) (i : Nat) (hl2 : w.cell? ⟨l2, 0, none⟩ = some (.int .i64 (i : Int))) (k : Nat) (x : Sg × Value) (hk : q[k]? = some x) :
    Calls Tryz.prog 136 #[.int .i64 (k : Int), dptr l1, dptr l2] w fun e w' => e = .returned (.bool (decide (i < x.1.num))) ∧ Below w.heap.size w w' := by
  have hkl := (List.getElem?_eq_some_iff.1 hk).1
  have hne : q ≠ [] := by intro e; rw [e] at hkl; simp at hkl
  obtain ⟨g, c, rfl, hc, hT, _⟩ := h.form hne
  obtain ⟨a0, a1⟩ := h.at hk
  have c1 : w.cell? ⟨p, 1, none⟩ = some (.slice (some ⟨g, 0, none⟩) q.length c) := cell_blk h.blk rfl
  obtain ⟨n, hn⟩ : ∃ n, q.length = n := ⟨_, rfl⟩
  rw [hn] at c1 hkl
  have hfew := h.few
  have b1 : (k : Int) < (n : Int) := by omega
  have b2 : (n : Int) ≤ 1048576 := by omega
  obtain ⟨N, hN⟩ : ∃ N, x.1.num = N := ⟨_, rfl⟩
  rw [hN] at a0 ⊢
  have f1 : ∀ j, (w.drewN j).cell? ⟨l1, 0, none⟩ = some (dptr p) := fun _ => hl1
  have f2 : ∀ j, (w.drewN j).cell? ⟨l2, 0, none⟩ = some (.int .i64 (i : Int)) := fun _ => hl2
  have f3 : ∀ j, (w.drewN j).cell? ⟨p, 1, none⟩ = some (.slice (some ⟨g, 0, none⟩) n c) := fun _ => c1
  have f4 : ∀ j, (w.drewN j).cell? ⟨g, k * 2, none⟩ = some (.int .i64 (N : Int)) := fun _ => a0
  clear h hc hT a1 hkl hne hn hN hk hfew
  go_enter Tryz.func136, Tryz.ntmps136
  go_wp2_with (fail)
  go_region
  go_wp2_with (fail)
  go_ret
  exact ⟨rfl, below_drew (Below.refl _ _)⟩

set_option maxHeartbeats 2000000 in
set_option maxRecDepth 20000 in
/-- sort.Search, of what is false up to a place and true from there on. -/
theorem search_any {w : World} {n K l1 l2 : Nat} (hn : n ≤ 1048576) (hK : K ≤ n) (hf : ∀ u, Below w.heap.size w u → ∀ k, k < n → Calls Tryz.prog 136 #[.int .i64 (k : Int), dptr l1, dptr l2] u fun e w' => e = .returned (.bool (decide (K ≤ k))) ∧ Below u.heap.size u w') :
    Calls Tryz.prog 135 #[.int .i64 (n : Int), .func (.func 136) #[] #[dptr l1, dptr l2]] w fun e w' => e = .returned (.int .i64 (K : Int)) ∧ Below w.heap.size w w' := by
  have HF : Hid (∀ u, Below w.heap.size w u → ∀ k, k < n → Calls Tryz.prog 136 #[.int .i64 (k : Int), dptr l1, dptr l2] u fun e w' => e = .returned (.bool (decide (K ≤ k))) ∧ Below u.heap.size u w') := hf
  have bn : (n : Int) ≤ 1048576 := by omega
  clear hf
  go_enter Tryz.func135, Tryz.ntmps135
  go_wp2_with (fail)
  go_loopw [5, 6] (fun i j wr => ∃ (a c : Nat), i = .int .i64 a ∧ j = .int .i64 c ∧ Hid (a ≤ K ∧ K ≤ c ∧ c ≤ n) ∧ Hid (Below w.heap.size w wr)) (fun i j _ => (intOf j).toNat - (intOf i).toNat)
  case atStart => exact ⟨0, n, rfl, rfl, ⟨by omega, hK, by omega⟩, Below.refl _ _⟩
  case round =>
    obtain ⟨a, c, rfl, rfl, HA, HB⟩ := hrel
    by_cases hlt : a < c
    · obtain ⟨M, hM⟩ : ∃ M, (a + c) / 2 = M := ⟨_, rfl⟩
      have h1 := HA.out
      have b1 : (a : Int) < (c : Int) := by omega
      have b2 : (c : Int) ≤ 1048576 := by omega
      have e1 : ((a : Int) + (c : Int)) / 2 = (M : Int) := by omega
      have bM : (M : Int) ≤ 1048576 := by omega
      have HM : Hid (a ≤ M ∧ M < c) := by show _ ∧ _; omega
      have hC := HF.out wr HB.out M (by omega)
      clear hM h1
      by_cases hKM : K ≤ M
      · rw [show decide (K ≤ M) = true by simpa using hKM] at hC
        have HK : Hid (K ≤ M) := hKM
        clear hKM
        go_wp2_with (fail)
        refine hC.mono ?_
        rintro e w2 ⟨rfl, hb2⟩
        have HB2 : Hid (Below w.heap.size w w2) := HB.out.trans (hb2.mono HB.out.size)
        clear hC hb2
        go_wp2_with (fail)
        go_roundw
        case rel => exact ⟨a, M, rfl, rfl, ⟨HA.out.1, HK.out, by have := HA.out; have := HM.out; omega⟩, HB2⟩
        case measure => have := HM.out; simp [intOf]; omega
      · rw [show decide (K ≤ M) = false by simpa using hKM] at hC
        have HK : Hid (M < K) := by show _ < _; omega
        clear hKM
        go_wp2_with (fail)
        refine hC.mono ?_
        rintro e w2 ⟨rfl, hb2⟩
        have HB2 : Hid (Below w.heap.size w w2) := HB.out.trans (hb2.mono HB.out.size)
        clear hC hb2
        go_wp2_with (fail)
        go_roundw
        case rel => exact ⟨M + 1, c, by first | rfl | go_num, rfl, ⟨HK.out, HA.out.2.1, HA.out.2.2⟩, HB2⟩
        case measure => have := HM.out; simp [intOf]; omega
    · have h1 := HA.out
      have hac : a = K ∧ c = K := by omega
      obtain ⟨ha, hc⟩ := hac
      subst ha
      have b1 : ¬ (a : Int) < (c : Int) := by omega
      clear hlt h1 hc HA
      go_wp2_with (fail)
      go_ret
      exact ⟨rfl, HB.out⟩
end Go.Proofs.YtkbmblmnhhlicaaGreatDoor

/- holding, walked. -/
namespace Go.Proofs.YtkbmblmnhhlicaaGreatDoor
open Go.RowKit

set_option maxHeartbeats 2000000 in
set_option maxRecDepth 20000 in
theorem holding_any {w : World} {p b : Nat} {T : Nat → Prop} {vs : Value} {q : Sgs} (h : LgW w p b T vs q) (hr : RiseQ q) (i J : Nat) (hi : i ≤ 1048576) (hJ : upto q i = J + 1) (x : Sg × Value) (hx : q[J]? = some x) :
    Calls Tryz.prog 76 #[dptr p, .int .i64 (i : Int)] w fun e w' => e = .returned (sgV x.1.num x.2) ∧ Below w.heap.size w w' := by
  obtain ⟨W, hW⟩ : ∃ W, W = ((w.alloc (.cells #[dptr p] 29)).alloc (.cells #[.int .i64 (i : Int)] 3)).alloc (.cells #[.int .i64 0, .slice none 0 0] 101) := ⟨_, rfl⟩
  have hbW : Below w.heap.size w W := by
    rw [hW]
    exact (((Below.refl _ w).alloc (Nat.le_refl _) _).alloc (by simp) _).alloc (by simp; omega) _
  have hs0 : w.heap.size + 1 = (w.alloc (.cells #[dptr p] 29)).heap.size := by simp
  have hs1 : w.heap.size + 1 + 1 = ((w.alloc (.cells #[dptr p] 29)).alloc (.cells #[.int .i64 (i : Int)] 3)).heap.size := by simp
  have hk1 : W.heap[w.heap.size]? = some (.cells #[dptr p] 29 (0, 0)) := by
    rw [hW, heap_alloc_old _ _ (by simp; omega), heap_alloc_old _ _ (by simp)]
    exact heap_alloc_new w _
  have hk2 : W.heap[w.heap.size + 1]? = some (.cells #[.int .i64 (i : Int)] 3 (0, 0)) := by
    rw [hW, heap_alloc_old _ _ (by simp), hs0]
    exact heap_alloc_new _ _
  have hk3 : W.heap[w.heap.size + 1 + 1]? = some (.cells #[.int .i64 0, .slice none 0 0] 101 (0, 0)) := by
    rw [hW, hs1]
    exact heap_alloc_new _ _
  have hWz : W.heap.size = w.heap.size + 1 + 1 + 1 := by rw [hW]; simp
  clear hs0 hs1
  obtain ⟨hsp, hle⟩ := upto_split q i hr
  rw [hJ] at hsp hle
  have hfew := h.few
  have hne : q ≠ [] := by intro e; rw [e] at hx; simp at hx
  obtain ⟨g, c, hvs, hc, hT, _⟩ := h.form hne
  have hSr := search_any (w := W) (n := q.length) (K := J + 1) (l1 := w.heap.size) (l2 := w.heap.size + 1) hfew hle (fun u hu k hk => by
    have hget : q[k]? = some q[k] := List.getElem?_eq_getElem hk
    refine (cmp_any ((h.below hbW).below hu) w.heap.size (w.heap.size + 1) (by rw [hu.cell (lt_blk hk1)]; exact cell_blk hk1 rfl) i (by rw [hu.cell (lt_blk hk2)]; exact cell_blk hk2 rfl) k q[k] hget).mono fun e w' q9 => ⟨?_, q9.2⟩
    rw [q9.1]
    congr 2
    have := hsp k q[k] hget
    rw [decide_eq_decide]
    omega)
  obtain ⟨n, hn⟩ : ∃ n, q.length = n := ⟨_, rfl⟩
  obtain ⟨l1, hl1⟩ : ∃ l1, l1 = w.heap.size := ⟨_, rfl⟩
  obtain ⟨l2, hl2⟩ : ∃ l2, l2 = w.heap.size + 1 := ⟨_, rfl⟩
  obtain ⟨rb, hrb⟩ : ∃ rb, rb = w.heap.size + 1 + 1 := ⟨_, rfl⟩
  rw [← hrb] at hk3
  rw [← hl2] at hk2 hSr
  rw [← hl1] at hk1 hSr
  have hL := h.below hbW
  obtain ⟨a0, a1⟩ := (by rw [hvs] at h; exact h.at hx : w.cell? ⟨g, J * 2, none⟩ = some (.int .i64 (x.1.num : Int)) ∧ w.cell? ⟨g, J * 2 + 1, none⟩ = some x.2)
  have hgl := h.lt g hT
  obtain ⟨pg, pc, hx2, _⟩ := ownI_form (h.pls x (List.mem_of_getElem? hx)) (h.ne x (List.mem_of_getElem? hx))
  have d1 : W.cell? ⟨l1, 0, none⟩ = some (dptr p) := cell_blk hk1 rfl
  have d2 : W.cell? ⟨p, 1, none⟩ = some (.slice (some ⟨g, 0, none⟩) n c) := by rw [← hn, ← hvs]; exact cell_blk hL.blk rfl
  obtain ⟨xs, xv⟩ := x
  simp only at hx2 a0 a1 ⊢
  subst hx2
  rw [hn] at hSr
  have HBW : Hid (Below w.heap.size w W) := hbW
  have HK : Hid (W.heap[l1]? = some (.cells #[dptr p] 29 (0, 0)) ∧ W.heap[rb]? = some (.cells #[.int .i64 0, .slice none 0 0] 101 (0, 0))) := ⟨hk1, hk3⟩
  have HP : Hid (W.heap[p]? = some (.cells #[dptr b, .slice (some ⟨g, 0, none⟩) n c] 99 (0, 0))) := by show _ = _; rw [← hn, ← hvs]; exact hL.blk
  have HG : Hid (W.cell? ⟨g, J * 2, none⟩ = some (.int .i64 (xs.num : Int)) ∧ W.cell? ⟨g, J * 2 + 1, none⟩ = some (.slice (some ⟨pg, 0, none⟩) xs.pl.length pc) ∧ g < W.heap.size) := ⟨by rw [hbW.cell hgl]; exact a0, by rw [hbW.cell hgl]; exact a1, Nat.lt_of_lt_of_le hgl hbW.size⟩
  have HRb : Hid (w.heap.size ≤ rb) := by show _ ≤ _; omega
  have bn : (n : Int) ≤ 1048576 := by omega
  have bJ : (J : Int) < (n : Int) := by have := (List.getElem?_eq_some_iff.1 hx).1; omega
  clear h hr hJ hi hx hbW hk1 hk2 hk3 hWz hsp hle hfew hne hvs hc hT hL a0 a1 hgl hn
  go_enter Tryz.func76, Tryz.ntmps76
  have eW : ((w.alloc (.cells #[dptr p] 29)).alloc (.cells #[.int .i64 (i : Int)] 3)).alloc (.cells #[.int .i64 0, .slice none 0 0] 101) = W := hW.symm
  clear hW
  go_upto_region 1 with fail
  (try rw [eW])
  rw [← hrb, ← hl2, ← hl1]
  clear eW hl1 hl2 hrb
  go_wp2_with (fail)
  refine hSr.mono ?_
  rintro e u ⟨rfl, hb⟩
  have HU : Hid (Below W.heap.size W u) := hb
  have v1 : u.cell? ⟨l1, 0, none⟩ = some (dptr p) := by rw [hb.cell (lt_blk HK.out.1)]; exact cell_blk HK.out.1 rfl
  have v2 : u.cell? ⟨p, 1, none⟩ = some (.slice (some ⟨g, 0, none⟩) n c) := by rw [hb.cell (lt_blk HP.out)]; exact cell_blk HP.out rfl
  have v3 : u.cell? ⟨g, J * 2, none⟩ = some (.int .i64 (xs.num : Int)) := by rw [hb.cell HG.out.2.2]; exact HG.out.1
  have v4 : u.cell? ⟨g, J * 2 + 1, none⟩ = some (.slice (some ⟨pg, 0, none⟩) xs.pl.length pc) := by rw [hb.cell HG.out.2.2]; exact HG.out.2.1
  have HKr : Hid (u.heap[rb]? = some (.cells #[.int .i64 0, .slice none 0 0] 101 (0, 0))) := (hb.block _ (lt_blk HK.out.2)).trans HK.out.2
  have r0 : u.cell? ⟨rb, 0, none⟩ = some (.int .i64 0) := cell_blk HKr.out rfl
  have r1 : u.cell? ⟨rb, 1, none⟩ = some (.slice none 0 0) := cell_blk HKr.out rfl
  have rf := free_blk HKr.out
  have b3 : J < n := by omega
  clear hb hSr d1 d2
  go_wp2_with (fail)
  obtain ⟨W3, hW3⟩ : ∃ W3, W3 = (u.setCell ⟨rb, 0, none⟩ (.int .i64 (xs.num : Int))).setCell ⟨rb, 1, none⟩ (.slice (some ⟨pg, 0, none⟩) xs.pl.length pc) := ⟨_, rfl⟩
  have h3 : W3.heap[rb]? = some (.cells #[.int .i64 (xs.num : Int), .slice (some ⟨pg, 0, none⟩) xs.pl.length pc] 101 (0, 0)) := by rw [hW3]; exact set_blk (set_blk HKr.out 0 _) 1 _
  have d0 : W3.cell? ⟨rb, 0, none⟩ = some (.int .i64 (xs.num : Int)) := cell_blk h3 rfl
  have d1 : W3.cell? ⟨rb, 1, none⟩ = some (.slice (some ⟨pg, 0, none⟩) xs.pl.length pc) := cell_blk h3 rfl
  have HB3 : Hid (Below w.heap.size w W3) := by
    show Below _ _ _
    rw [hW3]
    have hr := HRb.out
    have hbb := HBW.out.trans (HU.out.mono HBW.out.size)
    refine ⟨hbb.os, hbb.tape, hbb.output, by rw [set_size, set_size]; exact hbb.size, fun k hk => ?_⟩
    rw [set_other _ (by omega), set_other _ (by omega)]
    exact hbb.block k hk
  rw [← hW3]
  clear h3 hW3 r0 r1 rf
  refine bodyPost_ret (v := sgV xs.num (.slice (some ⟨pg, 0, none⟩) xs.pl.length pc)) ?_ rfl ⟨rfl, HB3.out⟩
  rw [results_cell1 rfl]
  go_simp
end Go.Proofs.YtkbmblmnhhlicaaGreatDoor
