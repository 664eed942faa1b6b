/- slices.Delete of the first segment, walked. -/
import Derived.Test.YtkbmblmnhhlicaaGreatDoorV03
import Derived.Deep.DeepAppendRoom
import Derived.Lib.SliceRun
set_option linter.unusedVariables false
namespace Go.Proofs.YtkbmblmnhhlicaaGreatDoor
open Go.RowKit

theorem clear_seg (w : World) (ty : TypeId) (b o c : Nat) (h0 : (w.cell? ⟨b, o, none⟩).isSome = true) (h1 : (w.cell? ⟨b, o + 1, none⟩).isSome = true) (f0 : w.frozen? ⟨b, o, none⟩ = false) (f1 : w.frozen? ⟨b, o + 1, none⟩ = false) :
    (Builtin.clear_ #[97] ty #[.slice (some ⟨b, o, none⟩) 1 c]).run Tryz.prog w = .ok (.tuple #[]) (w.setCells b o [.int .i64 0, .slice none 0 0]) := by
  have hv : ∀ w, (zeroValue 101).run Tryz.prog w = .ok (.agg #[.int .i64 0, .slice none 0 0]) w := fun w => by kernel_rfl
  have hzc : (Builtin.zeroCells (Value.agg #[.int .i64 0, .slice none 0 0]).cells 1).toList = [.int .i64 0, .slice none 0 0] := by kernel_rfl
  have hst := run_storeCells_cells (P := Tryz.prog) b o [.int .i64 0, .slice none 0 0] 0 w (by
    intro j hj
    match j, hj with
    | 0, _ => exact h0
    | 1, _ => exact h1
    | j + 2, hj => simp at hj; omega) (by
    intro j hj
    match j, hj with
    | 0, _ => exact f0
    | 1, _ => exact f1
    | j + 2, hj => simp at hj; omega) (by
    intro v hv'
    simp at hv'
    rcases hv' with rfl | rfl <;> rfl)
  simp only [Nat.add_zero] at hst
  simp [Builtin.clear_, run_underlying Tryz.underlying97, hv, hzc, hst]

theorem slice_seg1 (g n c : Nat) (hn : 1 ≤ n) (hc : n ≤ c) (w : World) : (Instr.slice 97 (.slice (some ⟨g, 0, none⟩) n c) (some (.int .i64 1)) none none).run Tryz.prog w = .ok (.slice (if c = 1 then some ⟨g, 0, none⟩ else some ⟨g, 2, none⟩) (n - 1) (c - 1)) w := by
  have hel : Tryz.prog.elem 97 = 101 := by kernel_rfl
  have hsz : (sizeOf 101).run Tryz.prog w = .ok 2 w := by kernel_rfl
  rw [run_slice_l w 97 (some ⟨g, 0, none⟩) n c (by rw [hel]; exact Tryz.underlying97) .i64 1 (by omega) (by omega), hel, hsz]
  simp only [Result.andThen, sliced]
  by_cases h1 : c = 1
  · subst h1; simp
  · simp [h1]
    rfl
theorem slice_seg3 (g n c : Nat) (hn : 1 ≤ n) (hc : n ≤ c) (w : World) : ∃ a, (Instr.slice 97 (.slice (some ⟨g, 0, none⟩) n c) (some (.int .i64 0)) (some (.int .i64 1)) (some (.int .i64 (n : Int)))).run Tryz.prog w = .ok (.slice a 1 n) w := by
  have hel : Tryz.prog.elem 97 = 101 := by kernel_rfl
  have hsz : (sizeOf 101).run Tryz.prog w = .ok 2 w := by kernel_rfl
  rw [run_slice_lhm w 97 (some ⟨g, 0, none⟩) n c (by rw [hel]; exact Tryz.underlying97) .i64 .i64 .i64 0 1 (n : Int) (by omega) (by omega) (by omega) (by omega), hel, hsz]
  exact ⟨_, rfl⟩
theorem slice_seg2 (g k n c : Nat) (hk : k < n) (hc : n ≤ c) (w : World) : (Instr.slice 97 (.slice (some ⟨g, 0, none⟩) k c) (some (.int .i64 (k : Int))) (some (.int .i64 (n : Int))) none).run Tryz.prog w = .ok (.slice (some ⟨g, k * 2, none⟩) (n - k) (c - k)) w := by
  have hel : Tryz.prog.elem 97 = 101 := by kernel_rfl
  have hsz : (sizeOf 101).run Tryz.prog w = .ok 2 w := by kernel_rfl
  rw [run_slice_lh w 97 (some ⟨g, 0, none⟩) k c (by rw [hel]; exact Tryz.underlying97) .i64 .i64 (k : Int) (n : Int) (by omega) (by omega) (by omega), hel, hsz]
  simp only [Result.andThen, sliced, Int.toNat_natCast]
  rw [if_neg (by omega)]
  simp [Addr.add_lit]

def DelP (w : World) (g c : Nat) (q : Sgs) (vo : Value) (w2 : World) : Prop := vo = .slice (some ⟨g, 0, none⟩) q.length c ∧ OwnQ w2 0 (.slice (some ⟨g, 0, none⟩) q.length c) q ∧ w.grownBy w2 (some g)
theorem append_del {w : World} {g n c : Nat} {x : Sg × Value} {q : Sgs} (h : OwnQ w 0 (.slice (some ⟨g, 0, none⟩) n c) (x :: q)) (hone : ∀ y ∈ q, y.2.oneCell' = true) (hc : q.length ≤ c) (ty : TypeId) :
    ∃ vo w2, (Builtin.append_ #[97, 97] ty #[.slice (some ⟨g, 0, none⟩) 0 c, .slice (some ⟨g, 2, none⟩) q.length (c - 1)]).run Tryz.prog w = .ok vo w2 ∧ DelP w g c q vo w2 := by
  obtain ⟨i0, hi, hz0, hz1, hz2⟩ := info_parts sg_zero
  have h0 : OwnQ w 0 (.slice (some ⟨g, 0, none⟩) 0 c) [] := by
    have := ownQ_take h 0 (Nat.zero_le _) (by simp)
    simpa using this
  obtain ⟨w2, hr, h1, h2⟩ := run_append_own_spare (P := Tryz.prog) w 0 97 ty 101 i0 2 Tryz.underlying97 hi hz1 g 0 c (sgCells []) h0 ⟨g, 2, none⟩ q.length (c - 1) (sgCells q) (by rw [sgCells_len])
    (by
      intro j u hj
      have e : sgCells (x :: q) = .int .i64 (x.1.num : Int) :: x.2 :: sgCells q := rfl
      have := h.cells (g := g) rfl (j + 2) u (by rw [e]; simpa using hj)
      rw [Addr.add_lit, Nat.zero_add] at this
      rw [Addr.add_lit, Nat.add_comm 2 j]
      exact this)
    (by
      intro u hu
      unfold sgCells at hu
      obtain ⟨y, hy, hu⟩ := List.mem_flatMap.1 hu
      simp at hu
      rcases hu with rfl | rfl
      · rfl
      · exact hone y hy) (by omega)
  rw [Nat.zero_add] at hr h1
  exact ⟨_, w2, hr, rfl, h1, h2⟩

set_option maxHeartbeats 4000000 in
set_option maxRecDepth 40000 in
theorem delete_any {w : World} {g n c : Nat} {x : Sg × Value} {q : Sgs} (h : OwnQ w 0 (.slice (some ⟨g, 0, none⟩) n c) (x :: q)) (hn : (x :: q).length = n) (hone : ∀ y ∈ q, y.2.oneCell' = true) (hq : q ≠ []) (hm : n ≤ 1048576) :
    Calls Tryz.prog 74 #[.slice (some ⟨g, 0, none⟩) n c, .int .i64 0, .int .i64 1] w fun e w' => e = .returned (.slice (some ⟨g, 0, none⟩) q.length c) ∧ OwnQ w' 0 (.slice (some ⟨g, 0, none⟩) q.length c) q ∧ Fr (fun k => k = g) w w' := by
  have hnc : n ≤ c := by
    rcases h.2 with ⟨h1, _⟩ | ⟨g', cap, cur, h1, _, _, h2, _⟩
    · cases h1
    · have e2 : c = cap := congrArg (fun v => match v with | Value.slice _ _ c => c | _ => 0) h1
      omega
  have hq1 : 1 ≤ q.length := List.length_pos_iff.2 hq
  obtain ⟨k, hk⟩ : ∃ k, q.length = k := ⟨_, rfl⟩
  have hkn : n = k + 1 := by rw [← hn, List.length_cons, hk]
  obtain ⟨cur, hblk⟩ := ownQ_type h (g := g) rfl
  obtain ⟨a3, z1⟩ := slice_seg3 g n c (by omega) hnc w
  have z2 : ∀ w, (Instr.slice 97 (.slice (some ⟨g, 0, none⟩) n c) none (some (.int .i64 0)) none).run Tryz.prog w = .ok (.slice (some ⟨g, 0, none⟩) 0 c) w := fun w => seg_cut (some ⟨g, 0, none⟩) n c 0 (Nat.zero_le _) w
  have z3 : ∀ w, (Instr.slice 97 (.slice (some ⟨g, 0, none⟩) n c) (some (.int .i64 1)) none none).run Tryz.prog w = .ok (.slice (some ⟨g, 2, none⟩) k (c - 1)) w := fun w => by
    have := slice_seg1 g n c (by omega) hnc w
    rw [if_neg (by omega), show n - 1 = k by omega] at this
    exact this
  have z4 : ∀ w, (Instr.slice 97 (.slice (some ⟨g, 0, none⟩) k c) (some (.int .i64 (k : Int))) (some (.int .i64 (n : Int))) none).run Tryz.prog w = .ok (.slice (some ⟨g, k * 2, none⟩) 1 (c - k)) w := fun w => by
    have := slice_seg2 g k n c (by omega) hnc w
    rw [show n - k = 1 by omega] at this
    exact this
  have HPS : Hid (w.heap[g]? = some (.cells cur 101 (0, 0))) := hblk
  have HQ : Hid (OwnQ w 0 (.slice (some ⟨g, 0, none⟩) n c) (x :: q)) := h
  have HO : Hid (∀ y ∈ q, y.2.oneCell' = true) := hone
  have HK : Hid (q.length = k ∧ n = k + 1 ∧ n ≤ c ∧ 1 ≤ k) := ⟨hk, hkn, hnc, by omega⟩
  rw [hk]
  have bn : (n : Int) ≤ 1048576 := by omega
  clear h hn hone hq hm hnc hq1 hk hkn hblk
  go_enter Tryz.func74, Tryz.ntmps74
  go_wp2_with (fail)
  have HAp : Hid (∀ u : World, u.heap[g]? = some (.cells cur 101 (0, 0)) → ∀ ty, ∃ vo w2, (Builtin.append_ #[97, 97] ty #[.slice (some ⟨g, 0, none⟩) 0 c, .slice (some ⟨g, 2, none⟩) k (c - 1)]).run Tryz.prog u = .ok vo w2 ∧ DelP u g c q vo w2) := fun u hu ty => by
    have := append_del (ownQ_keep (w' := u) HQ.out (fun j hj => by
      obtain rfl : g = j := Option.some.inj hj
      exact hu.trans HPS.out.symm)) HO.out (by have := HK.out; omega) ty
    rw [HK.out.1] at this
    exact this
  refine regionC (fun (w' : World) => True) 7 (by kernel_rfl) ?_
  (try (change wpAnyC _ _ _ _ _ _ _ _ _ (World.drew _)))
  refine nameW (fun W0 hW0 => ?_)
  have hC : Hid True := True.intro
  have hG : Hid (W0.heap[g]? = some (.cells cur 101 (0, 0))) := by show _ = _; rw [hW0]; exact HPS.out
  have hB : Hid (Below w.heap.size w W0) := by show Below _ _ _; rw [hW0]; exact ⟨rfl, rfl, rfl, Nat.le_refl _, fun _ _ => rfl⟩
  clear hW0
  refine takeC (i := 0) (v := ?_) rfl (by kernel_rfl) (by kernel_rfl) (by kernel_rfl) (by kernel_rfl) (by kernel_rfl) (fun _ _ _ h => h) hC.out (Or.inl ⟨by rfl, ?_⟩) ?_
  rotate_left 1
  · intro w' hw'
    skip
    go_simp
    first | done | with_reducible rfl | exact z2 _ | exact z3 _
  (try simp only [Act.put])
  (try simp only [List.setIfInBounds_toArray])
  (try simp only [List.set_cons_succ])
  (try simp only [List.set_cons_zero])
  refine takeC (i := 1) (v := ?_) rfl (by kernel_rfl) (by kernel_rfl) (by kernel_rfl) (by kernel_rfl) (by kernel_rfl) (fun _ _ _ h => h) hC.out (Or.inl ⟨by rfl, ?_⟩) ?_
  rotate_left 1
  · intro w' hw'
    skip
    go_simp
    first | done | with_reducible rfl | exact z2 _ | exact z3 _
  (try simp only [Act.put])
  (try simp only [List.setIfInBounds_toArray])
  (try simp only [List.set_cons_succ])
  (try simp only [List.set_cons_zero])
  refine takeC (i := 2) (v := ?_) rfl (by kernel_rfl) (by kernel_rfl) (by kernel_rfl) (by kernel_rfl) (by kernel_rfl) (fun _ _ _ h => h) hC.out (Or.inl ⟨by rfl, ?_⟩) ?_
  rotate_left 1
  · intro w' hw'
    skip
    go_simp
    first | done | with_reducible rfl | exact z2 _ | exact z3 _
  (try simp only [Act.put])
  (try simp only [List.setIfInBounds_toArray])
  (try simp only [List.set_cons_succ])
  (try simp only [List.set_cons_zero])
  refine takeC (i := 3) (v := ?_) rfl (by kernel_rfl) (by kernel_rfl) (by kernel_rfl) (by kernel_rfl) (by kernel_rfl) (fun _ _ _ h => h) hC.out (Or.inl ⟨by rfl, ?_⟩) ?_
  rotate_left 1
  · intro w' hw'
    skip
    go_simp
    first | done | with_reducible rfl | exact z2 _ | exact z3 _
  (try simp only [Act.put])
  (try simp only [List.setIfInBounds_toArray])
  (try simp only [List.set_cons_succ])
  (try simp only [List.set_cons_zero])
  refine takeC (i := 4) (v := ?_) rfl (by kernel_rfl) (by kernel_rfl) (by kernel_rfl) (by kernel_rfl) (by kernel_rfl) (fun _ _ _ h => h) hC.out (Or.inl ⟨by rfl, ?_⟩) ?_
  rotate_left 1
  · intro w' hw'
    skip
    go_simp
    first | done | with_reducible rfl | exact z2 _ | exact z3 _
  (try simp only [Act.put])
  (try simp only [List.setIfInBounds_toArray])
  (try simp only [List.set_cons_succ])
  (try simp only [List.set_cons_zero])
  refine takeC (i := 5) (v := ?_) rfl (by kernel_rfl) (by kernel_rfl) (by kernel_rfl) (by kernel_rfl) (by kernel_rfl) (fun _ _ _ h => h) hC.out (Or.inl ⟨by rfl, ?_⟩) ?_
  rotate_left 1
  · intro w' hw'
    skip
    go_simp
    first | done | with_reducible rfl | exact z2 _ | exact z3 _
  (try simp only [Act.put])
  (try simp only [List.setIfInBounds_toArray])
  (try simp only [List.set_cons_succ])
  (try simp only [List.set_cons_zero])
  refine readyC (rs := [6]) (by kernel_rfl) (by simp) ?_
  refine ReadyC.cons rfl (fun K hK => ?_) ReadyC.nil
  refine stepC_runs rfl (.tmp 22) (.tmp 25) rfl _ _ rfl rfl _ (HAp.out W0 hG.out _) ?_
  intro vo W1 hA
  obtain ⟨hvo, hA1, hA2⟩ := hA
  rw [HK.out.1] at hvo hA1
  subst hvo
  refine hK _ _ (fun _ => True.intro) ?_
  clear hK K
  (try simp only [Act.put])
  (try simp only [List.setIfInBounds_toArray])
  (try simp only [List.set_cons_succ])
  (try simp only [List.set_cons_zero])
  have HA1 : Hid (OwnQ W1 0 (.slice (some ⟨g, 0, none⟩) k c) q) := hA1
  have HA2 : Hid (Fr (fun j => j = g) w W1) := (Fr.of_below _ hB.out).grown hA2 (fun j hj => (Option.some.inj hj).symm)
  clear hA1 hA2 hG hB
  refine readyC (rs := [7]) (by kernel_rfl) (by simp) ?_
  refine ReadyC.cons rfl (fun K hK => ?_) ReadyC.nil
  go_simp
  refine hK _ _ (fun _ => hC.out) ?_
  clear hK K
  (try simp only [Act.put])
  (try simp only [List.setIfInBounds_toArray])
  (try simp only [List.set_cons_succ])
  (try simp only [List.set_cons_zero])
  refine doneC (by kernel_rfl) ?_ _
  clear z1 z2 z3
  obtain ⟨w5, hw5⟩ : ∃ w5, w5 = W1 := ⟨_, rfl⟩
  subst hw5
  obtain ⟨cu5, hb5⟩ := ownQ_type HA1.out (g := g) rfl
  have hsz : cu5.size = c * 2 := by
    rcases HA1.out.2 with ⟨h1, _⟩ | ⟨g', cap, cur', h1, _, h2, _, _, h3, _⟩
    · cases h1
    · have e2 : c = cap := congrArg (fun v => match v with | Value.slice _ _ c => c | _ => 0) h1
      have e3 : g = g' := congrArg (fun v => match v with | Value.slice (some a) _ _ => a.block | _ => 0) h1
      subst e2 e3
      rw [hb5] at h2
      have e4 : cu5 = cur' := by simpa using h2
      rw [e4]; exact h3
  have hkc : k * 2 + 1 < cu5.size := by have := HK.out; omega
  have hcl := fun ty => clear_seg w5 ty g (k * 2) (c - k) (by rw [cell_blk hb5 (i := k * 2) (v := cu5[k * 2]) (Array.getElem?_eq_getElem (by omega))]; rfl) (by rw [cell_blk hb5 (i := k * 2 + 1) (v := cu5[k * 2 + 1]) (Array.getElem?_eq_getElem (by omega))]; rfl) (free_blk hb5 _) (free_blk hb5 _)
  have HB5 : Hid (w5.heap[g]? = some (.cells cu5 101 (0, 0))) := hb5
  clear hb5 hsz hkc
  go_wp2_with (fail)
  go_ret
  have hset : w5.setCells g (k * 2) [.int .i64 0, .slice none 0 0] = (w5.setCell ⟨g, k * 2, none⟩ (.int .i64 0)).setCell ⟨g, k * 2 + 1, none⟩ (.slice none 0 0) := by rfl
  rw [hset]
  refine ⟨rfl, ?_, Fr.set (S := fun j => j = g) (p := ⟨g, k * 2 + 1, none⟩) (Fr.set (S := fun j => j = g) (p := ⟨g, k * 2, none⟩) HA2.out rfl _) rfl _⟩
  rw [← HK.out.1]
  have hA1 := HA1.out
  rw [← HK.out.1] at hA1
  rcases hA1 with ⟨h0, ⟨h1, _⟩ | ⟨g', cap, cur', h1, h2, h3, h4, h5, h6, h7⟩⟩
  · cases h1
  · have e2 : c = cap := congrArg (fun v => match v with | Value.slice _ _ c => c | _ => 0) h1
    have e3 : g = g' := congrArg (fun v => match v with | Value.slice (some a) _ _ => a.block | _ => 0) h1
    subst e2 e3
    refine ⟨h0, .inr ⟨g, c, _, h1, h2, set_blk (set_blk h3 _ _) _ _, h4, h5, by simpa using h6, ?_⟩⟩
    rw [← h7]
    simp only [Array.toList_setIfInBounds]
    rw [List.take_set_of_le (by omega), List.take_set_of_le (by omega)]
end Go.Proofs.YtkbmblmnhhlicaaGreatDoor
