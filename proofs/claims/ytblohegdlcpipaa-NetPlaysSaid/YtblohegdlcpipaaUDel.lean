/- A net: slices.Delete of a letter; drop; walked. -/
import Derived.Test.YtblohegdlcpipaaUSend
import Derived.Deep.DeepAppendRoom
import Derived.Lib.SliceRun
set_option linter.unusedVariables false
namespace Go.Proofs.Ytblohegdlcpipaa
open Go.RowKit

theorem el_letter : Try.prog.elem 50 = 57 := by kernel_rfl
theorem sz_letter (w : World) : (sizeOf 57).run Try.prog w = .ok 3 w := by kernel_rfl
theorem und_letter : Try.prog.underlying 50 = some (.slice (Try.prog.elem 50)) := by rw [el_letter]; exact Try.underlying50
/-- Where the rest of a row begins. -/
def restP (g c k : Nat) : Addr := if c = k then ⟨g, 0, none⟩ else ⟨g, k * 3, none⟩
theorem slice_from (g n c k : Nat) (hk : k ≤ n) (hc : n ≤ c) (w : World) : (Instr.slice 50 (.slice (some ⟨g, 0, none⟩) n c) (some (.int .i64 (k : Int))) none none).run Try.prog w = .ok (.slice (some (restP g c k)) (n - k) (c - k)) w := by
  rw [run_slice_l w 50 (some ⟨g, 0, none⟩) n c und_letter .i64 (k : Int) (by omega) (by omega), el_letter, sz_letter]
  simp only [Result.andThen, sliced, Int.toNat_natCast, restP]
  by_cases h1 : c = k
  · subst h1; simp
  · rw [if_neg (by omega), if_neg h1]; simp [Addr.add_lit]
theorem slice_to3 (g n c k : Nat) (hk : k ≤ c) (hc : n ≤ c) (w : World) : (Instr.slice 50 (.slice (some ⟨g, 0, none⟩) n c) none (some (.int .i64 (k : Int))) none).run Try.prog w = .ok (.slice (some ⟨g, 0, none⟩) k c) w := by
  rw [run_slice_h w 50 (some ⟨g, 0, none⟩) n c und_letter .i64 (k : Int) (by omega) (by omega), el_letter, sz_letter]
  simp only [Result.andThen, sliced, Int.toNat_natCast]
  by_cases h1 : c = 0
  · subst h1; have : k = 0 := by omega
    subst this; simp
  · simp [Addr.add_lit]
theorem slice_mid (g n c k m : Nat) (hk : k < m) (hm : m ≤ c) (hc : n ≤ c) (w : World) : (Instr.slice 50 (.slice (some ⟨g, 0, none⟩) n c) (some (.int .i64 (k : Int))) (some (.int .i64 (m : Int))) none).run Try.prog w = .ok (.slice (some ⟨g, k * 3, none⟩) (m - k) (c - k)) w := by
  rw [run_slice_lh w 50 (some ⟨g, 0, none⟩) n c und_letter .i64 .i64 (k : Int) (m : Int) (by omega) (by omega) (by omega), el_letter, sz_letter]
  simp only [Result.andThen, sliced, Int.toNat_natCast]
  rw [if_neg (by omega)]
  simp [Addr.add_lit]
theorem slice_full (g n c k m l : Nat) (hk : k ≤ m) (hm : m ≤ l) (hl : l ≤ c) (w : World) : ∃ a, (Instr.slice 50 (.slice (some ⟨g, 0, none⟩) n c) (some (.int .i64 (k : Int))) (some (.int .i64 (m : Int))) (some (.int .i64 (l : Int)))).run Try.prog w = .ok (.slice a (m - k) (l - k)) w := by
  rw [run_slice_lhm w 50 (some ⟨g, 0, none⟩) n c und_letter .i64 .i64 .i64 (k : Int) (m : Int) (l : Int) (by omega) (by omega) (by omega) (by omega), el_letter, sz_letter]
  simp only [Result.andThen, sliced, Int.toNat_natCast]
  exact ⟨_, rfl⟩

theorem clear_letter (w : World) (ty : TypeId) (b o c : Nat) (h : ∀ q, q < 3 → (w.cell? ⟨b, o + q, none⟩).isSome = true) (f : ∀ q, q < 3 → w.frozen? ⟨b, o + q, none⟩ = false) :
    (Builtin.clear_ #[50] ty #[.slice (some ⟨b, o, none⟩) 1 c]).run Try.prog w = .ok (.tuple #[]) (w.setCells b o [.int .i64 0, .int .i64 0, .slice none 0 0]) := by
  have hv : ∀ w, (zeroValue 57).run Try.prog w = .ok (.agg #[.int .i64 0, .int .i64 0, .slice none 0 0]) w := fun w => by kernel_rfl
  have hzc : (Builtin.zeroCells (Value.agg #[.int .i64 0, .int .i64 0, .slice none 0 0]).cells 1).toList = [.int .i64 0, .int .i64 0, .slice none 0 0] := by kernel_rfl
  have hst := run_storeCells_cells (P := Try.prog) b o [.int .i64 0, .int .i64 0, .slice none 0 0] 0 w (by
    intro j hj
    simp only [Nat.add_zero]
    exact h j (by simpa using hj)) (by
    intro j hj
    simp only [Nat.add_zero]
    exact f j (by simpa using hj)) (by
    intro v hv'
    simp at hv'
    rcases hv' with rfl | rfl <;> rfl)
  simp only [Nat.add_zero] at hst
  simp [Builtin.clear_, run_underlying Try.underlying50, hv, hzc, hst]

theorem OwnL.cap {w : World} {g n c : Nat} {xs : List Lr} (h : OwnL w (.slice (some ⟨g, 0, none⟩) n c) xs) : n = xs.length ∧ n ≤ c ∧ ∃ cur, w.heap[g]? = some (.cells cur 57 (0, 0)) ∧ cur.size = c * 3 ∧ cur.toList.take (xs.length * 3) = flatL xs ∧ c ≤ maxLen := by
  rcases h.2 with ⟨h1, _⟩ | ⟨g', cap, cur, h1, _, h2, h3, h4, h5, h6⟩
  · cases h1
  · have e0 : n = xs.length := congrArg (fun v => match v with | Value.slice _ n _ => n | _ => 0) h1
    have e2 : c = cap := congrArg (fun v => match v with | Value.slice _ _ c => c | _ => 0) h1
    have e3 : g = g' := congrArg (fun v => match v with | Value.slice (some a) _ _ => a.block | _ => 0) h1
    subst e2 e3
    exact ⟨e0, by omega, cur, h2, h5, h6, h4⟩
theorem OwnL.mk' {w : World} {g c : Nat} {xs : List Lr} {cur : Array Value} (h : w.heap[g]? = some (.cells cur 57 (0, 0))) (hn : xs.length ≤ c) (hm : c ≤ maxLen) (hs : cur.size = c * 3) (ht : cur.toList.take (xs.length * 3) = flatL xs) : OwnL w (.slice (some ⟨g, 0, none⟩) xs.length c) xs :=
  ⟨flatL_len xs, .inr ⟨g, c, cur, rfl, Nat.zero_le _, h, hn, hm, hs, ht⟩⟩
theorem OwnL.take {w : World} {g n c : Nat} {xs : List Lr} (h : OwnL w (.slice (some ⟨g, 0, none⟩) n c) xs) (k : Nat) (hk : k ≤ n) : OwnL w (.slice (some ⟨g, 0, none⟩) k c) (xs.take k) := by
  obtain ⟨h1, h2, cur, h3, h4, h5, h6⟩ := h.cap
  have hl : (xs.take k).length = k := by rw [List.length_take]; omega
  have := OwnL.mk' (xs := xs.take k) h3 (by omega) h6 h4 (by rw [hl, flatL_take, ← h5, List.take_take, Nat.min_eq_left (by omega)])
  rwa [hl] at this

/-- The append of slices.Delete. -/
def DelL (g k c : Nat) (ys : List Lr) (w : World) (vo : Value) (w2 : World) : Prop := vo = .slice (some ⟨g, 0, none⟩) k c ∧ OwnL w2 (.slice (some ⟨g, 0, none⟩) k c) ys ∧ w.grownBy w2 (some g)
theorem append_rest {w : World} {g k c i : Nat} {xs : List Lr} (h : OwnL w (.slice (some ⟨g, 0, none⟩) (k + 1) c) xs) (hi : i ≤ k) (ty : TypeId) :
    ∃ vo w2, (Builtin.append_ #[50, 50] ty #[.slice (some ⟨g, 0, none⟩) i c, .slice (some (restP g c (i + 1))) (k - i) (c - (i + 1))]).run Try.prog w = .ok vo w2 ∧ DelL g k c (xs.eraseIdx i) w vo w2 := by
  obtain ⟨i0, hz, hz0, hz1, hz2⟩ := info_parts infoL
  obtain ⟨h1, h2, cur, h3, h4, h5, h6⟩ := h.cap
  have h0 := h.take i (by omega)
  have hl : (xs.drop (i + 1)).length = k - i := by rw [List.length_drop]; omega
  have hown : w.ownsRow 0 57 3 (.slice (some ⟨g, 0, none⟩) i c) i (flatL (xs.take i)) := by
    have : (xs.take i).length = i := by rw [List.length_take]; omega
    have h0' := h0
    unfold OwnL at h0'
    rwa [this] at h0'
  obtain ⟨w2, hr, ho, hg⟩ := run_append_own_spare (P := Try.prog) w 0 50 ty 57 i0 3 Try.underlying50 hz hz1 g i c (flatL (xs.take i)) hown (restP g c (i + 1)) (k - i) (c - (i + 1)) (flatL (xs.drop (i + 1))) (by rw [flatL_len, hl])
    (by
      intro j u hj
      have hjl := (List.getElem?_eq_some_iff.1 hj).1
      rw [flatL_len, hl] at hjl
      rw [flatL_drop, List.getElem?_drop] at hj
      have hc1 : c ≠ i + 1 := by omega
      unfold restP
      rw [if_neg hc1, Addr.add_lit]
      have h7 : (i + 1) * 3 + j < cur.size := by rw [h4]; omega
      rw [← h5, List.getElem?_take, if_pos (by omega), Array.getElem?_toList] at hj
      exact cell_blk h3 hj)
    (fun u hu => flatL_one hu) (by omega)
  have e1 : i + (k - i) = k := by omega
  rw [e1, ← flatL_append, ← List.eraseIdx_eq_take_drop_succ] at ho
  rw [e1] at hr
  have hlen : (xs.eraseIdx i).length = k := by rw [List.length_eraseIdx]; split <;> omega
  refine ⟨_, w2, hr, rfl, ?_, hg⟩
  show w2.ownsRow _ _ _ _ _ _
  rw [hlen]
  exact ho

set_option maxHeartbeats 4000000 in
set_option maxRecDepth 40000 in
theorem udelete_any {w : World} {g k c i : Nat} {xs : List Lr} (h : OwnL w (.slice (some ⟨g, 0, none⟩) (k + 1) c) xs) (hi : i ≤ k) (hm : k ≤ 200) :
    Calls Try.prog 34 #[.slice (some ⟨g, 0, none⟩) (k + 1) c, .int .i64 (i : Int), .int .i64 ((i : Int) + 1)] w fun e w' => e = .returned (.slice (some ⟨g, 0, none⟩) k c) ∧ OwnL w' (.slice (some ⟨g, 0, none⟩) k c) (xs.eraseIdx i) ∧ Fr (fun j => j = g) w w' := by
  obtain ⟨hl, hnc, cur, hblk, hsz, htk, hmx⟩ := h.cap
  obtain ⟨a3, z1⟩ := slice_full g (k + 1) c i (i + 1) (k + 1) (by omega) (by omega) hnc w
  have z2 : ∀ w, (Instr.slice 50 (.slice (some ⟨g, 0, none⟩) (k + 1) c) none (some (.int .i64 (i : Int))) none).run Try.prog w = .ok (.slice (some ⟨g, 0, none⟩) i c) w := slice_to3 g (k + 1) c i (by omega) hnc
  have z3 : ∀ w, (Instr.slice 50 (.slice (some ⟨g, 0, none⟩) (k + 1) c) (some (.int .i64 ((i : Int) + 1))) none none).run Try.prog w = .ok (.slice (some (restP g c (i + 1))) (k - i) (c - (i + 1))) w := fun w => by
    have := slice_from g (k + 1) c (i + 1) (by omega) hnc w
    rw [show k + 1 - (i + 1) = k - i by omega] at this
    exact this
  have z4 : ∀ w, (Instr.slice 50 (.slice (some ⟨g, 0, none⟩) k c) (some (.int .i64 (k : Int))) (some (.int .i64 ((k : Int) + 1))) none).run Try.prog w = .ok (.slice (some ⟨g, k * 3, none⟩) 1 (c - k)) w := fun w => by
    have := slice_mid g k c k (k + 1) (by omega) (by omega) (by omega) w
    rw [show k + 1 - k = 1 by omega] at this
    exact this
  have q0 : ((k + 1 : Nat) : Int) = (k : Int) + 1 := by omega
  simp only [q0] at z1
  have q1 : ((i + 1 : Nat) : Int) = (i : Int) + 1 := by omega
  simp only [q1] at z1
  have HPS : Hid (w.heap[g]? = some (.cells cur 57 (0, 0))) := hblk
  have HQ : Hid (OwnL w (.slice (some ⟨g, 0, none⟩) (k + 1) c) xs) := h
  have HK : Hid (k + 1 = xs.length ∧ k + 1 ≤ c ∧ i ≤ k) := ⟨hl, hnc, hi⟩
  have bn : (k : Int) ≤ 200 := by omega
  have bi : (i : Int) ≤ (k : Int) := by omega
  have q2 : ¬ ((i : Int) = (i : Int) + 1) := by omega
  clear h hi hm hl hnc hblk hsz htk hmx
  go_enter Try.func34, Try.ntmps34
  go_wp2_with (fail)
  have HAp : Hid (∀ u : World, u.heap[g]? = some (.cells cur 57 (0, 0)) → ∀ ty, ∃ vo w2, (Builtin.append_ #[50, 50] ty #[.slice (some ⟨g, 0, none⟩) i c, .slice (some (restP g c (i + 1))) (k - i) (c - (i + 1))]).run Try.prog u = .ok vo w2 ∧ DelL g k c (xs.eraseIdx i) u vo w2) := fun u hu ty =>
    append_rest (HQ.out.keep (fun j hj => by
      obtain rfl : g = j := Option.some.inj hj
      exact hu.trans HPS.out.symm)) HK.out.2.2 ty
  refine regionC (fun (w' : World) => True) 7 (by kernel_rfl) ?_
  (try (change wpAnyC _ _ _ _ _ _ _ _ _ (World.drew _)))
  refine nameW (fun W0 hW0 => ?_)
  have hC : Hid (True) := by
    exact True.intro
  have hG : Hid (W0.heap[g]? = some (.cells cur 57 (0, 0))) := by show _ = _; rw [hW0]; exact HPS.out
  have hB : Hid (Below w.heap.size w W0) := by show Below _ _ _; rw [hW0]; exact ⟨rfl, rfl, rfl, Nat.le_refl _, fun _ _ => rfl⟩
  clear hW0
  refine takeC (i := 0) (v := ?_) rfl (by kernel_rfl) (by kernel_rfl) (by kernel_rfl) (by kernel_rfl) (by kernel_rfl) (fun _ _ _ h => h) hC.out (Or.inl ⟨by rfl, ?_⟩) ?_
  rotate_left 1
  · intro w' hw'
    skip
    go_simp
    first | done | with_reducible rfl | exact z2 _ | exact z3 _
  (try simp only [Act.put])
  (try simp only [List.setIfInBounds_toArray])
  (try simp only [List.set_cons_succ])
  (try simp only [List.set_cons_zero])
  refine takeC (i := 1) (v := ?_) rfl (by kernel_rfl) (by kernel_rfl) (by kernel_rfl) (by kernel_rfl) (by kernel_rfl) (fun _ _ _ h => h) hC.out (Or.inl ⟨by rfl, ?_⟩) ?_
  rotate_left 1
  · intro w' hw'
    skip
    go_simp
    first | done | with_reducible rfl | exact z2 _ | exact z3 _
  (try simp only [Act.put])
  (try simp only [List.setIfInBounds_toArray])
  (try simp only [List.set_cons_succ])
  (try simp only [List.set_cons_zero])
  refine takeC (i := 2) (v := ?_) rfl (by kernel_rfl) (by kernel_rfl) (by kernel_rfl) (by kernel_rfl) (by kernel_rfl) (fun _ _ _ h => h) hC.out (Or.inl ⟨by rfl, ?_⟩) ?_
  rotate_left 1
  · intro w' hw'
    skip
    go_simp
    first | done | with_reducible rfl | exact z2 _ | exact z3 _
  (try simp only [Act.put])
  (try simp only [List.setIfInBounds_toArray])
  (try simp only [List.set_cons_succ])
  (try simp only [List.set_cons_zero])
  refine takeC (i := 3) (v := ?_) rfl (by kernel_rfl) (by kernel_rfl) (by kernel_rfl) (by kernel_rfl) (by kernel_rfl) (fun _ _ _ h => h) hC.out (Or.inl ⟨by rfl, ?_⟩) ?_
  rotate_left 1
  · intro w' hw'
    skip
    go_simp
    first | done | with_reducible rfl | exact z2 _ | exact z3 _
  (try simp only [Act.put])
  (try simp only [List.setIfInBounds_toArray])
  (try simp only [List.set_cons_succ])
  (try simp only [List.set_cons_zero])
  refine takeC (i := 4) (v := ?_) rfl (by kernel_rfl) (by kernel_rfl) (by kernel_rfl) (by kernel_rfl) (by kernel_rfl) (fun _ _ _ h => h) hC.out (Or.inl ⟨by rfl, ?_⟩) ?_
  rotate_left 1
  · intro w' hw'
    skip
    go_simp
    first | done | with_reducible rfl | exact z2 _ | exact z3 _
  (try simp only [Act.put])
  (try simp only [List.setIfInBounds_toArray])
  (try simp only [List.set_cons_succ])
  (try simp only [List.set_cons_zero])
  refine takeC (i := 5) (v := ?_) rfl (by kernel_rfl) (by kernel_rfl) (by kernel_rfl) (by kernel_rfl) (by kernel_rfl) (fun _ _ _ h => h) hC.out (Or.inl ⟨by rfl, ?_⟩) ?_
  rotate_left 1
  · intro w' hw'
    skip
    go_simp
    first | done | with_reducible rfl | exact z2 _ | exact z3 _
  (try simp only [Act.put])
  (try simp only [List.setIfInBounds_toArray])
  (try simp only [List.set_cons_succ])
  (try simp only [List.set_cons_zero])
  refine readyC (rs := [6]) (by kernel_rfl) (by simp) ?_
  refine ReadyC.cons rfl (fun K hK => ?_) ReadyC.nil
  refine stepC_runs rfl (.tmp 22) (.tmp 25) rfl _ _ rfl rfl _ (HAp.out W0 hG.out _) ?_
  intro vo W1 hA
  obtain ⟨hvo, hA1, hA2⟩ := hA
  subst hvo
  refine hK _ _ (fun _ => True.intro) ?_
  clear hK K
  (try simp only [Act.put])
  (try simp only [List.setIfInBounds_toArray])
  (try simp only [List.set_cons_succ])
  (try simp only [List.set_cons_zero])
  have HA1 : Hid (OwnL W1 (.slice (some ⟨g, 0, none⟩) k c) (xs.eraseIdx i)) := hA1
  have HA2 : Hid (Fr (fun j => j = g) w W1) := (Fr.of_below _ hB.out).grown hA2 (fun j hj => (Option.some.inj hj).symm)
  clear hA1 hA2 hG hB
  refine readyC (rs := [7]) (by kernel_rfl) (by simp) ?_
  refine ReadyC.cons rfl (fun K hK => ?_) ReadyC.nil
  go_simp
  refine hK _ _ (fun _ => hC.out) ?_
  clear hK K
  (try simp only [Act.put])
  (try simp only [List.setIfInBounds_toArray])
  (try simp only [List.set_cons_succ])
  (try simp only [List.set_cons_zero])
  refine doneC (by kernel_rfl) ?_ _
  clear z1 z2 z3
  obtain ⟨w5, hw5⟩ : ∃ w5, w5 = W1 := ⟨_, rfl⟩
  subst hw5
  obtain ⟨hl5, hc5, cu5, hb5, hs5, ht5, hm5⟩ := HA1.out.cap
  have hkc : ∀ q, q < 3 → k * 3 + q < cu5.size := fun q hq => by rw [hs5]; have := HK.out; omega
  have hcl := fun ty => clear_letter w5 ty g (k * 3) (c - k) (fun q hq => by rw [cell_blk hb5 (i := k * 3 + q) (v := cu5[k * 3 + q]'(hkc q hq)) (Array.getElem?_eq_getElem _)]; rfl) (fun q hq => free_blk hb5 _)
  have HB5 : Hid (w5.heap[g]? = some (.cells cu5 57 (0, 0)) ∧ k = (xs.eraseIdx i).length ∧ k ≤ c ∧ cu5.size = c * 3 ∧ cu5.toList.take ((xs.eraseIdx i).length * 3) = flatL (xs.eraseIdx i) ∧ c ≤ maxLen) := ⟨hb5, hl5, hc5, hs5, ht5, hm5⟩
  clear hb5 hs5 hkc hl5 hc5 ht5 hm5
  go_wp2_with (fail)
  go_ret
  have hset : w5.setCells g (k * 3) [.int .i64 0, .int .i64 0, .slice none 0 0] = ((w5.setCell ⟨g, k * 3, none⟩ (.int .i64 0)).setCell ⟨g, k * 3 + 1, none⟩ (.int .i64 0)).setCell ⟨g, k * 3 + 2, none⟩ (.slice none 0 0) := by rfl
  rw [hset]
  refine ⟨rfl, ?_, Fr.set (S := fun j => j = g) (p := ⟨g, k * 3 + 2, none⟩) (Fr.set (S := fun j => j = g) (p := ⟨g, k * 3 + 1, none⟩) (Fr.set (S := fun j => j = g) (p := ⟨g, k * 3, none⟩) HA2.out rfl _) rfl _) rfl _⟩
  obtain ⟨hb5, hl5, hc5, hs5, ht5, hm5⟩ := HB5.out
  rw [hl5]
  have hsz : (((cu5.setIfInBounds (k * 3) (.int .i64 0)).setIfInBounds (k * 3 + 1) (.int .i64 0)).setIfInBounds (k * 3 + 2) (.slice none 0 0)).size = c * 3 := by simpa using hs5
  refine OwnL.mk' ?_ (by omega) hm5 hsz ?_
  · have := set_blk (set_blk (set_blk hb5 (k * 3) (.int .i64 0)) (k * 3 + 1) (.int .i64 0)) (k * 3 + 2) (.slice none 0 0)
    rw [← hl5]; exact this
  · rw [← ht5]
    simp only [Array.toList_setIfInBounds]
    rw [← hl5, List.take_set_of_le (by omega), List.take_set_of_le (by omega), List.take_set_of_le (by omega)]
end Go.Proofs.Ytblohegdlcpipaa
