/- Several texts in one. -/
import Derived.Test.YtjdijlaoeoikhaaGreatDoorG09
import Derived.Test.YtjdijlaoeoikhaaGreatDoorG28
set_option linter.unusedVariables false
/- A region that draws its order: one operation of it at a time. -/
namespace Go.Proofs.YtjdijlaoeoikhaaGreatDoor
open Go.RowKit

theorem wpOp_val {P : Program} {ops : Array Oper} {Q : Exit → Act → World → Prop} {i : Nat} {o : Oper} {K : Act → World → Prop} {a : Act} {w w' : World} {v : Value} (ho : ops[i]? = some o) (hg : o.guard = none) (hrun : (execOp a.eval o).run P w = .ok (.value v) w') (hK : K (a.put o.dst v) w') : wpOp P ops Q i K a w := by
  unfold wpOp
  simp only [ho, Region.wanted, hg, if_true]
  left
  unfold Oper.wp
  rw [hrun]
  exact hK
theorem wpOp_skip {P : Program} {ops : Array Oper} {Q : Exit → Act → World → Prop} {i : Nat} {o : Oper} {K : Act → World → Prop} {a : Act} {w w' : World} (ho : ops[i]? = some o) (hg : o.guard = none) (hrun : (execOp a.eval o).run P w = .ok .skip w') (hK : K (a.put o.dst undef) w') : wpOp P ops Q i K a w := by
  unfold wpOp
  simp only [ho, Region.wanted, hg, if_true]
  left
  unfold Oper.wp
  rw [hrun]
  exact hK
theorem wpOp_call {P : Program} {ops : Array Oper} {Q : Exit → Act → World → Prop} {i : Nat} {o : Oper} {K : Act → World → Prop} {a : Act} {w : World} {f : FuncId} {xs : Array Value} {R : Value → World → Prop} (ho : ops[i]? = some o) (hg : o.guard = none) (hrun : (execOp a.eval o).run P w = .ok (.enter f xs) w) (hc : Calls P f xs w fun e w' => ∃ v, e = .returned v ∧ R v w') (hK : ∀ v w', R v w' → K (a.put o.dst v) w') : wpOp P ops Q i K a w := by
  unfold wpOp
  simp only [ho, Region.wanted, hg, if_true]
  left
  unfold Oper.wp
  rw [hrun]
  show Calls P f xs w _
  refine hc.mono ?_
  rintro e w' ⟨v, rfl, h⟩
  exact hK v w' h
/-- A flag that is set stays set, and no other is. -/
theorem flag_ne {s : Array Bool} {i k : Nat} (h : i ≠ k) (hk : (s.setIfInBounds i true).getD k false = true) : s.getD k false = true := by
  rw [Array.getD_eq_getD_getElem?, Array.getElem?_setIfInBounds_ne h] at hk
  rwa [Array.getD_eq_getD_getElem?]
/-- What an operation that is ready waits for is done. -/
theorem ready_dep {ops : Array Oper} {s : Array Bool} {i j : Nat} {o : Oper} (h : i ∈ Region.ready .any ops s) (ho : ops[i]? = some o) (hj : (o.after.any fun e => e.on == j && Region.binds .any e) = true) : s.getD j false = true := by
  obtain ⟨_, o', ho', hall⟩ := mem_ready.1 h
  rw [ho] at ho'
  cases ho'
  rw [Array.any_eq_true] at hj
  obtain ⟨k, hk, he⟩ := hj
  simp only [Bool.and_eq_true, beq_iff_eq] at he
  have := hall _ (Array.getElem_mem hk) he.2
  rwa [he.1] at this
end Go.Proofs.YtjdijlaoeoikhaaGreatDoor

/- A region that draws its order: when nothing is ready any more, all is done. -/
namespace Go.Proofs.YtjdijlaoeoikhaaGreatDoor
open Go.RowKit
def ordB (ops : Array Oper) : Bool := (List.range ops.size).all fun i => match ops[i]? with
  | some o => o.after.all fun e => !Region.binds .any e || decide (e.on < i)
  | none => true
theorem flag_set {s : Array Bool} {i : Nat} (h : s.getD i true = false) : (s.setIfInBounds i true).getD i false = true := by
  have h1 := undone h
  rw [Array.getElem?_toList] at h1
  have hlt : i < s.size := (Array.getElem?_eq_some_iff.1 h1).1
  rw [Array.getD_eq_getD_getElem?, Array.getElem?_setIfInBounds_self_of_lt hlt]
  rfl
theorem flag_keep {s : Array Bool} {i k : Nat} (h : s.getD k false = true) : (s.setIfInBounds i true).getD k false = true := by
  by_cases hik : i = k
  · subst hik
    have hlt : i < s.size := by
      rcases Nat.lt_or_ge i s.size with q | q
      · exact q
      · rw [Array.getD_eq_getD_getElem?, Array.getElem?_eq_none q] at h; cases h
    rw [Array.getD_eq_getD_getElem?, Array.getElem?_setIfInBounds_self_of_lt hlt]
    rfl
  · rw [Array.getD_eq_getD_getElem?, Array.getElem?_setIfInBounds_ne hik, ← Array.getD_eq_getD_getElem?]
    exact h
theorem all_done {ops : Array Oper} {s : Array Bool} (hB : ordB ops = true) (hsz : s.size = ops.size) (hr : Region.ready .any ops s = []) : ∀ i, i < ops.size → s.getD i false = true := by
  intro i
  induction i using Nat.strongRecOn with
  | ind i ih =>
    intro hi
    have hlt : i < s.size := by omega
    cases hs : s.getD i true with
    | true =>
      rw [Array.getD_eq_getD_getElem?, Array.getElem?_eq_getElem hlt] at hs ⊢
      exact hs
    | false =>
      exfalso
      have hm : i ∈ Region.ready .any ops s := by
        refine mem_ready.2 ⟨hs, ops[i], Array.getElem?_eq_getElem hi, fun e he hb => ?_⟩
        have h1 := List.all_eq_true.1 hB i (List.mem_range.2 hi)
        rw [Array.getElem?_eq_getElem hi] at h1
        have h2 := Array.all_eq_true_iff_forall_mem.1 h1 e he
        rw [hb] at h2
        have h3 : e.on < i := by simpa using h2
        exact ih _ h3 (by omega)
      rw [hr] at hm
      cases hm
end Go.Proofs.YtjdijlaoeoikhaaGreatDoor

/- Package inline: defined; walked. -/
namespace Go.Proofs.YtjdijlaoeoikhaaGreatDoor
open Go.RowKit

def defdV (z : Nat) : Option Df8 → Value
  | some d => .tuple #[dfCell d, .int .i64 (z : Int)]
  | none => .tuple #[dfCell ([], [], []), .int .i64 0]

theorem noflag {n k : Nat} (h : (Array.replicate n false).getD k false = true) : False := by
  rw [Array.getD_eq_getD_getElem?, Array.getElem?_replicate] at h
  split at h <;> cases h

/-- What stands in the slots, and in memory, once so many operations are done. -/
def InvD (W1 : World) (wb : Nat) (p l z M FL T T1 T2 P13 : Value) (s : Array Bool) (a : Act) (w' : World) : Prop :=
  ∃ x8 x9 x10 x11 x12 x13 x14 x15 x16 x17 x18 x19, a = ⟨#[p, l, z, undef, undef, undef, .pointer (some ⟨wb, 0, none⟩), .int .i64 0, x8, x9, x10, x11, x12, x13, x14, x15, x16, x17, x18, x19, undef, undef, undef, undef, undef], []⟩ ∧
    (s.getD 0 false = true → x11 = p) ∧
    (s.getD 1 false = true → x12 = p) ∧
    (s.getD 2 false = true → x13 = P13) ∧
    (s.getD 3 false = true → x14 = M) ∧
    (s.getD 4 false = true → x15 = l) ∧
    (s.getD 5 false = true → x16 = FL) ∧
    (s.getD 6 false = true → x17 = T) ∧
    (s.getD 7 false = true → x10 = T) ∧
    (s.getD 8 false = true → x18 = T1) ∧
    (s.getD 9 false = true → x19 = T2) ∧
    (s.getD 12 false = true → x9 = T2) ∧
    (∃ u : BwI W1, w' = u.wo) ∧
    (s.getD 10 false = true → ∃ g, x8 = .pointer (some ⟨g, 0, none⟩) ∧ W1.heap.size ≤ g ∧ ∃ y0 y1 y2, Blk3 w' g 35 y0 y1 y2 ∧ (s.getD 11 false = true → T1 = .agg #[y0, y1, y2])) ∧
    (s.getD 11 false = true → s.getD 10 false = true) ∧ s.size = 13

set_option maxHeartbeats 2000000 in
set_option maxRecDepth 20000 in
theorem idefd_any (rb m n : Nat) (cs : Array Value) (look : Str8 → Option Df8) (l : Str8) (hl : l.length ≤ 1073741824) (hf : (fold l).length ≤ 1099511627776) (z : Nat) (w : World) (hr : w.heap[rb]? = some (.cells cs 45 (0, 0))) (hc : cs[6]? = some (.map (some m))) (hm : MapD w m n look) :
    Calls Tryz.prog 63 #[.pointer (some ⟨rb, 0, none⟩), strI l, .int .i64 (z : Int)] w fun e w' => e = .returned (defdV z (look (fold l))) ∧ Below w.heap.size w w' := by
  obtain ⟨W1, hW1⟩ : ∃ W1, W1 = w.alloc (.cells #[.string ⟨#[]⟩, .string ⟨#[]⟩, .string ⟨#[]⟩] 35) := ⟨_, rfl⟩
  have hb1 : Below w.heap.size w W1 := by rw [hW1]; exact (Below.refl _ _).alloc (Nat.le_refl _) _
  have HB1 := (show Hid _ from hb1)
  have hB0 := Blk3.new w 35 (.string ⟨#[]⟩) (.string ⟨#[]⟩) (.string ⟨#[]⟩)
  rw [← hW1] at hB0
  have HBu : Hid (∀ u : BwI W1, Blk3 u.wo w.heap.size 35 (.string ⟨#[]⟩) (.string ⟨#[]⟩) (.string ⟨#[]⟩)) := fun u => hB0.below u.is
  have hrl := blk.lt_of_block hr
  have c6 : ∀ u : BwI W1, u.wo.cell? ⟨rb, 6, none⟩ = some (.map (some m)) := fun u => ((hb1.trans (u.is.mono hb1.size)).cell hrl).trans (blk.cell_blk hr hc)
  have QF : Hid (∀ u : BwI W1, Calls Tryz.prog 102 #[strI l] u.wo fun e w' => ∃ v, e = .returned v ∧ v = .string ⟨(fold l).toArray⟩ ∧ Below u.wo.heap.size u.wo w') := fun u => (run.fold_any l u.wo hl).mono fun e w' q => ⟨_, q.1, rfl, q.2⟩
  have HLk : Hid (∀ u : BwI W1, (Instr.lookup 40 (.map (some m)) (.string ⟨(fold l).toArray⟩) true).run Tryz.prog u.wo = .ok (.tuple #[dfCell ((look (fold l)).getD ([], [], [])), .bool (look (fold l)).isSome]) u.wo) := fun u => mapd_look (mapd_below (mapd_below hm hb1) u.is) (fold l) hf
  have HU : Hid (∀ u : BwI W1, Below w.heap.size w u.wo) := fun u => HB1.out.trans (u.is.mono HB1.out.size)
  clear hm hr hc hb1 hB0
  generalize fold l = F at *
  generalize hdd : (look F).getD ([], [], []) = dd at *
  go_enter Tryz.func63, Tryz.ntmps63
  go_wp2
  rw [← hW1]
  refine region_inv (InvD W1 w.heap.size (.pointer (some ⟨rb, 0, none⟩)) (strI l) (.int .i64 (z : Int)) (.map (some m)) (.string ⟨F.toArray⟩) (.tuple #[dfCell dd, .bool (look F).isSome]) (dfCell dd) (.bool (look F).isSome) (.pointer (some ⟨rb, 6, none⟩))) (by kernel_rfl) ?start ?step ?fin
  case start => exact ⟨_, _, _, _, _, _, _, _, _, _, _, _, rfl, fun q => (noflag q).elim, fun q => (noflag q).elim, fun q => (noflag q).elim, fun q => (noflag q).elim, fun q => (noflag q).elim, fun q => (noflag q).elim, fun q => (noflag q).elim, fun q => (noflag q).elim, fun q => (noflag q).elim, fun q => (noflag q).elim, fun q => (noflag q).elim, BwI.first W1, fun q => (noflag q).elim, fun q => (noflag q).elim, by simp⟩
  case step =>
    intro s a wr i K inv hi hK
    have hi13 : i < 13 := by
      obtain ⟨_, o, ho, _⟩ := mem_ready.1 hi
      exact (Array.getElem?_eq_some_iff.1 ho).1
    obtain ⟨x8, x9, x10, x11, x12, x13, x14, x15, x16, x17, x18, x19, rfl, h0, h1, h2, h3, h4, h5, h6, h7, h8, h9, h12, ⟨u, rfl⟩, h10, h11, hsz⟩ := inv
    have hcase : i = 0 ∨ i = 1 ∨ i = 2 ∨ i = 3 ∨ i = 4 ∨ i = 5 ∨ i = 6 ∨ i = 7 ∨ i = 8 ∨ i = 9 ∨ i = 10 ∨ i = 11 ∨ i = 12 := by omega
    clear hi13
    have h10k : ∀ (j : Nat), j ≠ 10 → j ≠ 11 → (s.setIfInBounds j true).getD 10 false = true → ∃ g, x8 = .pointer (some ⟨g, 0, none⟩) ∧ W1.heap.size ≤ g ∧ ∃ y0 y1 y2, Blk3 u.wo g 35 y0 y1 y2 ∧ ((s.setIfInBounds j true).getD 11 false = true → dfCell dd = .agg #[y0, y1, y2]) := fun j j1 j2 q => by
      obtain ⟨g, e1, e2, y0, y1, y2, e3, e4⟩ := h10 (flag_ne j1 q)
      exact ⟨g, e1, e2, y0, y1, y2, e3, fun q' => e4 (flag_ne j2 q')⟩
    rcases hcase with rfl | rfl | rfl | rfl | rfl | rfl | rfl | rfl | rfl | rfl | rfl | rfl | rfl
    · exact wpOp_val rfl rfl (by kernel_rfl) (hK _ _ ⟨_, _, _, _, _, _, _, _, _, _, _, _, rfl, fun _ => rfl, fun q => h1 (flag_ne (by decide) q), fun q => h2 (flag_ne (by decide) q), fun q => h3 (flag_ne (by decide) q), fun q => h4 (flag_ne (by decide) q), fun q => h5 (flag_ne (by decide) q), fun q => h6 (flag_ne (by decide) q), fun q => h7 (flag_ne (by decide) q), fun q => h8 (flag_ne (by decide) q), fun q => h9 (flag_ne (by decide) q), fun q => h12 (flag_ne (by decide) q), ⟨u, rfl⟩, h10k 0 (by decide) (by decide), fun q => flag_keep (h11 (flag_ne (by decide) q)), by rw [Array.size_setIfInBounds]; exact hsz⟩)
    · have e0 := h0 (ready_dep hi rfl (by kernel_rfl))
      subst e0
      exact wpOp_val rfl rfl (by kernel_rfl) (hK _ _ ⟨_, _, _, _, _, _, _, _, _, _, _, _, rfl, fun q => h0 (flag_ne (by decide) q), fun _ => rfl, fun q => h2 (flag_ne (by decide) q), fun q => h3 (flag_ne (by decide) q), fun q => h4 (flag_ne (by decide) q), fun q => h5 (flag_ne (by decide) q), fun q => h6 (flag_ne (by decide) q), fun q => h7 (flag_ne (by decide) q), fun q => h8 (flag_ne (by decide) q), fun q => h9 (flag_ne (by decide) q), fun q => h12 (flag_ne (by decide) q), ⟨u, rfl⟩, h10k 1 (by decide) (by decide), fun q => flag_keep (h11 (flag_ne (by decide) q)), by rw [Array.size_setIfInBounds]; exact hsz⟩)
    · have e1 := h1 (ready_dep hi rfl (by kernel_rfl))
      subst e1
      exact wpOp_val rfl rfl (by kernel_rfl) (hK _ _ ⟨_, _, _, _, _, _, _, _, _, _, _, _, rfl, fun q => h0 (flag_ne (by decide) q), fun q => h1 (flag_ne (by decide) q), fun _ => rfl, fun q => h3 (flag_ne (by decide) q), fun q => h4 (flag_ne (by decide) q), fun q => h5 (flag_ne (by decide) q), fun q => h6 (flag_ne (by decide) q), fun q => h7 (flag_ne (by decide) q), fun q => h8 (flag_ne (by decide) q), fun q => h9 (flag_ne (by decide) q), fun q => h12 (flag_ne (by decide) q), ⟨u, rfl⟩, h10k 2 (by decide) (by decide), fun q => flag_keep (h11 (flag_ne (by decide) q)), by rw [Array.size_setIfInBounds]; exact hsz⟩)
    · have e2 := h2 (ready_dep hi rfl (by kernel_rfl))
      subst e2
      exact wpOp_val rfl rfl (v := .map (some m)) (w' := u.wo) (by have := c6 u; go_simp) (hK _ _ ⟨_, _, _, _, _, _, _, _, _, _, _, _, rfl, fun q => h0 (flag_ne (by decide) q), fun q => h1 (flag_ne (by decide) q), fun q => h2 (flag_ne (by decide) q), fun _ => rfl, fun q => h4 (flag_ne (by decide) q), fun q => h5 (flag_ne (by decide) q), fun q => h6 (flag_ne (by decide) q), fun q => h7 (flag_ne (by decide) q), fun q => h8 (flag_ne (by decide) q), fun q => h9 (flag_ne (by decide) q), fun q => h12 (flag_ne (by decide) q), ⟨u, rfl⟩, h10k 3 (by decide) (by decide), fun q => flag_keep (h11 (flag_ne (by decide) q)), by rw [Array.size_setIfInBounds]; exact hsz⟩)
    · exact wpOp_val rfl rfl (by kernel_rfl) (hK _ _ ⟨_, _, _, _, _, _, _, _, _, _, _, _, rfl, fun q => h0 (flag_ne (by decide) q), fun q => h1 (flag_ne (by decide) q), fun q => h2 (flag_ne (by decide) q), fun q => h3 (flag_ne (by decide) q), fun _ => rfl, fun q => h5 (flag_ne (by decide) q), fun q => h6 (flag_ne (by decide) q), fun q => h7 (flag_ne (by decide) q), fun q => h8 (flag_ne (by decide) q), fun q => h9 (flag_ne (by decide) q), fun q => h12 (flag_ne (by decide) q), ⟨u, rfl⟩, h10k 4 (by decide) (by decide), fun q => flag_keep (h11 (flag_ne (by decide) q)), by rw [Array.size_setIfInBounds]; exact hsz⟩)
    · have e4 := h4 (ready_dep hi rfl (by kernel_rfl))
      subst e4
      refine wpOp_call rfl rfl (by kernel_rfl) (QF.out u) ?_
      rintro v w' ⟨rfl, hbw⟩
      refine hK _ _ ⟨_, _, _, _, _, _, _, _, _, _, _, _, rfl, fun q => h0 (flag_ne (by decide) q), fun q => h1 (flag_ne (by decide) q), fun q => h2 (flag_ne (by decide) q), fun q => h3 (flag_ne (by decide) q), fun q => h4 (flag_ne (by decide) q), fun _ => rfl, fun q => h6 (flag_ne (by decide) q), fun q => h7 (flag_ne (by decide) q), fun q => h8 (flag_ne (by decide) q), fun q => h9 (flag_ne (by decide) q), fun q => h12 (flag_ne (by decide) q), ⟨BwI.of (u.is.trans (hbw.mono u.is.size)), rfl⟩, fun q => ?_, fun q => flag_keep (h11 (flag_ne (by decide) q)), by rw [Array.size_setIfInBounds]; exact hsz⟩
      obtain ⟨g, e1, e2, y0, y1, y2, e3, e4⟩ := h10k 5 (by decide) (by decide) q
      exact ⟨g, e1, e2, y0, y1, y2, e3.below hbw, e4⟩
    · have e3 := h3 (ready_dep hi rfl (by kernel_rfl))
      subst e3
      have e5 := h5 (ready_dep hi rfl (by kernel_rfl))
      subst e5
      exact wpOp_val rfl rfl (v := .tuple #[dfCell dd, .bool (look F).isSome]) (w' := u.wo) (by show Sem.run Tryz.prog (do let x ← Instr.lookup 40 (.map (some m)) (.string ⟨F.toArray⟩) true; pure (Next.value x)) u.wo = _; rw [Sem.run_bind, HLk.out u]; rfl) (hK _ _ ⟨_, _, _, _, _, _, _, _, _, _, _, _, rfl, fun q => h0 (flag_ne (by decide) q), fun q => h1 (flag_ne (by decide) q), fun q => h2 (flag_ne (by decide) q), fun q => h3 (flag_ne (by decide) q), fun q => h4 (flag_ne (by decide) q), fun q => h5 (flag_ne (by decide) q), fun _ => rfl, fun q => h7 (flag_ne (by decide) q), fun q => h8 (flag_ne (by decide) q), fun q => h9 (flag_ne (by decide) q), fun q => h12 (flag_ne (by decide) q), ⟨u, rfl⟩, h10k 6 (by decide) (by decide), fun q => flag_keep (h11 (flag_ne (by decide) q)), by rw [Array.size_setIfInBounds]; exact hsz⟩)
    · have e6 := h6 (ready_dep hi rfl (by kernel_rfl))
      subst e6
      exact wpOp_val rfl rfl (by kernel_rfl) (hK _ _ ⟨_, _, _, _, _, _, _, _, _, _, _, _, rfl, fun q => h0 (flag_ne (by decide) q), fun q => h1 (flag_ne (by decide) q), fun q => h2 (flag_ne (by decide) q), fun q => h3 (flag_ne (by decide) q), fun q => h4 (flag_ne (by decide) q), fun q => h5 (flag_ne (by decide) q), fun q => h6 (flag_ne (by decide) q), fun _ => rfl, fun q => h8 (flag_ne (by decide) q), fun q => h9 (flag_ne (by decide) q), fun q => h12 (flag_ne (by decide) q), ⟨u, rfl⟩, h10k 7 (by decide) (by decide), fun q => flag_keep (h11 (flag_ne (by decide) q)), by rw [Array.size_setIfInBounds]; exact hsz⟩)
    · have e7 := h7 (ready_dep hi rfl (by kernel_rfl))
      subst e7
      exact wpOp_val rfl rfl (by kernel_rfl) (hK _ _ ⟨_, _, _, _, _, _, _, _, _, _, _, _, rfl, fun q => h0 (flag_ne (by decide) q), fun q => h1 (flag_ne (by decide) q), fun q => h2 (flag_ne (by decide) q), fun q => h3 (flag_ne (by decide) q), fun q => h4 (flag_ne (by decide) q), fun q => h5 (flag_ne (by decide) q), fun q => h6 (flag_ne (by decide) q), fun q => h7 (flag_ne (by decide) q), fun _ => rfl, fun q => h9 (flag_ne (by decide) q), fun q => h12 (flag_ne (by decide) q), ⟨u, rfl⟩, h10k 8 (by decide) (by decide), fun q => flag_keep (h11 (flag_ne (by decide) q)), by rw [Array.size_setIfInBounds]; exact hsz⟩)
    · have e7 := h7 (ready_dep hi rfl (by kernel_rfl))
      subst e7
      exact wpOp_val rfl rfl (by kernel_rfl) (hK _ _ ⟨_, _, _, _, _, _, _, _, _, _, _, _, rfl, fun q => h0 (flag_ne (by decide) q), fun q => h1 (flag_ne (by decide) q), fun q => h2 (flag_ne (by decide) q), fun q => h3 (flag_ne (by decide) q), fun q => h4 (flag_ne (by decide) q), fun q => h5 (flag_ne (by decide) q), fun q => h6 (flag_ne (by decide) q), fun q => h7 (flag_ne (by decide) q), fun q => h8 (flag_ne (by decide) q), fun _ => rfl, fun q => h12 (flag_ne (by decide) q), ⟨u, rfl⟩, h10k 9 (by decide) (by decide), fun q => flag_keep (h11 (flag_ne (by decide) q)), by rw [Array.size_setIfInBounds]; exact hsz⟩)
    · refine wpOp_val rfl rfl (v := .pointer (some ⟨u.wo.heap.size, 0, none⟩)) (w' := u.wo.alloc (.cells #[.string ⟨#[]⟩, .string ⟨#[]⟩, .string ⟨#[]⟩] 35)) (by kernel_rfl) (hK _ _ ⟨_, _, _, _, _, _, _, _, _, _, _, _, rfl, fun q => h0 (flag_ne (by decide) q), fun q => h1 (flag_ne (by decide) q), fun q => h2 (flag_ne (by decide) q), fun q => h3 (flag_ne (by decide) q), fun q => h4 (flag_ne (by decide) q), fun q => h5 (flag_ne (by decide) q), fun q => h6 (flag_ne (by decide) q), fun q => h7 (flag_ne (by decide) q), fun q => h8 (flag_ne (by decide) q), fun q => h9 (flag_ne (by decide) q), fun q => h12 (flag_ne (by decide) q), ⟨BwI.of (u.is.alloc u.is.size _), rfl⟩, fun q => ?_, fun q => flag_set (mem_ready.1 hi).1, by rw [Array.size_setIfInBounds]; exact hsz⟩)
      exact ⟨_, rfl, u.is.size, _, _, _, Blk3.new _ _ _ _ _, fun q' => by have := h11 (flag_ne (by decide) q'); rw [getD_both (mem_ready.1 hi).1] at this; cases this⟩
    · have e8 := h8 (ready_dep hi rfl (by kernel_rfl))
      subst e8
      obtain ⟨g, e1, e2, y0, y1, y2, e3, e4⟩ := h10 (ready_dep hi rfl (by kernel_rfl))
      subst e1
      have f0 := e3.f 0
      have f1 := e3.f 1
      have f2 := e3.f 2
      have c0 := e3.c.1
      have c1 := e3.c.2.1
      have c2 := e3.c.2.2
      have hd10 : s.getD 10 false = true := ready_dep hi rfl (by kernel_rfl)
      refine wpOp_skip rfl rfl (w' := ((u.wo.setCell ⟨g, 0, none⟩ (.string ⟨dd.1.toArray⟩)).setCell ⟨g, 1, none⟩ (.string ⟨dd.2.1.toArray⟩)).setCell ⟨g, 2, none⟩ (.string ⟨dd.2.2.toArray⟩)) (by go_simp) (hK _ _ ⟨_, _, _, _, _, _, _, _, _, _, _, _, rfl, fun q => h0 (flag_ne (by decide) q), fun q => h1 (flag_ne (by decide) q), fun q => h2 (flag_ne (by decide) q), fun q => h3 (flag_ne (by decide) q), fun q => h4 (flag_ne (by decide) q), fun q => h5 (flag_ne (by decide) q), fun q => h6 (flag_ne (by decide) q), fun q => h7 (flag_ne (by decide) q), fun q => h8 (flag_ne (by decide) q), fun q => h9 (flag_ne (by decide) q), fun q => h12 (flag_ne (by decide) q), ⟨BwI.of (blk.below_set (blk.below_set (blk.below_set u.is e2) e2) e2), rfl⟩, fun q => ?_, fun q => flag_keep hd10, by rw [Array.size_setIfInBounds]; exact hsz⟩)
      exact ⟨g, rfl, e2, _, _, _, e3.s _ _ _, fun _ => rfl⟩
    · have e9 := h9 (ready_dep hi rfl (by kernel_rfl))
      subst e9
      exact wpOp_val rfl rfl (by kernel_rfl) (hK _ _ ⟨_, _, _, _, _, _, _, _, _, _, _, _, rfl, fun q => h0 (flag_ne (by decide) q), fun q => h1 (flag_ne (by decide) q), fun q => h2 (flag_ne (by decide) q), fun q => h3 (flag_ne (by decide) q), fun q => h4 (flag_ne (by decide) q), fun q => h5 (flag_ne (by decide) q), fun q => h6 (flag_ne (by decide) q), fun q => h7 (flag_ne (by decide) q), fun q => h8 (flag_ne (by decide) q), fun q => h9 (flag_ne (by decide) q), fun _ => rfl, ⟨u, rfl⟩, h10k 12 (by decide) (by decide), fun q => flag_keep (h11 (flag_ne (by decide) q)), by rw [Array.size_setIfInBounds]; exact hsz⟩)
  case fin =>
    intro s a wr inv hr
    obtain ⟨x8, x9, x10, x11, x12, x13, x14, x15, x16, x17, x18, x19, rfl, h0, h1, h2, h3, h4, h5, h6, h7, h8, h9, h12, ⟨u, rfl⟩, h10, h11, hsz⟩ := inv
    have hd := all_done (by kernel_rfl) (hsz.trans (by rfl)) hr
    have e0 := h0 (hd 0 (by decide))
    have e1 := h1 (hd 1 (by decide))
    have e2 := h2 (hd 2 (by decide))
    have e3 := h3 (hd 3 (by decide))
    have e4 := h4 (hd 4 (by decide))
    have e5 := h5 (hd 5 (by decide))
    have e6 := h6 (hd 6 (by decide))
    have e7 := h7 (hd 7 (by decide))
    have e8 := h8 (hd 8 (by decide))
    have e9 := h9 (hd 9 (by decide))
    have e12 := h12 (hd 12 (by decide))
    obtain ⟨g, e10, hgl, y0, y1, y2, hBg, hT⟩ := h10 (hd 10 (by decide))
    have hT' := hT (hd 11 (by decide))
    clear h0 h1 h2 h3 h4 h5 h6 h7 h8 h9 h10 h11 h12 hT hd hr hsz
    subst e0 e1 e2 e3 e4 e5 e6 e7 e8 e9 e12 e10
    have hy : y0 = .string ⟨dd.1.toArray⟩ ∧ y1 = .string ⟨dd.2.1.toArray⟩ ∧ y2 = .string ⟨dd.2.2.toArray⟩ := by
      simp only [dfCell, Value.agg.injEq] at hT'
      have := congrArg Array.toList hT'
      simp only [List.cons.injEq, and_true] at this
      exact ⟨this.1.symm, this.2.1.symm, this.2.2.symm⟩
    obtain ⟨rfl, rfl, rfl⟩ := hy
    clear hT'
    have g0 := hBg.c.1
    have g1 := hBg.c.2.1
    have g2 := hBg.c.2.2
    have hB := HBu.out u
    have f0 := hB.f 0
    have f1 := hB.f 1
    have f2 := hB.f 2
    have c0 := hB.c.1
    have c1 := hB.c.2.1
    have c2 := hB.c.2.2
    have HBl := (show Hid _ from HU.out u)
    (try simp only [Exit.then])
    cases hL : look F with
    | none =>
      have hz : dd = ([], [], []) := by rw [← hdd, hL]; rfl
      have HZ : Hid (defdV z (look F) = .tuple #[dfCell ([], [], []), .int .i64 0]) := by show _ = _; rw [hL]; rfl
      subst hz
      clear hdd HLk QF c6
      have hB3 := hB.s (.string ⟨#[]⟩) (.string ⟨#[]⟩) (.string ⟨#[]⟩)
      have d0 := hB3.c.1
      have d1 := hB3.c.2.1
      have d2 := hB3.c.2.2
      have HB3 := (show Hid _ from hB3)
      go_wp2
      (try simp only [Exit.inBlock, Exit.then])
      refine bodyPost_ret (v := .tuple #[dfCell ([], [], []), .int .i64 0]) ?_ rfl ⟨by first | rfl | rw [HZ.out], ?_⟩
      · rw [results_cell_tmp rfl]
        go_simp
      · exact blk.below_set (blk.below_set (blk.below_set HBl.out (Nat.le_refl _)) (Nat.le_refl _)) (Nat.le_refl _)
    | some dq =>
      have HZ : Hid (defdV z (look F) = .tuple #[dfCell dd, .int .i64 (z : Int)]) := by show _ = _; rw [← hdd, hL]; rfl
      clear hdd HLk QF c6
      have hB3 := hB.s (.string ⟨dd.1.toArray⟩) (.string ⟨dd.2.1.toArray⟩) (.string ⟨dd.2.2.toArray⟩)
      have d0 := hB3.c.1
      have d1 := hB3.c.2.1
      have d2 := hB3.c.2.2
      go_wp2
      (try simp only [Exit.inBlock, Exit.then])
      refine bodyPost_ret (v := .tuple #[dfCell dd, .int .i64 (z : Int)]) ?_ rfl ⟨by first | rfl | rw [HZ.out], ?_⟩
      · rw [results_cell_tmp rfl]
        go_simp
      · exact blk.below_set (blk.below_set (blk.below_set HBl.out (Nat.le_refl _)) (Nat.le_refl _)) (Nat.le_refl _)

end Go.Proofs.YtjdijlaoeoikhaaGreatDoor
