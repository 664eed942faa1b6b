/- Package disk: put, drop; walked. -/
import Derived.Test.YtkbmblmnhhlicaaGreatDoorDMem
import Derived.BigRegion
import Derived.BigQuiet
set_option linter.unusedVariables false
namespace Go.Proofs.YtkbmblmnhhlicaaGreatDoor
open Go.RowKit

abbrev strN (n : Nm) : Value := .string ⟨n.toArray⟩

theorem field_file (x y : Value) (w : World) : (Instr.field 125 (.agg #[x, y]) 0).run Tryz.prog w = .ok x w := by kernel_rfl

set_option maxHeartbeats 4000000 in
set_option maxRecDepth 20000 in
theorem put_any {w : World} {b m : Nat} {S : Nat → Prop} {sl : Nm → Value} {d : Dk} {n : Nm} {s : Value} {bs : List UInt8} {la : Nat} (h : DkW w b m S sl (some n) d) (hs : OwnB w 0 s bs) (hla : la ≤ bs.length) (hn : n.length ≤ 140737488355328)
    (hsg : ∀ g, s.ownBlock = some g → S g ∧ ∀ q ∈ d.files, q.1 ≠ n → (sl q.1).ownBlock ≠ some g) (hu : usedL (putA n ⟨bs, la⟩ d.files) ≤ d.room) (hf : (putA n (⟨bs, la⟩ : Fl) d.files).length ≤ 1048576) (hu2 : usedL (putA n ⟨bs, la⟩ d.files) ≤ 140737488355328) :
    Calls Tryz.prog 111 #[dptr b, strN n, fileV s la] w fun e w' => e = .returned (.tuple #[]) ∧ DkW w' b m S (upd sl n s) none { d with files := putA n ⟨bs, la⟩ d.files } ∧ Fr S w w' := by
  obtain ⟨sa, sc, hsl⟩ := own_slice hs
  obtain ⟨oa, oc, hlook, _⟩ := h.look n
  have hl1 : ∀ W, MapV W m (filesV sl d.files) → (Instr.lookup 85 (.map (some m)) (.string ⟨n.toArray⟩) false).run Tryz.prog W = .ok (.agg #[.slice oa ((getA n d.files).getD ⟨[], 0⟩).bs.length oc, .int .i64 (((getA n d.files).getD ⟨[], 0⟩).la : Int)]) W := by
    intro W hW
    rw [mapv_look hW n hn, hlook]
  have hus := usedL_put n ⟨bs, la⟩ d.files h.ok.rises
  have hr := h.ok.room
  have hdl := usedL_del n d.files h.ok.rises
  generalize hO : ((getA n d.files).getD ⟨[], 0⟩).bs.length = O at *
  generalize hOla : (((getA n d.files).getD ⟨[], 0⟩).la : Int) = OL at *
  have e1 : (usedL d.files : Int) + ((bs.length : Int) - (O : Int)) = (usedL (putA n ⟨bs, la⟩ d.files) : Int) := by simp only at hus; omega
  obtain ⟨U, hU⟩ : ∃ U : Nat, U = usedL d.files := ⟨_, rfl⟩
  obtain ⟨V, hV⟩ : ∃ V : Nat, V = usedL (putA n ⟨bs, la⟩ d.files) := ⟨_, rfl⟩
  have b1 : (U : Int) ≤ 9223372036854775807 := by have := h.ok.fits; omega
  have b2 : (bs.length : Int) ≤ 9223372036854775807 := by simp only at hus; omega
  have b3 : (O : Int) ≤ 9223372036854775807 := by omega
  have b4 : (V : Int) ≤ 9223372036854775807 := by omega
  rw [← hU, ← hV] at e1
  obtain ⟨W1, hW1⟩ : ∃ W1, W1 = w.alloc (.cells #[s, .int .i64 (la : Int)] 125) := ⟨_, rfl⟩
  have D1 : DkW W1 b m S sl (some n) d := by rw [hW1]; exact h.alloc _
  have c1 := D1.c1
  have c2 := D1.c2
  have f1 := D1.fz 1
  have l1 := hl1 W1 D1.map
  have l2 := hl1 W1.drew D1.drew.map
  rw [← hU] at c1
  have B1 : Hid (W1.heap[b]? = some (.cells (dkCells d m) 87 (0, 0))) := D1.blk
  have HD : Hid (DkW W1 b m S sl (some n) d) := D1
  have HHs : Hid (OwnB W1 0 s bs) := by show OwnB _ _ _ _; rw [hW1]; exact own_below2 hs ((Below.refl _ w).alloc (Nat.le_refl _) _)
  have HV : Hid (V = usedL (putA n ⟨bs, la⟩ d.files)) := hV
  have HM : Hid (MapV W1 m (filesV sl d.files)) := D1.map
  subst hsl
  rw [hW1] at c1 c2 f1 l1 l2
  have hb0 : Hid (b < w.heap.size) := lt_blk h.blk
  clear hl1 D1 hlook h hus hdl hU hV hO hOla
  have ff := field_file (.slice oa O oc) (.int .i64 OL)
  go_enter Tryz.func111, Tryz.ntmps111
  go_wp2
  go_region
  obtain ⟨W2, hW2⟩ : ∃ W2, W2 = ((w.alloc (.cells #[.slice sa bs.length sc, .int .i64 (la : Int)] 125)).setCell ⟨b, 1, none⟩ (.int .i64 (V : Int))).drew := ⟨_, rfl⟩
  rw [← hW2]
  rw [← hW1] at hW2
  have hbl : b < w.heap.size := hb0.out
  have B2 : Hid (W2.heap[b]? = some (.cells ((dkCells d m).setIfInBounds 1 (.int .i64 (V : Int))) 87 (0, 0))) := by show _ = _; rw [hW2]; exact set_blk B1.out 1 _
  have O2 : Hid (∀ k, k ≠ b → W2.heap[k]? = W1.heap[k]?) := by intro k hk; rw [hW2]; exact set_other _ hk
  have Z2 : Hid (W2.heap.size = W1.heap.size) := by show _ = _; rw [hW2]; exact set_size _
  have HW2 : Hid (W2 = (W1.setCell ⟨b, 1, none⟩ (.int .i64 (V : Int))).drew) := hW2
  have M2 : MapV W2 m (filesV sl d.files) := mapv_keep HM.out (O2.out m (Ne.symm HD.out.ne_b))
  obtain ⟨W3, hst, M3, G3, Z3⟩ := mapv_store (w := W2.drew) M2 n hn (by rw [List.length_map]; have := HD.out.ok.few; omega) (fileV (.slice sa bs.length sc) la)
  have k2 : W2.cell? ⟨b, 2, none⟩ = some (.map (some m)) := cell_blk B2.out rfl
  have N2 : W2.heap[w.heap.size]? = some (.cells #[.slice sa bs.length sc, .int .i64 (la : Int)] 125 (0, 0)) := by
    rw [O2.out _ (by omega), hW1]
    show (w.heap.push _)[w.heap.size]? = _
    simp
  have n0 := cell_blk N2 (i := 0) (v := .slice sa bs.length sc) rfl
  have n1 := cell_blk N2 (i := 1) (v := .int .i64 (la : Int)) rfl
  have HM3 : Hid (MapV W3 m (putA n (fileV (.slice sa bs.length sc) la) (filesV sl d.files))) := M3
  have HG3 : Hid (W2.drew.grownBy W3 (some m)) := G3
  have HZ3 : Hid (W3.heap.size = W2.heap.size) := Z3
  clear hbl M2 M3 G3 Z3 N2 hW2 c1 c2 f1 l1 l2 ff
  go_wp2
  go_region
  go_end0
  refine ⟨rfl, ?_, ?_⟩
  · refine HD.out.put HHs.out hla hn hsg hu hf hu2 (by rw [HZ3.out, Z2.out]; exact Nat.le_refl _) (fun k hk h1 h2 => ?_) ?_ HM3.out
    · rw [HG3.out.block k (by show k < W2.heap.size; rw [Z2.out]; exact hk) (by intro e; exact h2 (Option.some.inj e))]
      exact O2.out k h1
    · rw [HG3.out.block b (by show b < W2.heap.size; exact lt_blk B2.out) (by intro e; exact HD.out.ne_b (Option.some.inj e))]
      refine B2.out.trans ?_
      rw [HV.out]; rfl
  · refine Fr.grown ?_ HG3.out (fun k hk => by cases hk; exact HD.out.sm)
    have := (Fr.refl S w).alloc (.cells #[.slice sa bs.length sc, .int .i64 (la : Int)] 125)
    rw [← hW1] at this
    rw [HW2.out]
    exact ((this.set HD.out.sb _).drew).drew

set_option maxHeartbeats 4000000 in
set_option maxRecDepth 20000 in
theorem drop_any {w : World} {b m : Nat} {S : Nat → Prop} {sl : Nm → Value} {d : Dk} {n : Nm} (h : DkW w b m S sl none d) (hn : n.length ≤ 140737488355328) :
    Calls Tryz.prog 134 #[dptr b, strN n] w fun e w' => e = .returned (.tuple #[]) ∧ DkW w' b m S sl none { d with files := delA n d.files } ∧ Fr S w w' ∧ ∀ k, k < w.heap.size → k ≠ b → k ≠ m → w'.heap[k]? = w.heap[k]? := by
  obtain ⟨oa, oc, hlook, _⟩ := h.look n
  have hl1 : ∀ W, MapV W m (filesV sl d.files) → (Instr.lookup 85 (.map (some m)) (.string ⟨n.toArray⟩) false).run Tryz.prog W = .ok (.agg #[.slice oa ((getA n d.files).getD ⟨[], 0⟩).bs.length oc, .int .i64 (((getA n d.files).getD ⟨[], 0⟩).la : Int)]) W := by
    intro W hW
    rw [mapv_look hW n hn, hlook]
  have hr := h.ok.room
  have hfit := h.ok.fits
  have hdl := usedL_del n d.files h.ok.rises
  generalize hO : ((getA n d.files).getD ⟨[], 0⟩).bs.length = O at *
  generalize hOla : (((getA n d.files).getD ⟨[], 0⟩).la : Int) = OL at *
  obtain ⟨U, hU⟩ : ∃ U : Nat, U = usedL d.files := ⟨_, rfl⟩
  obtain ⟨V, hV⟩ : ∃ V : Nat, V = usedL (delA n d.files) := ⟨_, rfl⟩
  have e1 : (U : Int) - (O : Int) = (V : Int) := by omega
  have b1 : (U : Int) ≤ 9223372036854775807 := by omega
  have b3 : (O : Int) ≤ 9223372036854775807 := by omega
  have b4 : (V : Int) ≤ 9223372036854775807 := by omega
  have c1 := h.c1
  have c2 := h.c2
  have f1 := h.fz 1
  have l1 := hl1 w h.map
  have l2 := hl1 w.drew h.drew.map
  have ff := field_file (.slice oa O oc) (.int .i64 OL)
  rw [← hU] at c1
  have HV : Hid (V = usedL (delA n d.files)) := hV
  have B1 : Hid (w.heap[b]? = some (.cells (dkCells d m) 87 (0, 0))) := h.blk
  have HD : Hid (DkW w b m S sl none d) := h
  clear hl1 hlook h hdl hU hV hO hOla hfit
  go_enter Tryz.func134, Tryz.ntmps134
  go_wp2
  go_region
  obtain ⟨W2, hW2⟩ : ∃ W2, W2 = (w.setCell ⟨b, 1, none⟩ (.int .i64 (V : Int))).drew := ⟨_, rfl⟩
  rw [← hW2]
  have B2 : Hid (W2.heap[b]? = some (.cells ((dkCells d m).setIfInBounds 1 (.int .i64 (V : Int))) 87 (0, 0))) := by show _ = _; rw [hW2]; exact set_blk B1.out 1 _
  have O2 : Hid (∀ k, k ≠ b → W2.heap[k]? = w.heap[k]?) := by intro k hk; rw [hW2]; exact set_other _ hk
  have Z2 : Hid (W2.heap.size = w.heap.size) := by show _ = _; rw [hW2]; exact set_size _
  have HW2 : Hid (W2 = (w.setCell ⟨b, 1, none⟩ (.int .i64 (V : Int))).drew) := hW2
  have M2 : MapV W2 m (filesV sl d.files) := mapv_keep HD.out.map (O2.out m (Ne.symm HD.out.ne_b))
  obtain ⟨W3, hst, M3, G3⟩ := mapv_drop (w := W2) M2 n hn 0
  have k2 : W2.cell? ⟨b, 2, none⟩ = some (.map (some m)) := cell_blk B2.out rfl
  have HM3 : Hid (MapV W3 m (delA n (filesV sl d.files))) := M3
  have HG3 : Hid (W2.grownBy W3 (some m)) := G3
  clear M2 M3 G3 hW2 c1 c2 f1 l1 l2 ff
  go_wp2
  go_end0
  have hsame : ∀ k, k < w.heap.size → k ≠ b → k ≠ m → W3.heap[k]? = w.heap[k]? := fun k hk h1 h2 => by
    rw [HG3.out.block k (by rw [Z2.out]; exact hk) (by intro e; exact h2 (Option.some.inj e))]
    exact O2.out k h1
  refine ⟨rfl, ?_, ?_, hsame⟩
  · refine HD.out.dropped (by have := HG3.out.size; rw [Z2.out] at this; exact this) (fun k hk h1 h2 => ?_) ?_ HM3.out
    · exact hsame k hk h1 h2
    · rw [HG3.out.block b (lt_blk B2.out) (by intro e; exact HD.out.ne_b (Option.some.inj e))]
      refine B2.out.trans ?_
      rw [HV.out]; rfl
  · refine Fr.grown ?_ HG3.out (fun k hk => by cases hk; exact HD.out.sm)
    rw [HW2.out]
    exact ((Fr.refl S w).set HD.out.sb _).drew

end Go.Proofs.YtkbmblmnhhlicaaGreatDoor
