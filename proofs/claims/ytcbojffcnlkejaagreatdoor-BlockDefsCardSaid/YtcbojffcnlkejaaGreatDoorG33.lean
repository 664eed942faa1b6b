/- Several texts in one. -/
import Derived.Test.YtcbojffcnlkejaaGreatDoorG30
import Derived.Test.YtcbojffcnlkejaaGreatDoorG14
import Derived.Deep.RegionLaw
import Derived.Deep.Cut
import Derived.Deep.CutRange
set_option linter.unusedVariables false
/- A container takes in what was closed in it. -/
namespace Go.Proofs.YtcbojffcnlkejaaGreatDoor
open Go.RowKit
open cur (cell_blk free_blk set_blk blk_below)

/-- The number of a part's told. -/
def toldF : Part → FuncId
  | .doc _ => 226
  | .quote _ => 237
  | .list _ _ => 243
  | .item _ _ => 239
  | .para _ _ => 233
  | .fenced _ _ _ _ _ => 229
  | .indented _ => 235
  | .html _ _ => 244
  | .whole _ _ _ => 240

theorem mth_lines (p : Part) (b : Nat) (w : World) : (method 345 (partP p) (ptrV b) "scriptorium/block.lines").run Tryz.prog w = .ok (227, ptrV b) w := by
  cases p <;> kernel_rfl
theorem mth_told (p : Part) (b : Nat) (w : World) : (method 345 (partP p) (ptrV b) "scriptorium/block.told").run Tryz.prog w = .ok (toldF p, ptrV b) w := by
  cases p <;> kernel_rfl
theorem cf_told (p : Part) (args : Array Value) (w : World) : (callFunc (toldF p) args).run Tryz.prog w = .ok (.enter (toldF p) args) w := by
  cases p <;> kernel_rfl

theorem infoB : (Tryz.prog.info? 34).map (fun i => (i.zero, i.size, i.bytes)) = some (some (.agg #[.int .i64 0, .int .i64 0, .string ⟨#[]⟩, .string ⟨#[]⟩, .bool false, .bool false, .int .i64 0, .slice none 0 0]), 8, 88) := by kernel_rfl

/-- A box's cells, and what is behind them. -/
abbrev boxL (x : Box) (v : Value) (ex : List Value) : List Value := .int .i64 (x.first : Int) :: .int .i64 (x.last : Int) :: v :: .bool x.held :: .bool x.gap :: ex

/-- While a box takes something in: the box, the lines of what is taken in, and all else. -/
def HoldW (w : World) (b eb : Nat) (x : Box) (v : Value) (ex : List Value) (t : TypeId) (f l : Nat) (W : World) : Prop :=
  W.heap[b]? = some (.cells (boxL x v ex).toArray t (0, 0)) ∧ W.cell? ⟨eb, 0, none⟩ = some (.int .i64 (f : Int)) ∧ W.cell? ⟨eb, 1, none⟩ = some (.int .i64 (l : Int)) ∧ Fr (fun g => g = b) w W
section
variable {w W : World} {b eb : Nat} {x : Box} {v : Value} {ex : List Value} {t : TypeId} {f l : Nat}
theorem HoldW.drewN (h : HoldW w b eb x v ex t f l W) (n : Nat) : HoldW w b eb x v ex t f l (W.drewN n) := ⟨h.1, h.2.1, h.2.2.1, h.2.2.2.drewN n⟩
theorem HoldW.set (h : HoldW w b eb x v ex t f l W) (hn : b ≠ eb) (i : Nat) (u : Value) (x' : Box) (v' : Value) (he : (boxL x v ex).set i u = boxL x' v' ex) : HoldW w b eb x' v' ex t f l (W.setCell ⟨b, i, none⟩ u) := by
  refine ⟨?_, ?_, ?_, h.2.2.2.set rfl i u⟩
  · have := set_blk h.1 i u
    rw [this, ← he]
    simp
  · rw [← h.2.1]; exact World.cell?_of_block (w := W) (Below.heap_setCell _ _ _ _ (by simpa using Ne.symm hn))
  · rw [← h.2.2.1]; exact World.cell?_of_block (w := W) (Below.heap_setCell _ _ _ _ (by simpa using Ne.symm hn))
theorem HoldW.gap (h : HoldW w b eb x v ex t f l W) (hn : b ≠ eb) : HoldW w b eb { x with gap := true } v ex t f l (W.setCell ⟨b, 4, none⟩ (.bool true)) := h.set hn 4 _ _ _ rfl
theorem HoldW.held (h : HoldW w b eb x v ex t f l W) (hn : b ≠ eb) : HoldW w b eb { x with held := true } v ex t f l (W.setCell ⟨b, 3, none⟩ (.bool true)) := h.set hn 3 _ _ _ rfl
theorem HoldW.last (h : HoldW w b eb x v ex t f l W) (hn : b ≠ eb) (m : Nat) : HoldW w b eb { x with last := m } v ex t f l (W.setCell ⟨b, 1, none⟩ (.int .i64 (m : Int))) := h.set hn 1 _ _ _ rfl
theorem HoldW.kids (h : HoldW w b eb x v ex t f l W) (hn : b ≠ eb) (u : Value) : HoldW w b eb x u ex t f l (W.setCell ⟨b, 2, none⟩ u) := h.set hn 2 _ _ _ rfl
end

theorem hold_apart {a : Option Addr} {n c b g sz : Nat} (h : ∀ g, (Value.slice a n c).ownBlock = some g → g ≠ b) (hat : (Value.slice a n c).ownBlock = some g ∨ g = sz) (hb : b < sz) : g ≠ b := by
  rcases hat with q | q
  · exact h g q
  · omega
theorem hold_row {a : Option Addr} {n c b : Nat} (h : ∀ g, (Value.slice a n c).ownBlock = some g → g ≠ b) : some b ≠ (Value.slice a n c).ownBlock := fun e => h b e.symm rfl

theorem alc {w : World} {a : Addr} {v : Value} (h : w.cell? a = some v) (o : Obj) : (w.alloc o).cell? a = some v := (((Below.refl w.heap.size w).alloc (Nat.le_refl _) o).cell (p := a) (World.block_lt_of_cell? w a h)).trans h

theorem hold_in {a : Option Addr} {n c g b sz i B : Nat} (hat : (Value.slice a n c).ownBlock = some g ∨ g = sz) (hB : B ≤ sz) (hi : i < B) (hq : i = g ∨ i = b) : i = b ∨ (Value.slice a n c).ownBlock = some i := by
  rcases hq with rfl | q
  · rcases hat with q | q
    · exact .inr q
    · omega
  · exact .inl q
theorem box_kids {w : World} {b : Nat} {x : Box} {v : Value} {ex : List Value} {t : TypeId} (h : w.heap[b]? = some (.cells (boxL x v ex).toArray t (0, 0))) (u : Value) : (w.setCell ⟨b, 2, none⟩ u).heap[b]? = some (.cells (boxL x u ex).toArray t (0, 0)) := by
  rw [set_blk h 2 u]
  simp

theorem hold_where {a : Option Addr} {n c g k m c' sz B : Nat} (hk : (Value.slice (some ⟨g, 0, none⟩) m c').ownBlock = some k) (hat : (Value.slice a n c).ownBlock = some g ∨ g = sz) (hB : B ≤ sz) : (Value.slice a n c).ownBlock = some k ∨ B ≤ k := by
  cases hk
  rcases hat with q | q
  · exact .inl q
  · exact .inr (by rw [q]; exact hB)

theorem hold_A {w w2 : World} {b g n c c' sz : Nat} {a : Option Addr} {x : Box} {v0 : Value} {ex : List Value} {t : TypeId} {xs : List Value} {z0 z1 z2 z3 z4 z5 z6 z7 y0 y1 y2 y3 y4 y5 y6 y7 : Value} (hbg : b ≠ g) (hgb : g ≠ b) (hb : w2.heap[b]? = some (.cells (boxL x v0 ex).toArray t (0, 0)))
    (ho : w2.ownsRow 0 34 8 (.slice (some ⟨g, 0, none⟩) (n + 1) c') (n + 1) (xs ++ [z0, z1, z2, z3, z4, z5, z6, z7])) (hat : (Value.slice a n c).ownBlock = some g ∨ g = sz) (hs : w.heap.size ≤ sz) (F2 : Fr (fun g => g = b ∨ (Value.slice a n c).ownBlock = some g) w w2)
    (hY : ∀ i, i < w.heap.size → (i = g ∨ i = b) → (i = b ∨ (Value.slice a n c).ownBlock = some i)) :
    ∃ v', (((((((((w2.setCell ⟨g, n * 8, none⟩ y0).setCell ⟨g, n * 8 + 1, none⟩ y1).setCell ⟨g, n * 8 + 2, none⟩ y2).setCell ⟨g, n * 8 + 3, none⟩ y3).setCell ⟨g, n * 8 + 4, none⟩ y4).setCell ⟨g, n * 8 + 5, none⟩ y5).setCell ⟨g, n * 8 + 6, none⟩ y6).setCell ⟨g, n * 8 + 7, none⟩ y7).setCell ⟨b, 2, none⟩ (.slice (some ⟨g, 0, none⟩) (n + 1) c')).heap[b]? = some (.cells (boxL x v' ex).toArray t (0, 0)) ∧ (((((((((w2.setCell ⟨g, n * 8, none⟩ y0).setCell ⟨g, n * 8 + 1, none⟩ y1).setCell ⟨g, n * 8 + 2, none⟩ y2).setCell ⟨g, n * 8 + 3, none⟩ y3).setCell ⟨g, n * 8 + 4, none⟩ y4).setCell ⟨g, n * 8 + 5, none⟩ y5).setCell ⟨g, n * 8 + 6, none⟩ y6).setCell ⟨g, n * 8 + 7, none⟩ y7).setCell ⟨b, 2, none⟩ (.slice (some ⟨g, 0, none⟩) (n + 1) c')).ownsRow 0 34 8 v' (n + if true = true then 1 else 0) (xs ++ if true = true then [y0, y1, y2, y3, y4, y5, y6, y7] else []) ∧ (∀ k, v'.ownBlock = some k → (Value.slice a n c).ownBlock = some k ∨ w.heap.size ≤ k) ∧ Fr (fun g => g = b ∨ (Value.slice a n c).ownBlock = some g) w (((((((((w2.setCell ⟨g, n * 8, none⟩ y0).setCell ⟨g, n * 8 + 1, none⟩ y1).setCell ⟨g, n * 8 + 2, none⟩ y2).setCell ⟨g, n * 8 + 3, none⟩ y3).setCell ⟨g, n * 8 + 4, none⟩ y4).setCell ⟨g, n * 8 + 5, none⟩ y5).setCell ⟨g, n * 8 + 6, none⟩ y6).setCell ⟨g, n * 8 + 7, none⟩ y7).setCell ⟨b, 2, none⟩ (.slice (some ⟨g, 0, none⟩) (n + 1) c')) :=
  ⟨(.slice (some ⟨g, 0, none⟩) (n + 1) c'), box_kids ((set8_other hbg).trans hb) _, row_keeps (row_set8 ho _ _ _ _ _ _ _ _) (fun k hk => Below.heap_setCell _ _ _ _ (by cases hk; simpa using hgb)), fun k hk => hold_where hk hat hs, F2.trans' (Fr.set (fr_set8 (Fr.refl (fun k => k = g ∨ k = b) w2) (.inl rfl)) (.inr rfl) 2 _) hY⟩

theorem hold_B {w w2 : World} {b g n c c' sz : Nat} {a : Option Addr} {x : Box} {v0 : Value} {ex : List Value} {t : TypeId} {xs : List Value} {z0 z1 z2 z3 z4 z5 z6 z7 y0 y1 y2 y3 y4 y5 y6 y7 : Value} (hbg : b ≠ g) (hgb : g ≠ b) (hb : w2.heap[b]? = some (.cells (boxL x v0 ex).toArray t (0, 0)))
    (ho : w2.ownsRow 0 34 8 (.slice (some ⟨g, 0, none⟩) (n + 1) c') (n + 1) (xs ++ [z0, z1, z2, z3, z4, z5, z6, z7])) (hat : (Value.slice a n c).ownBlock = some g ∨ g = sz) (hs : w.heap.size ≤ sz) (F2 : Fr (fun g => g = b ∨ (Value.slice a n c).ownBlock = some g) w w2)
    (hY : ∀ i, i < w.heap.size → (i = g ∨ i = b) → (i = b ∨ (Value.slice a n c).ownBlock = some i)) :
    ∃ v', (((((((((w2.setCell ⟨b, 2, none⟩ (.slice (some ⟨g, 0, none⟩) (n + 1) c')).setCell ⟨g, n * 8, none⟩ y0).setCell ⟨g, n * 8 + 1, none⟩ y1).setCell ⟨g, n * 8 + 2, none⟩ y2).setCell ⟨g, n * 8 + 3, none⟩ y3).setCell ⟨g, n * 8 + 4, none⟩ y4).setCell ⟨g, n * 8 + 5, none⟩ y5).setCell ⟨g, n * 8 + 6, none⟩ y6).setCell ⟨g, n * 8 + 7, none⟩ y7).heap[b]? = some (.cells (boxL x v' ex).toArray t (0, 0)) ∧ (((((((((w2.setCell ⟨b, 2, none⟩ (.slice (some ⟨g, 0, none⟩) (n + 1) c')).setCell ⟨g, n * 8, none⟩ y0).setCell ⟨g, n * 8 + 1, none⟩ y1).setCell ⟨g, n * 8 + 2, none⟩ y2).setCell ⟨g, n * 8 + 3, none⟩ y3).setCell ⟨g, n * 8 + 4, none⟩ y4).setCell ⟨g, n * 8 + 5, none⟩ y5).setCell ⟨g, n * 8 + 6, none⟩ y6).setCell ⟨g, n * 8 + 7, none⟩ y7).ownsRow 0 34 8 v' (n + if true = true then 1 else 0) (xs ++ if true = true then [y0, y1, y2, y3, y4, y5, y6, y7] else []) ∧ (∀ k, v'.ownBlock = some k → (Value.slice a n c).ownBlock = some k ∨ w.heap.size ≤ k) ∧ Fr (fun g => g = b ∨ (Value.slice a n c).ownBlock = some g) w (((((((((w2.setCell ⟨b, 2, none⟩ (.slice (some ⟨g, 0, none⟩) (n + 1) c')).setCell ⟨g, n * 8, none⟩ y0).setCell ⟨g, n * 8 + 1, none⟩ y1).setCell ⟨g, n * 8 + 2, none⟩ y2).setCell ⟨g, n * 8 + 3, none⟩ y3).setCell ⟨g, n * 8 + 4, none⟩ y4).setCell ⟨g, n * 8 + 5, none⟩ y5).setCell ⟨g, n * 8 + 6, none⟩ y6).setCell ⟨g, n * 8 + 7, none⟩ y7) :=
  ⟨(.slice (some ⟨g, 0, none⟩) (n + 1) c'), (set8_other hbg).trans (box_kids hb _), row_set8 (row_keeps ho (fun k hk => Below.heap_setCell _ _ _ _ (by cases hk; simpa using hgb))) _ _ _ _ _ _ _ _, fun k hk => hold_where hk hat hs, F2.trans' (fr_set8 (Fr.set (Fr.refl (fun k => k = g ∨ k = b) w2) (.inr rfl) 2 _) (.inl rfl)) hY⟩

set_option maxRecDepth 20000 in
set_option maxHeartbeats 4000000 in
theorem bhold_any {w : World} {b bp : Nat} {x : Box} {a : Option Addr} {n c : Nat} {ex : List Value} {t : TypeId} {f l : Nat} (h : w.heap[b]? = some (.cells (boxL x (.slice a n c) ex).toArray t (0, 0)))
    {T : TypeId} {K : FuncId} (m1 : ∀ w, (method 345 T (ptrV bp) "scriptorium/block.lines").run Tryz.prog w = .ok (227, ptrV bp) w)
    (m2 : ∀ w, (method 345 T (ptrV bp) "scriptorium/block.told").run Tryz.prog w = .ok (K, ptrV bp) w) (m3 : ∀ args w, (callFunc K args).run Tryz.prog w = .ok (.enter K args) w)
    (HL : Calls Tryz.prog 227 #[ptrV bp] w fun e w' => e = .returned (.agg #[.int .i64 (f : Int), .int .i64 (l : Int)]) ∧ Below w.heap.size w w')
    {tv : BI} {ak : Option Addr} {nk ck : Nat} {ok : Bool} (HT : ∀ u, Fr (fun g => g = b) w u → Calls Tryz.prog K #[ptrV bp] u fun e w' => e = .returned (toldV tv (.slice ak nk ck) ok) ∧ Below u.heap.size u w')
    {xs : List Value} (hrow : w.ownsRow 0 34 8 (.slice a n c) n xs) (ht : t ≠ 34) (hn : n ≤ 1099511627776) (hx : x.last ≤ 1099511627776) (hf : f ≤ 1099511627776) (hl : l ≤ 1099511627776) :
    Calls Tryz.prog 225 #[ptrV b, .iface T (ptrV bp)] w fun e w' => e = .returned (.tuple #[]) ∧ ∃ v', w'.heap[b]? = some (.cells (boxL { x with last := max x.last l, held := true, gap := x.gap || (x.held && decide (x.last + 1 < f)) } v' ex).toArray t (0, 0)) ∧ w'.ownsRow 0 34 8 v' (n + (if ok then 1 else 0)) (xs ++ (if ok then biCells tv (.slice ak nk ck) else [])) ∧ (∀ g, v'.ownBlock = some g → (Value.slice a n c).ownBlock = some g ∨ w.heap.size ≤ g) ∧ Fr (fun g => g = b ∨ (Value.slice a n c).ownBlock = some g) w w' := by
  have HL' : Hid (Calls Tryz.prog 227 #[ptrV bp] w fun e w' => e = .returned (.agg #[.int .i64 (f : Int), .int .i64 (l : Int)]) ∧ Below w.heap.size w w') := HL
  have HT' := (show Hid _ from HT)
  have hlt := lt_of_block h
  have HH := (show Hid _ from h)
  have HR : Hid (w.ownsRow 0 34 8 (.slice a n c) n xs) := hrow
  have hnn : (n : Int) < (n : Int) + 1 := by omega
  have HNE : Hid (∀ g, (Value.slice a n c).ownBlock = some g → g ≠ b) := by
    intro g hg e
    obtain ⟨cur, q⟩ := row_block hrow hg
    rw [e, h] at q
    cases q
    exact ht rfl
  clear HL HT h hrow ht
  go_enter Tryz.func225, Tryz.ntmps225
  go_wp2_with (go_at_call 227; refine HL'.out.mono ?_; rintro e u ⟨rfl, hu⟩; have hb := blk_below HH.out hu; have hbu := blk_below hb ((Below.refl _ _).alloc (Nat.le_refl _) (.cells #[.int .i64 (f : Int), .int .i64 (l : Int)] 48)); have e0 := cell_blk (new_blk u #[.int .i64 (f : Int), .int .i64 (l : Int)] 48) (i := 0) rfl; have e1 := cell_blk (new_blk u #[.int .i64 (f : Int), .int .i64 (l : Int)] 48) (i := 1) rfl)
  have HU := (show Hid _ from hu)
  have hne : b ≠ u.heap.size := by have := hu.size; omega
  generalize hW : u.alloc (.cells #[.int .i64 (f : Int), .int .i64 (l : Int)] 48) = W at *
  have HBW : Hid (Below w.heap.size w W) := by show Below _ _ _; rw [← hW]; exact hu.alloc hu.size _
  generalize u.heap.size = eb at *
  have b0 := cell_blk hbu (i := 0) rfl
  have b1 := cell_blk hbu (i := 1) rfl
  have b2 := cell_blk hbu (i := 2) rfl
  have b3 := cell_blk hbu (i := 3) rfl
  have b4 := cell_blk hbu (i := 4) rfl
  have f1 := free_blk hbu 1
  have f3 := free_blk hbu 3
  have f4 := free_blk hbu 4
  have HHW := (show Hid _ from hbu)
  clear hW hu hb HU HL' hbu hlt
  simp only [List.getElem_toArray, List.getElem_cons_zero, List.getElem_cons_succ] at b0 b1 b2 b3 b4 e0 e1
  have HBox : Hid (HoldW w b eb x (.slice a n c) ex t f l W) := ⟨HHW.out, e0, e1, Fr.of_below HBW.out⟩
  go_cut [23] from 9 to 22 (fun X wx => X = .bool (x.held && decide (x.last + 1 < f)) ∧ Hid (HoldW w b eb x (.slice a n c) ex t f l wx))
  case first =>
    cases hheld : x.held
    · simp only [hheld] at b3
      go_quiet (fail)
      go_wp2_with fail
      go_meet
      exact ⟨by rw [hheld]; rfl, HBox.out.drewN _⟩
    · simp only [hheld] at b3
      by_cases hc : x.last + 1 < f
      · have hc' : (x.last : Int) + 1 < (f : Int) := by omega
        have hd : decide (x.last + 1 < f) = true := by simp [hc]
        have HD := (show Hid _ from hd)
        clear hc hd
        go_quiet (fail)
        go_wp2_with fail
        go_meet
        exact ⟨by rw [hheld, HD.out]; rfl, HBox.out.drewN _⟩
      · have hc' : ¬ (x.last : Int) + 1 < (f : Int) := by omega
        have hd : decide (x.last + 1 < f) = false := by simp [hc]
        have HD := (show Hid _ from hd)
        clear hc hd
        go_quiet (fail)
        go_wp2_with fail
        go_meet
        exact ⟨by rw [hheld, HD.out]; rfl, HBox.out.drewN _⟩
  case rest =>
    obtain ⟨rfl, hb⟩ := hcut
    clear HBox b0 b1 b2 b3 b4 f1 f3 f4 e0 e1 HHW HBW
    generalize wc = V at *
    have b4 := cell_blk hb.out.1 (i := 4) rfl
    have f4 := free_blk hb.out.1 4
    simp only [List.getElem_toArray, List.getElem_cons_zero, List.getElem_cons_succ] at b4
    go_upto_if 23 with fail
    go_cut [] from 23 to 26 (fun wx => Hid (HoldW w b eb { x with gap := x.gap || (x.held && decide (x.last + 1 < f)) } (.slice a n c) ex t f l wx))
    case first =>
      cases hg : (x.held && decide (x.last + 1 < f))
      · go_wp2
        go_meet
        show HoldW _ _ _ _ _ _ _ _ _ _
        rw [hg, Bool.or_false]
        exact hb.out
      · go_wp2
        go_meet
        show HoldW _ _ _ _ _ _ _ _ _ _
        rw [hg, Bool.or_true]
        exact hb.out.gap hne
    case rest =>
      generalize hgv : (x.gap || (x.held && decide (x.last + 1 < f))) = gv at *
      clear hb b4 f4
      generalize wc = V2 at *
      have b1 := cell_blk hcut.out.1 (i := 1) rfl
      have b3 := cell_blk hcut.out.1 (i := 3) rfl
      have f1 := free_blk hcut.out.1 1
      have f3 := free_blk hcut.out.1 3
      have e1 := hcut.out.2.2.1
      simp only [List.getElem_toArray, List.getElem_cons_zero, List.getElem_cons_succ] at b1 b3
      have hmx : (max (x.last : Int) (l : Int)) = ((max x.last l : Nat) : Int) := by omega
      go_wp2
      go_region
      have h3 := ((hcut.out.held hne).last hne (max x.last l)).drewN 1
      have hw3 : ((V2.setCell ⟨b, 3, none⟩ (.bool true)).setCell ⟨b, 1, none⟩ (.int .i64 ((max x.last l : Nat) : Int))).drewN 1 = ((V2.setCell ⟨b, 3, none⟩ (.bool true)).setCell ⟨b, 1, none⟩ (.int .i64 ((max x.last l : Nat) : Int))).drew := rfl
      rw [hw3] at h3
      clear hcut b1 b3 f1 f3 e1 hw3
      generalize ((V2.setCell ⟨b, 3, none⟩ (.bool true)).setCell ⟨b, 1, none⟩ (.int .i64 ((max x.last l : Nat) : Int))).drew = V3 at *
      go_wp2_with fail
      refine (HT'.out _ h3.2.2.2).mono ?_
      rintro e u2 ⟨rfl, hu2⟩
      have HU2 := (show Hid _ from hu2)
      have HB3 := (show Hid _ from blk_below h3.1 hu2)
      have HR3 : Hid (u2.ownsRow 0 34 8 (.slice a n c) n xs) := row_below (row_keeps HR.out (fun g hg => h3.2.2.2.block g (World.ownsRow.lt HR.out g hg).2 (HNE.out g hg))) hu2
      have HF3 : Hid (Fr (fun g => g = b) w u2) := h3.2.2.2.trans (Fr.of_below hu2)
      clear h3 hu2 HU2
      cases ok
      · go_wp2
        go_end0
        have hB := (Below.refl u2.heap.size u2).alloc (Nat.le_refl _) (.cells #[.int .i64 (tv.kind : Int), .int .i64 (tv.level : Int), strV tv.text, strV tv.info, .bool tv.ordered, .bool tv.tight, .int .i64 (tv.start : Int), .slice ak nk ck] 34)
        refine ⟨rfl, .slice a n c, blk_below HB3.out hB, ?_, fun g hg => .inl hg, (HF3.out.trans (Fr.of_below hB)).mono (fun k hk => .inl hk)⟩
        have hq := row_below HR3.out hB
        simpa using hq
      · have hkb := new_blk u2 #[.int .i64 (tv.kind : Int), .int .i64 (tv.level : Int), strV tv.text, strV tv.info, .bool tv.ordered, .bool tv.tight, .int .i64 (tv.start : Int), .slice ak nk ck] 34
        have hB := (Below.refl u2.heap.size u2).alloc (Nat.le_refl _) (.cells #[.int .i64 (tv.kind : Int), .int .i64 (tv.level : Int), strV tv.text, strV tv.info, .bool tv.ordered, .bool tv.tight, .int .i64 (tv.start : Int), .slice ak nk ck] 34)
        have HBb := (show Hid _ from hB)
        have hb4 := blk_below HB3.out hB
        have hr4 := row_below HR3.out hB
        have HF4 := (show Hid _ from HF3.out.trans (Fr.of_below hB))
        have hkne : ∀ g, (Value.slice a n c).ownBlock = some g → g < u2.heap.size := fun g hg => (World.ownsRow.lt HR3.out g hg).2
        have hbne : b < u2.heap.size := lt_of_block HB3.out
        obtain ⟨⟨k0, k1, k2, k3, k4, k5, k6, k7⟩, _⟩ := zer8 hkb
        generalize hV4 : u2.alloc (.cells #[.int .i64 (tv.kind : Int), .int .i64 (tv.level : Int), strV tv.text, strV tv.info, .bool tv.ordered, .bool tv.tight, .int .i64 (tv.start : Int), .slice ak nk ck] 34) = V4 at *
        have hsz : Hid (V4.heap.size = u2.heap.size + 1) := by show _ = _; rw [← hV4]; simp
        generalize hkb' : u2.heap.size = kb at *
        have b2 := cell_blk hb4 (i := 2) rfl
        simp only [List.getElem_toArray, List.getElem_cons_zero, List.getElem_cons_succ] at b2
        have a0 := fun o => alc k0 o
        have a1 := fun o => alc k1 o
        have a2 := fun o => alc k2 o
        have a3 := fun o => alc k3 o
        have a4 := fun o => alc k4 o
        have a5 := fun o => alc k5 o
        have a6 := fun o => alc k6 o
        have a7 := fun o => alc k7 o
        have ab := fun o => alc b2 o
        obtain ⟨i0, hi, hz0, hz1, hz2⟩ := info_parts infoB
        have HB4 := (show Hid _ from hb4)
        have HKB := (show Hid _ from hkb)
        clear hkb hB HBb HB3 HR3 HF3 hb4
        go_wp2
        go_region_law (refine step_append_row rfl (.tmp 51) (.tmp 54) 27 rfl 34 i0 _ 8 88 Tryz.underlying27 hi hz0 hz1 hz2 rfl (by decide) (.slice a n c) n xs (by first | rfl | simp [Act.eval, Act.put]) (World.ownsRow.alloc (w := V4.drew) hr4 _) ⟨V4.heap.size, 0, none⟩ 1 _ (by first | rfl | simp [Act.eval, Act.put]) rfl (lit_cells V4.drew [.int .i64 0, .int .i64 0, .string ⟨#[]⟩, .string ⟨#[]⟩, .bool false, .bool false, .int .i64 0, .slice none 0 0] _) (by intro u hu; simp at hu; rcases hu with rfl | rfl | rfl | rfl | rfl | rfl | rfl | rfl <;> rfl) (by unfold maxLen; omega) (by omega) ?_; intro g c' w2 hown' hgrow hat; have hgb : g ≠ b := hold_apart HNE.out hat (by have := hsz.out; simp; omega); have hbg : b ≠ g := Ne.symm hgb; have hb5 : w2.heap[b]? = _ := (hgrow.block b (by have := hsz.out; simp; omega) (hold_row HNE.out)).trans (blk_below (w := V4.drew) HB4.out ((Below.refl _ _).alloc (Nat.le_refl _) _)); have b25 := cell_blk hb5 (i := 2) rfl; have f25 := free_blk hb5 2; simp only [List.getElem_toArray, List.getElem_cons_zero, List.getElem_cons_succ] at b25; obtain ⟨⟨y0, y1, y2, y3, y4, y5, y6, y7⟩, yf⟩ := row_new8 hown'; have yf0 := yf (n * 8); have yf1 := yf (n * 8 + 1); have yf2 := yf (n * 8 + 2); have yf3 := yf (n * 8 + 3); have yf4 := yf (n * 8 + 4); have yf5 := yf (n * 8 + 5); have yf6 := yf (n * 8 + 6); have yf7 := yf (n * 8 + 7); have HO' := (show Hid (w2.ownsRow 0 34 8 (.slice (some ⟨g, 0, none⟩) (n + 1) c') (n + 1) (xs ++ [.int .i64 0, .int .i64 0, .string ⟨#[]⟩, .string ⟨#[]⟩, .bool false, .bool false, .int .i64 0, .slice none 0 0])) from hown'); have HG' := (show Hid _ from hgrow); have HAT := (show Hid _ from hat); have HB5 := (show Hid _ from hb5); clear hown' hgrow hat hb5 yf)
        all_goals go_wp2
        all_goals go_end0
        all_goals have hsw := HF4.out.size
        all_goals have F2 : Fr (fun g => g = b ∨ (Value.slice a n c).ownBlock = some g) w w2 := (HF4.out.mono (fun k hk => .inl hk)).trans (((((Fr.refl (fun k => (Value.slice a n c).ownBlock = some k) V4).drewN 1).alloc _).trans (fr_grown HG'.out)).mono (fun k hk => .inr hk))
        all_goals have hY : ∀ i, i < w.heap.size → (i = g ∨ i = b) → (i = b ∨ (Value.slice a n c).ownBlock = some i) := fun i hi hq => hold_in HAT.out (by have := hsz.out; simp; omega) hi hq
        all_goals clear a0 a1 a2 a3 a4 a5 a6 a7 ab HF4 HG' y0 y1 y2 y3 y4 y5 y6 y7 yf0 yf1 yf2 yf3 yf4 yf5 yf6 yf7
        all_goals have hsg : w.heap.size ≤ (V4.drew.alloc (.cells #[.int .i64 0, .int .i64 0, .string ⟨#[]⟩, .string ⟨#[]⟩, .bool false, .bool false, .int .i64 0, .slice none 0 0] 34)).heap.size := by have := hsz.out; simp; omega
        all_goals first
          | with_reducible exact ⟨rfl, hold_A hbg hgb HB5.out HO'.out HAT.out hsg F2 hY⟩
          | with_reducible exact ⟨rfl, hold_B hbg hgb HB5.out HO'.out HAT.out hsg F2 hY⟩

end Go.Proofs.YtcbojffcnlkejaaGreatDoor

/- Whatever part it is: what it tells, and its lines. -/
namespace Go.Proofs.YtcbojffcnlkejaaGreatDoor
open Go.RowKit
open cur (cell_blk free_blk set_blk blk_below)

/-- The block that a part is, whether it is not gone, and its kids. -/
def toldB : Part → BI
  | .doc _ => {}
  | .quote _ => { kind := 1 }
  | .list b m => { kind := 2, ordered := ordB m.sign, start := m.number, tight := !b.gap }
  | .item _ _ => { kind := 3 }
  | .para b 0 => if b.rows = [] then {} else { kind := 5, text := tailG (joinL b.rows) }
  | .para b (n + 1) => if b.rows = [] then {} else { kind := 4, level := n + 1, text := tailG (joinL b.rows) }
  | .fenced b _ _ _ info => { kind := 6, text := endedL b.rows, info := info }
  | .indented b => { kind := 6, text := endedL (b.rows.take (b.last - b.first + 1)) }
  | .html b _ => { kind := 7, text := endedL b.rows }
  | .whole _ _ b => b
def toldO : Part → Bool
  | .para b _ => !b.rows.isEmpty
  | _ => true
def toldK : Part → Bs
  | .doc b | .quote b | .list b _ | .item b _ => b.kids
  | _ => .nil
theorem told_eq (p : Part) : p.told = if toldO p then some (toldB p, toldK p) else none := by
  cases p with
  | para b l =>
    cases l with
    | zero => by_cases h : b.rows = [] <;> simp [Part.told, toldO, toldB, toldK, h]
    | succ n => by_cases h : b.rows = [] <;> simp [Part.told, toldO, toldB, toldK, h]
  | _ => simp [Part.told, toldO, toldB, toldK]

/-- How much a part's rows hold. -/
def Part.bulk : Part → Nat
  | .para b _ | .fenced b _ _ _ _ | .indented b | .html b _ => bulkL b.rows
  | _ => 0
/-- A part that may be told. -/
def Part.ok (N : Nat) (p : Part) : Prop := p.ext.1 ≤ N ∧ p.ext.2 ≤ N ∧ p.bulk ≤ N ∧ (toldK p).len ≤ N ∧
  match p with
  | .indented b => b.first ≤ b.last ∧ b.last - b.first + 1 ≤ b.rows.length
  | _ => True

theorem ext_cells (p : Part) (v : Value) : (partCs p v).toArray[0]? = some (.int .i64 (p.ext.1 : Int)) ∧ (partCs p v).toArray[1]? = some (.int .i64 (p.ext.2 : Int)) := by
  cases p <;> exact ⟨rfl, rfl⟩

/-- A part in a world, its row being v. -/
def PartV (w : World) (A S : Nat → Prop) (b : Nat) (p : Part) (v : Value) : Prop := w.heap[b]? = some (.cells (partCs p v).toArray (partT p) (0, 0)) ∧ partV w A S v p

/-- The row that is told of a part. -/
def toldR (p : Part) (v : Value) : Value := if p.isC then v else .slice none 0 0

theorem btold_any {w : World} {A S : Nat → Prop} {b : Nat} {p : Part} {v : Value} (h : PartV w A S b p v) (hp : p.ok 1099511627776) :
    Calls Tryz.prog (toldF p) #[ptrV b] w fun e w' => e = .returned (toldV (toldB p) (toldR p v) (toldO p)) ∧ Below w.heap.size w w' := by
  obtain ⟨h1, h2⟩ := h
  cases p with
  | doc x => obtain ⟨xs, q, _⟩ := h2; obtain ⟨a, c, rfl, _⟩ := row_slice q; exact btold_doc h1
  | quote x => obtain ⟨xs, q, _⟩ := h2; obtain ⟨a, c, rfl, _⟩ := row_slice q; exact btold_quote h1
  | list x m => obtain ⟨xs, q, _⟩ := h2; obtain ⟨a, c, rfl, _⟩ := row_slice q; exact btold_list h1
  | item x n => obtain ⟨xs, q, _⟩ := h2; obtain ⟨a, c, rfl, _⟩ := row_slice q; exact btold_item h1
  | fenced x sg k i s => exact btold_fenced h1 h2 hp.2.2.1
  | html x k => exact btold_html h1 h2 hp.2.2.1
  | indented x => exact btold_indented h1 h2 hp.2.2.1 hp.2.2.2.2.1 hp.2.2.2.2.2 hp.2.1
  | whole f l i => have h2 : v = .slice none 0 0 := h2; subst h2; exact btold_whole h1
  | para x k =>
    by_cases h0 : x.rows = []
    · have he : x.rows.isEmpty = true := by rw [h0]; rfl
      have := btold_gone h1 h2 h0
      cases k <;> simpa [toldF, toldB, toldO, toldR, h0, he, Part.isC] using this
    · have he : x.rows.isEmpty = false := by cases q : x.rows.isEmpty; rfl; exact absurd (List.isEmpty_iff.1 q) h0
      cases k with
      | zero =>
        have := btold_para h1 h2 hp.2.2.1 h0
        simpa [toldF, toldB, toldO, toldR, h0, he, Part.isC] using this
      | succ k =>
        have := btold_head h1 h2 hp.2.2.1 h0 (Nat.succ_pos k)
        simpa [toldF, toldB, toldO, toldR, h0, he, Part.isC] using this

theorem blines_part {w : World} {A S : Nat → Prop} {b : Nat} {p : Part} {v : Value} (h : PartV w A S b p v) :
    Calls Tryz.prog 227 #[ptrV b] w fun e w' => e = .returned (.agg #[.int .i64 (p.ext.1 : Int), .int .i64 (p.ext.2 : Int)]) ∧ Below w.heap.size w w' := blines_any h.1 (ext_cells p v).1 (ext_cells p v).2

end Go.Proofs.YtcbojffcnlkejaaGreatDoor
