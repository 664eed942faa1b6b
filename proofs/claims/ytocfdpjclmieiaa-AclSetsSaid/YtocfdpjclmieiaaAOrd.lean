/- Compare, Or, order; walked. -/
import Derived.Test.YtocfdpjclmieiaaAWho
import Derived.Test.YtocfdpjclmieiaaBOrd
set_option linter.unusedVariables false
namespace Go.Proofs.Ytocfdpjclmieiaa
open Go.RowKit

theorem cmp_lib : ∀ a b : StrA, Lib.compareBytes a b = cmpL a b
  | [], [] => rfl
  | [], _ :: _ => rfl
  | _ :: _, [] => rfl
  | a :: x, b :: y => by
    unfold Lib.compareBytes cmpL
    simp only [UInt8.lt_iff_toNat_lt]
    rw [cmp_lib x y]
theorem acmp_any (a b : StrA) (w : World) : Calls Try.prog 32 #[strA a, strA b] w fun e w' => e = .returned (.int .i64 (cmpL a b)) ∧ w' = w := by
  have := Try.strings_Compare ⟨a.toArray⟩ ⟨b.toArray⟩ w
  rw [list_data, list_data, cmp_lib] at this
  exact this
abbrev aggA (g : GrA) : Value := .agg #[strA g.tenant, strA g.who, .int .i64 g.right]

set_option maxHeartbeats 4000000 in
theorem aor_any (x y : Int) (g c : Nat) (w : World) (h0 : w.cell? ⟨g, 0, none⟩ = some (.int .i64 x)) (h1 : w.cell? ⟨g, 1, none⟩ = some (.int .i64 y)) :
    Calls Try.prog 31 #[.slice (some ⟨g, 0, none⟩) 2 c] w fun e w' => e = .returned (.int .i64 (if x ≠ 0 then x else y)) ∧ w' = w := by
  go_enter Try.func31, Try.ntmps31
  go_wp2
  go_loopw [8] (fun i wr => ∃ k : Nat, i = .int .i64 (k : Int) ∧ k ≤ 2 ∧ Hid (1 ≤ k → x = 0) ∧ Hid (2 ≤ k → y = 0) ∧ wr = w) (fun i _ => 2 - (intOf i).toNat)
  case atStart => exact ⟨0, rfl, by omega, (fun h => absurd h (by omega)), (fun h => absurd h (by omega)), rfl⟩
  case round =>
    obtain ⟨k, rfl, hk, H1, H2, hw⟩ := hrel
    subst hw
    have hk3 : k = 0 ∨ k = 1 ∨ k = 2 := by omega
    rcases hk3 with rfl | rfl | rfl
    · by_cases hx : x = 0
      · subst hx
        have HE : Hid ((1 ≤ 1 → (0 : Int) = 0)) := fun _ => rfl
        go_wp2
        go_roundw
        case rel => exact ⟨0 + 1, by go_num, by omega, (fun _ => trivial), (fun h => absurd h (by omega)), by first | rfl | trivial⟩
        case measure => (simp [intOf]) <;> omega
      · have hxb : (x != 0) = true := by simpa using hx
        go_wp2
        go_ret
        exact ⟨ret_int (by simp), rfl⟩
    · have hx : x = 0 := H1.out (by omega)
      subst hx
      by_cases hy : y = 0
      · subst hy
        clear H1 H2
        go_wp2
        go_roundw
        case rel => exact ⟨1 + 1, by go_num, by omega, (fun _ => trivial), (fun _ => trivial), by first | rfl | trivial⟩
        case measure => (simp [intOf]) <;> omega
      · have hyb : (y != 0) = true := by simpa using hy
        clear H1 H2
        go_wp2
        go_ret
        exact ⟨ret_int (by simp), rfl⟩
    · have hx : x = 0 := H1.out (by omega)
      have hy : y = 0 := H2.out (by omega)
      subst hx
      subst hy
      clear H1 H2
      go_wp2
      go_ret
      exact ⟨ret_int (by simp), rfl⟩

/-- The worlds in which all is as it was below a world's end. -/
def BwA (w0 : World) : Type := { u : World // Below w0.heap.size w0 u }
def BwA.of {w0 w : World} (h : Below w0.heap.size w0 w) : BwA w0 := ⟨w, h⟩
def BwA.wo {w0 : World} (u : BwA w0) : World := u.1
theorem BwA.is {w0 : World} (u : BwA w0) : Below w0.heap.size w0 u.wo := u.2
theorem BwA.first (w0 : World) : ∃ u : BwA w0, w0.drew = u.wo := ⟨BwA.of (w := w0.drew) ⟨rfl, rfl, rfl, Nat.le_refl _, fun _ _ => rfl⟩, rfl⟩
theorem BwA.some (w0 : World) : Nonempty (BwA w0) := ⟨BwA.of (Below.refl _ _)⟩
theorem blk_new (w : World) (cs : Array Value) (t : TypeId) : (w.alloc (.cells cs t)).heap[w.heap.size]? = some (.cells cs t (0, 0)) := heap_alloc_new w (.cells cs t)
theorem cell_blkA {w : World} {b : Nat} {cs : Array Value} {t : TypeId} (h : w.heap[b]? = some (.cells cs t (0, 0))) {i : Nat} {v : Value} (hi : cs[i]? = some v) : w.cell? ⟨b, i, none⟩ = some v := by
  simp [World.cell?, h, hi]
theorem blk_belowA {w w' : World} {b : Nat} {o : Obj} (h : w.heap[b]? = some o) (hb : Below w.heap.size w w') : w'.heap[b]? = some o := (hb.block b (Array.getElem?_eq_some_iff.1 h).1).trans h

set_option maxHeartbeats 4000000 in
set_option maxRecDepth 8000 in
theorem aorder_any (a b : GrA) (w : World) : Calls Try.prog 23 #[aggA a, aggA b] w fun e w' => e = .returned (.int .i64 (ordL a b)) ∧ Below w.heap.size w w' := by
  obtain ⟨t1, h1, r1⟩ := a
  obtain ⟨t2, h2, r2⟩ := b
  have HO : Hid (ordL ⟨t1, h1, r1⟩ ⟨t2, h2, r2⟩ = if cmpL t1 t2 ≠ 0 then cmpL t1 t2 else cmpL h1 h2) := rfl
  obtain ⟨WA, hWA⟩ : ∃ WA, WA = w.alloc (.cells #[strA t1, strA h1, .int .i64 r1] 33) := ⟨_, rfl⟩
  obtain ⟨W1, hW1⟩ : ∃ W1, W1 = WA.alloc (.cells #[strA t2, strA h2, .int .i64 r2] 33) := ⟨_, rfl⟩
  have hsA : WA.heap.size = w.heap.size + 1 := by rw [hWA]; simp
  have hbA : Below w.heap.size w WA := by rw [hWA]; exact (Below.refl _ _).alloc (Nat.le_refl _) _
  have hb1 : Below WA.heap.size WA W1 := by rw [hW1]; exact (Below.refl _ _).alloc (Nat.le_refl _) _
  have k1 : W1.heap[w.heap.size]? = some (.cells #[strA t1, strA h1, .int .i64 r1] 33 (0, 0)) := blk_belowA (by rw [hWA]; exact blk_new _ _ _) hb1
  have k2 : W1.heap[w.heap.size + 1]? = some (.cells #[strA t2, strA h2, .int .i64 r2] 33 (0, 0)) := by rw [hW1, ← hsA]; exact blk_new _ _ _
  have HBW : Hid (Below w.heap.size w W1) := hbA.trans (hb1.mono hbA.size)
  have c1 : ∀ u : BwA W1, u.wo.cell? ⟨w.heap.size, 0, none⟩ = some (strA t1) := fun u => cell_blkA (blk_belowA k1 u.is) rfl
  have c2 : ∀ u : BwA W1, u.wo.cell? ⟨w.heap.size, 1, none⟩ = some (strA h1) := fun u => cell_blkA (blk_belowA k1 u.is) rfl
  have c3 : ∀ u : BwA W1, u.wo.cell? ⟨w.heap.size + 1, 0, none⟩ = some (strA t2) := fun u => cell_blkA (blk_belowA k2 u.is) rfl
  have c4 : ∀ u : BwA W1, u.wo.cell? ⟨w.heap.size + 1, 1, none⟩ = some (strA h2) := fun u => cell_blkA (blk_belowA k2 u.is) rfl
  have HC1 : Hid (∀ u : BwA W1, Calls Try.prog 32 #[strA t1, strA t2] u.wo fun e w' => e = .returned (.int .i64 (cmpL t1 t2)) ∧ ∃ u' : BwA W1, w' = u'.wo) := fun u => (acmp_any t1 t2 u.wo).mono fun e w' q => ⟨q.1, u, q.2⟩
  have HC2 : Hid (∀ u : BwA W1, Calls Try.prog 32 #[strA h1, strA h2] u.wo fun e w' => e = .returned (.int .i64 (cmpL h1 h2)) ∧ ∃ u' : BwA W1, w' = u'.wo) := fun u => (acmp_any h1 h2 u.wo).mono fun e w' q => ⟨q.1, u, q.2⟩
  generalize ordL ⟨t1, h1, r1⟩ ⟨t2, h2, r2⟩ = R at *
  generalize cmpL t1 t2 = X at *
  generalize cmpL h1 h2 = Y at *
  have HOr : Hid (∀ (u : World), Calls Try.prog 31 #[.slice (some ⟨u.heap.size, 0, none⟩) 2 2] (u.alloc (.cells #[.int .i64 X, .int .i64 Y] 3)) fun e w' => e = .returned (.int .i64 R) ∧ w' = (u.alloc (.cells #[.int .i64 X, .int .i64 Y] 3))) := fun u => by
    rw [HO.out]
    have c0 := lit_cells u [.int .i64 X, .int .i64 Y] 3 0 _ rfl
    have c1 := lit_cells u [.int .i64 X, .int .i64 Y] 3 1 _ rfl
    exact aor_any X Y u.heap.size 2 _ c0 c1
  clear HO k1 k2 hbA hb1 hsA
  go_enter Try.func23, Try.ntmps23
  go_wp2
  rw [← hWA, ← hW1]
  refine region_tail (fun w' => ∃ u : BwA W1, w' = u.wo) 10 (by kernel_rfl) (by kernel_rfl) (BwA.first W1) ?_
  haveI := BwA.some W1
  simp only [List.take_succ_cons, List.take_zero]
  repeat (go_big_quiet_step (first | (go_at_call_of 32 (strA t1); exact HC1.out _) | (go_at_call_of 32 (strA h1); exact HC2.out _) | exact rfl))
  refine wpQuiet_nil ?_
  intro w5 hw5
  obtain ⟨u, hu⟩ := hw5
  subst hu
  simp only [List.drop_succ_cons, List.drop_zero]
  have HU := (show Hid (Below w.heap.size w u.wo) from HBW.out.trans (u.is.mono HBW.out.size))
  clear c1 c2 c3 c4 HC1 HC2 hWA hW1
  generalize u.wo = w6 at *
  go_wp2_with (go_at_call 31; refine Calls.mono (HOr.out w6) ?_; rintro e u3 ⟨rfl, hu3⟩; subst hu3)
  go_ret
  exact ⟨rfl, HU.out.alloc HU.out.size _⟩
end Go.Proofs.Ytocfdpjclmieiaa
