/- Letters: what is left of one without what its Kind has: walked. -/
import Derived.Test.YtmlihlnigojmpaaDoorWRt3
set_option linter.unusedVariables false
namespace Go.Proofs.YtmlihlnigojmpaaDoor
open Go.RowKit

theorem below_setR {B b i : Nat} {w0 w : World} {u : Value} (h : Below B w0 w) (hB : B ≤ b) : Below B w0 (w.setCell ⟨b, i, none⟩ u) :=
  h.trans ⟨rfl, rfl, rfl, by simp [World.setCell], fun k hk => Below.heap_setCell _ _ _ _ (by simp; omega)⟩
/-- A letter is written over another. -/
theorem set14 {w : World} {b : Nat} {T : TypeId} {a0 a1 a2 a3 a4 a5 a6 a7 a8 a9 a10 a11 a12 a13 : Value} (b0 b1 b2 b3 b4 b5 b6 b7 b8 b9 b10 b11 b12 b13 : Value) (h : w.heap[b]? = some (.cells #[a0, a1, a2, a3, a4, a5, a6, a7, a8, a9, a10, a11, a12, a13] T (0, 0))) :
    ((((((((((((((w.setCell ⟨b, 0, none⟩ b0).setCell ⟨b, 1, none⟩ b1).setCell ⟨b, 2, none⟩ b2).setCell ⟨b, 3, none⟩ b3).setCell ⟨b, 4, none⟩ b4).setCell ⟨b, 5, none⟩ b5).setCell ⟨b, 6, none⟩ b6).setCell ⟨b, 7, none⟩ b7).setCell ⟨b, 8, none⟩ b8).setCell ⟨b, 9, none⟩ b9).setCell ⟨b, 10, none⟩ b10).setCell ⟨b, 11, none⟩ b11).setCell ⟨b, 12, none⟩ b12).setCell ⟨b, 13, none⟩ b13).heap[b]? = some (.cells #[b0, b1, b2, b3, b4, b5, b6, b7, b8, b9, b10, b11, b12, b13] T (0, 0)) := by
  have h0 : (w.setCell ⟨b, 0, none⟩ b0).heap[b]? = some (.cells #[b0, a1, a2, a3, a4, a5, a6, a7, a8, a9, a10, a11, a12, a13] T (0, 0)) := set_blk h 0 b0
  have h1 : ((w.setCell ⟨b, 0, none⟩ b0).setCell ⟨b, 1, none⟩ b1).heap[b]? = some (.cells #[b0, b1, a2, a3, a4, a5, a6, a7, a8, a9, a10, a11, a12, a13] T (0, 0)) := set_blk h0 1 b1
  have h2 : (((w.setCell ⟨b, 0, none⟩ b0).setCell ⟨b, 1, none⟩ b1).setCell ⟨b, 2, none⟩ b2).heap[b]? = some (.cells #[b0, b1, b2, a3, a4, a5, a6, a7, a8, a9, a10, a11, a12, a13] T (0, 0)) := set_blk h1 2 b2
  have h3 : ((((w.setCell ⟨b, 0, none⟩ b0).setCell ⟨b, 1, none⟩ b1).setCell ⟨b, 2, none⟩ b2).setCell ⟨b, 3, none⟩ b3).heap[b]? = some (.cells #[b0, b1, b2, b3, a4, a5, a6, a7, a8, a9, a10, a11, a12, a13] T (0, 0)) := set_blk h2 3 b3
  have h4 : (((((w.setCell ⟨b, 0, none⟩ b0).setCell ⟨b, 1, none⟩ b1).setCell ⟨b, 2, none⟩ b2).setCell ⟨b, 3, none⟩ b3).setCell ⟨b, 4, none⟩ b4).heap[b]? = some (.cells #[b0, b1, b2, b3, b4, a5, a6, a7, a8, a9, a10, a11, a12, a13] T (0, 0)) := set_blk h3 4 b4
  have h5 : ((((((w.setCell ⟨b, 0, none⟩ b0).setCell ⟨b, 1, none⟩ b1).setCell ⟨b, 2, none⟩ b2).setCell ⟨b, 3, none⟩ b3).setCell ⟨b, 4, none⟩ b4).setCell ⟨b, 5, none⟩ b5).heap[b]? = some (.cells #[b0, b1, b2, b3, b4, b5, a6, a7, a8, a9, a10, a11, a12, a13] T (0, 0)) := set_blk h4 5 b5
  have h6 : (((((((w.setCell ⟨b, 0, none⟩ b0).setCell ⟨b, 1, none⟩ b1).setCell ⟨b, 2, none⟩ b2).setCell ⟨b, 3, none⟩ b3).setCell ⟨b, 4, none⟩ b4).setCell ⟨b, 5, none⟩ b5).setCell ⟨b, 6, none⟩ b6).heap[b]? = some (.cells #[b0, b1, b2, b3, b4, b5, b6, a7, a8, a9, a10, a11, a12, a13] T (0, 0)) := set_blk h5 6 b6
  have h7 : ((((((((w.setCell ⟨b, 0, none⟩ b0).setCell ⟨b, 1, none⟩ b1).setCell ⟨b, 2, none⟩ b2).setCell ⟨b, 3, none⟩ b3).setCell ⟨b, 4, none⟩ b4).setCell ⟨b, 5, none⟩ b5).setCell ⟨b, 6, none⟩ b6).setCell ⟨b, 7, none⟩ b7).heap[b]? = some (.cells #[b0, b1, b2, b3, b4, b5, b6, b7, a8, a9, a10, a11, a12, a13] T (0, 0)) := set_blk h6 7 b7
  have h8 : (((((((((w.setCell ⟨b, 0, none⟩ b0).setCell ⟨b, 1, none⟩ b1).setCell ⟨b, 2, none⟩ b2).setCell ⟨b, 3, none⟩ b3).setCell ⟨b, 4, none⟩ b4).setCell ⟨b, 5, none⟩ b5).setCell ⟨b, 6, none⟩ b6).setCell ⟨b, 7, none⟩ b7).setCell ⟨b, 8, none⟩ b8).heap[b]? = some (.cells #[b0, b1, b2, b3, b4, b5, b6, b7, b8, a9, a10, a11, a12, a13] T (0, 0)) := set_blk h7 8 b8
  have h9 : ((((((((((w.setCell ⟨b, 0, none⟩ b0).setCell ⟨b, 1, none⟩ b1).setCell ⟨b, 2, none⟩ b2).setCell ⟨b, 3, none⟩ b3).setCell ⟨b, 4, none⟩ b4).setCell ⟨b, 5, none⟩ b5).setCell ⟨b, 6, none⟩ b6).setCell ⟨b, 7, none⟩ b7).setCell ⟨b, 8, none⟩ b8).setCell ⟨b, 9, none⟩ b9).heap[b]? = some (.cells #[b0, b1, b2, b3, b4, b5, b6, b7, b8, b9, a10, a11, a12, a13] T (0, 0)) := set_blk h8 9 b9
  have h10 : (((((((((((w.setCell ⟨b, 0, none⟩ b0).setCell ⟨b, 1, none⟩ b1).setCell ⟨b, 2, none⟩ b2).setCell ⟨b, 3, none⟩ b3).setCell ⟨b, 4, none⟩ b4).setCell ⟨b, 5, none⟩ b5).setCell ⟨b, 6, none⟩ b6).setCell ⟨b, 7, none⟩ b7).setCell ⟨b, 8, none⟩ b8).setCell ⟨b, 9, none⟩ b9).setCell ⟨b, 10, none⟩ b10).heap[b]? = some (.cells #[b0, b1, b2, b3, b4, b5, b6, b7, b8, b9, b10, a11, a12, a13] T (0, 0)) := set_blk h9 10 b10
  have h11 : ((((((((((((w.setCell ⟨b, 0, none⟩ b0).setCell ⟨b, 1, none⟩ b1).setCell ⟨b, 2, none⟩ b2).setCell ⟨b, 3, none⟩ b3).setCell ⟨b, 4, none⟩ b4).setCell ⟨b, 5, none⟩ b5).setCell ⟨b, 6, none⟩ b6).setCell ⟨b, 7, none⟩ b7).setCell ⟨b, 8, none⟩ b8).setCell ⟨b, 9, none⟩ b9).setCell ⟨b, 10, none⟩ b10).setCell ⟨b, 11, none⟩ b11).heap[b]? = some (.cells #[b0, b1, b2, b3, b4, b5, b6, b7, b8, b9, b10, b11, a12, a13] T (0, 0)) := set_blk h10 11 b11
  have h12 : (((((((((((((w.setCell ⟨b, 0, none⟩ b0).setCell ⟨b, 1, none⟩ b1).setCell ⟨b, 2, none⟩ b2).setCell ⟨b, 3, none⟩ b3).setCell ⟨b, 4, none⟩ b4).setCell ⟨b, 5, none⟩ b5).setCell ⟨b, 6, none⟩ b6).setCell ⟨b, 7, none⟩ b7).setCell ⟨b, 8, none⟩ b8).setCell ⟨b, 9, none⟩ b9).setCell ⟨b, 10, none⟩ b10).setCell ⟨b, 11, none⟩ b11).setCell ⟨b, 12, none⟩ b12).heap[b]? = some (.cells #[b0, b1, b2, b3, b4, b5, b6, b7, b8, b9, b10, b11, b12, a13] T (0, 0)) := set_blk h11 12 b12
  have h13 : ((((((((((((((w.setCell ⟨b, 0, none⟩ b0).setCell ⟨b, 1, none⟩ b1).setCell ⟨b, 2, none⟩ b2).setCell ⟨b, 3, none⟩ b3).setCell ⟨b, 4, none⟩ b4).setCell ⟨b, 5, none⟩ b5).setCell ⟨b, 6, none⟩ b6).setCell ⟨b, 7, none⟩ b7).setCell ⟨b, 8, none⟩ b8).setCell ⟨b, 9, none⟩ b9).setCell ⟨b, 10, none⟩ b10).setCell ⟨b, 11, none⟩ b11).setCell ⟨b, 12, none⟩ b12).setCell ⟨b, 13, none⟩ b13).heap[b]? = some (.cells #[b0, b1, b2, b3, b4, b5, b6, b7, b8, b9, b10, b11, b12, b13] T (0, 0)) := set_blk h12 13 b13
  exact h13

/-- What is left of a letter without what its Kind has. -/
def restL (M : Lt) : Lt :=
  if M.k = 1 then { M with i := 0, lt := 0 }
  else if M.k = 2 then { M with ok := false }
  else if M.k = 3 then { M with i := 0, lt := 0, cm := 0, rd := 0, es := [] }
  else if M.k = 4 then { M with ok := false, i := 0, rd := 0 }
  else if M.k = 5 then { M with sx := 0, st := 0, ns := [], da := [], rd := 0 }
  else M
def restA (M : Lt) (A : LtA) : LtA :=
  if M.k = 3 then { A with ea := none, ec := 0 }
  else if M.k = 5 then { A with na := none, nc := 0, da := none, dc := 0 }
  else A

set_option maxHeartbeats 8000000 in
set_option maxRecDepth 40000 in
theorem rest_any {w : World} (M : Lt) (A : LtA) : Calls Tryd.prog 30 #[ltV M A] w fun e w' => e = .returned (ltV (restL M) (restA M A)) ∧ Below w.heap.size w w' := by
  obtain ⟨w1, hw1⟩ : ∃ w1, w1 = (w.alloc (.cells (ltC M A) 28)).alloc (.cells #[.int .i64 0, .int .i64 0, .int .i64 0, .int .i64 0, .int .i64 0, .int .i64 0, .int .i64 0, .int .i64 0, .bool false, .slice none 0 0, .int .i64 0, .int .i64 0, .slice none 0 0, .slice none 0 0] 28) := ⟨_, rfl⟩
  have hb1 : Below w.heap.size w w1 := by rw [hw1]; exact ((Below.refl _ w).alloc (Nat.le_refl _) _).alloc (by simp) _
  have hk1 : w1.heap[w.heap.size]? = some (.cells (ltC M A) 28 (0, 0)) := by rw [hw1]; exact blk_below (lt_new w M A) ((Below.refl _ _).alloc (Nat.le_refl _) _)
  have hk2 : w1.heap[w.heap.size + 1]? = some (.cells #[.int .i64 0, .int .i64 0, .int .i64 0, .int .i64 0, .int .i64 0, .int .i64 0, .int .i64 0, .int .i64 0, .bool false, .slice none 0 0, .int .i64 0, .int .i64 0, .slice none 0 0, .slice none 0 0] 28 (0, 0)) := by
    rw [hw1]
    have := heap_alloc_new (w.alloc (.cells (ltC M A) 28)) (.cells #[.int .i64 0, .int .i64 0, .int .i64 0, .int .i64 0, .int .i64 0, .int .i64 0, .int .i64 0, .int .i64 0, .bool false, .slice none 0 0, .int .i64 0, .int .i64 0, .slice none 0 0, .slice none 0 0] 28)
    simpa using this
  have HB : Hid (Below w.heap.size w w1) := hb1
  have x0 : w1.cell? ⟨w.heap.size, 0, none⟩ = some (.int .i64 M.k) := pcell hk1 rfl
  have x1 : w1.cell? ⟨w.heap.size, 1, none⟩ = some (.int .i64 M.f) := pcell hk1 rfl
  have x2 : w1.cell? ⟨w.heap.size, 2, none⟩ = some (.int .i64 M.t) := pcell hk1 rfl
  have x3 : w1.cell? ⟨w.heap.size, 3, none⟩ = some (.int .i64 M.tm) := pcell hk1 rfl
  have x4 : w1.cell? ⟨w.heap.size, 4, none⟩ = some (.int .i64 M.i) := pcell hk1 rfl
  have x5 : w1.cell? ⟨w.heap.size, 5, none⟩ = some (.int .i64 M.lt) := pcell hk1 rfl
  have x6 : w1.cell? ⟨w.heap.size, 6, none⟩ = some (.int .i64 M.cm) := pcell hk1 rfl
  have x7 : w1.cell? ⟨w.heap.size, 7, none⟩ = some (.int .i64 M.rd) := pcell hk1 rfl
  have x8 : w1.cell? ⟨w.heap.size, 8, none⟩ = some (.bool M.ok) := pcell hk1 rfl
  have x9 : w1.cell? ⟨w.heap.size, 9, none⟩ = some (.slice A.ea M.es.length A.ec) := pcell hk1 rfl
  have x10 : w1.cell? ⟨w.heap.size, 10, none⟩ = some (.int .i64 M.sx) := pcell hk1 rfl
  have x11 : w1.cell? ⟨w.heap.size, 11, none⟩ = some (.int .i64 M.st) := pcell hk1 rfl
  have x12 : w1.cell? ⟨w.heap.size, 12, none⟩ = some (.slice A.na M.ns.length A.nc) := pcell hk1 rfl
  have x13 : w1.cell? ⟨w.heap.size, 13, none⟩ = some (.slice A.da M.da.length A.dc) := pcell hk1 rfl
  have g0 : w1.frozen? ⟨w.heap.size, 0, none⟩ = false := free_blk hk1 0
  have g1 : w1.frozen? ⟨w.heap.size, 1, none⟩ = false := free_blk hk1 1
  have g2 : w1.frozen? ⟨w.heap.size, 2, none⟩ = false := free_blk hk1 2
  have g3 : w1.frozen? ⟨w.heap.size, 3, none⟩ = false := free_blk hk1 3
  have g4 : w1.frozen? ⟨w.heap.size, 4, none⟩ = false := free_blk hk1 4
  have g5 : w1.frozen? ⟨w.heap.size, 5, none⟩ = false := free_blk hk1 5
  have g6 : w1.frozen? ⟨w.heap.size, 6, none⟩ = false := free_blk hk1 6
  have g7 : w1.frozen? ⟨w.heap.size, 7, none⟩ = false := free_blk hk1 7
  have g8 : w1.frozen? ⟨w.heap.size, 8, none⟩ = false := free_blk hk1 8
  have g9 : w1.frozen? ⟨w.heap.size, 9, none⟩ = false := free_blk hk1 9
  have g10 : w1.frozen? ⟨w.heap.size, 10, none⟩ = false := free_blk hk1 10
  have g11 : w1.frozen? ⟨w.heap.size, 11, none⟩ = false := free_blk hk1 11
  have g12 : w1.frozen? ⟨w.heap.size, 12, none⟩ = false := free_blk hk1 12
  have g13 : w1.frozen? ⟨w.heap.size, 13, none⟩ = false := free_blk hk1 13
  have HK : Hid (w1.heap[w.heap.size]? = some (.cells (ltC M A) 28 (0, 0)) ∧ w1.heap[w.heap.size + 1]? = some (.cells #[.int .i64 0, .int .i64 0, .int .i64 0, .int .i64 0, .int .i64 0, .int .i64 0, .int .i64 0, .int .i64 0, .bool false, .slice none 0 0, .int .i64 0, .int .i64 0, .slice none 0 0, .slice none 0 0] 28 (0, 0))) := ⟨hk1, hk2⟩
  clear hb1 hk1 hk2
  go_enter Tryd.func30, Tryd.ntmps30
  unfold ltV
  go_upto_region 1 with fail
  rw [← hw1]
  clear hw1
  go_upto_block 0 with fail
  go_cut [] from 5 to 29 (fun wx => Hid (wx.heap[w.heap.size]? = some (.cells (ltC (restL M) (restA M A)) 28 (0, 0)) ∧ wx.heap[w.heap.size + 1]? = some (.cells #[.int .i64 0, .int .i64 0, .int .i64 0, .int .i64 0, .int .i64 0, .int .i64 0, .int .i64 0, .int .i64 0, .bool false, .slice none 0 0, .int .i64 0, .int .i64 0, .slice none 0 0, .slice none 0 0] 28 (0, 0)) ∧ Below w.heap.size w wx))
  case first =>
    by_cases k1 : M.k = 1
    · have e1 : restL M = { M with i := 0, lt := 0 } := by unfold restL; rw [if_pos k1]
      have e2 : restA M A = A := by unfold restA; rw [if_neg (by omega), if_neg (by omega)]
      rw [k1] at x0
      obtain ⟨w2, hw2⟩ : ∃ w2, w2 = ((w1.setCell ⟨w.heap.size, 4, none⟩ (.int .i64 0)).setCell ⟨w.heap.size, 5, none⟩ (.int .i64 0)) := ⟨_, rfl⟩
      have hm0 : (w1.setCell ⟨w.heap.size, 4, none⟩ (.int .i64 0)).heap[w.heap.size]? = some (.cells #[.int .i64 M.k, .int .i64 M.f, .int .i64 M.t, .int .i64 M.tm, .int .i64 0, .int .i64 M.lt, .int .i64 M.cm, .int .i64 M.rd, .bool M.ok, .slice A.ea M.es.length A.ec, .int .i64 M.sx, .int .i64 M.st, .slice A.na M.ns.length A.nc, .slice A.da M.da.length A.dc] 28 (0, 0)) := set_blk HK.out.1 4 (.int .i64 0)
      have hm1 : ((w1.setCell ⟨w.heap.size, 4, none⟩ (.int .i64 0)).setCell ⟨w.heap.size, 5, none⟩ (.int .i64 0)).heap[w.heap.size]? = some (.cells #[.int .i64 M.k, .int .i64 M.f, .int .i64 M.t, .int .i64 M.tm, .int .i64 0, .int .i64 0, .int .i64 M.cm, .int .i64 M.rd, .bool M.ok, .slice A.ea M.es.length A.ec, .int .i64 M.sx, .int .i64 M.st, .slice A.na M.ns.length A.nc, .slice A.da M.da.length A.dc] 28 (0, 0)) := set_blk hm0 5 (.int .i64 0)
      rw [← hw2] at hm1
      have hr2 : w2.heap[w.heap.size + 1]? = some (.cells #[.int .i64 0, .int .i64 0, .int .i64 0, .int .i64 0, .int .i64 0, .int .i64 0, .int .i64 0, .int .i64 0, .bool false, .slice none 0 0, .int .i64 0, .int .i64 0, .slice none 0 0, .slice none 0 0] 28 (0, 0)) := by
        rw [hw2, Below.heap_setCell _ _ _ _ (by simp), Below.heap_setCell _ _ _ _ (by simp)]
        exact HK.out.2
      have hb2 : Below w.heap.size w w2 := by
        rw [hw2]
        exact below_setR (below_setR (HB.out) (Nat.le_refl _)) (Nat.le_refl _)
      have HE : Hid (w2.heap[w.heap.size]? = some (.cells (ltC (restL M) (restA M A)) 28 (0, 0)) ∧ w2.heap[w.heap.size + 1]? = some (.cells #[.int .i64 0, .int .i64 0, .int .i64 0, .int .i64 0, .int .i64 0, .int .i64 0, .int .i64 0, .int .i64 0, .bool false, .slice none 0 0, .int .i64 0, .int .i64 0, .slice none 0 0, .slice none 0 0] 28 (0, 0)) ∧ Below w.heap.size w w2) := by
        refine ⟨?_, hr2, hb2⟩
        rw [e1, e2]
        exact hm1
      clear e1 e2 hr2 hb2 hm0 hm1
      go_wp2_with fail
      rw [← hw2]
      go_meet
      exact HE
    by_cases k2 : M.k = 2
    · have e1 : restL M = { M with ok := false } := by unfold restL; rw [if_neg k1, if_pos k2]
      have e2 : restA M A = A := by unfold restA; rw [if_neg (by omega), if_neg (by omega)]
      rw [k2] at x0
      obtain ⟨w2, hw2⟩ : ∃ w2, w2 = (w1.setCell ⟨w.heap.size, 8, none⟩ (.bool false)) := ⟨_, rfl⟩
      have hm0 : (w1.setCell ⟨w.heap.size, 8, none⟩ (.bool false)).heap[w.heap.size]? = some (.cells #[.int .i64 M.k, .int .i64 M.f, .int .i64 M.t, .int .i64 M.tm, .int .i64 M.i, .int .i64 M.lt, .int .i64 M.cm, .int .i64 M.rd, .bool false, .slice A.ea M.es.length A.ec, .int .i64 M.sx, .int .i64 M.st, .slice A.na M.ns.length A.nc, .slice A.da M.da.length A.dc] 28 (0, 0)) := set_blk HK.out.1 8 (.bool false)
      rw [← hw2] at hm0
      have hr2 : w2.heap[w.heap.size + 1]? = some (.cells #[.int .i64 0, .int .i64 0, .int .i64 0, .int .i64 0, .int .i64 0, .int .i64 0, .int .i64 0, .int .i64 0, .bool false, .slice none 0 0, .int .i64 0, .int .i64 0, .slice none 0 0, .slice none 0 0] 28 (0, 0)) := by
        rw [hw2, Below.heap_setCell _ _ _ _ (by simp)]
        exact HK.out.2
      have hb2 : Below w.heap.size w w2 := by
        rw [hw2]
        exact below_setR (HB.out) (Nat.le_refl _)
      have HE : Hid (w2.heap[w.heap.size]? = some (.cells (ltC (restL M) (restA M A)) 28 (0, 0)) ∧ w2.heap[w.heap.size + 1]? = some (.cells #[.int .i64 0, .int .i64 0, .int .i64 0, .int .i64 0, .int .i64 0, .int .i64 0, .int .i64 0, .int .i64 0, .bool false, .slice none 0 0, .int .i64 0, .int .i64 0, .slice none 0 0, .slice none 0 0] 28 (0, 0)) ∧ Below w.heap.size w w2) := by
        refine ⟨?_, hr2, hb2⟩
        rw [e1, e2]
        exact hm0
      clear e1 e2 hr2 hb2 hm0
      go_wp2_with fail
      rw [← hw2]
      go_meet
      exact HE
    by_cases k3 : M.k = 3
    · have e1 : restL M = { M with i := 0, lt := 0, cm := 0, rd := 0, es := [] } := by unfold restL; rw [if_neg k1, if_neg k2, if_pos k3]
      have e2 : restA M A = { A with ea := none, ec := 0 } := by unfold restA; rw [if_pos k3]
      rw [k3] at x0
      obtain ⟨w2, hw2⟩ : ∃ w2, w2 = (((((w1.setCell ⟨w.heap.size, 4, none⟩ (.int .i64 0)).setCell ⟨w.heap.size, 5, none⟩ (.int .i64 0)).setCell ⟨w.heap.size, 6, none⟩ (.int .i64 0)).setCell ⟨w.heap.size, 7, none⟩ (.int .i64 0)).setCell ⟨w.heap.size, 9, none⟩ (.slice none 0 0)) := ⟨_, rfl⟩
      have hm0 : (w1.setCell ⟨w.heap.size, 4, none⟩ (.int .i64 0)).heap[w.heap.size]? = some (.cells #[.int .i64 M.k, .int .i64 M.f, .int .i64 M.t, .int .i64 M.tm, .int .i64 0, .int .i64 M.lt, .int .i64 M.cm, .int .i64 M.rd, .bool M.ok, .slice A.ea M.es.length A.ec, .int .i64 M.sx, .int .i64 M.st, .slice A.na M.ns.length A.nc, .slice A.da M.da.length A.dc] 28 (0, 0)) := set_blk HK.out.1 4 (.int .i64 0)
      have hm1 : ((w1.setCell ⟨w.heap.size, 4, none⟩ (.int .i64 0)).setCell ⟨w.heap.size, 5, none⟩ (.int .i64 0)).heap[w.heap.size]? = some (.cells #[.int .i64 M.k, .int .i64 M.f, .int .i64 M.t, .int .i64 M.tm, .int .i64 0, .int .i64 0, .int .i64 M.cm, .int .i64 M.rd, .bool M.ok, .slice A.ea M.es.length A.ec, .int .i64 M.sx, .int .i64 M.st, .slice A.na M.ns.length A.nc, .slice A.da M.da.length A.dc] 28 (0, 0)) := set_blk hm0 5 (.int .i64 0)
      have hm2 : (((w1.setCell ⟨w.heap.size, 4, none⟩ (.int .i64 0)).setCell ⟨w.heap.size, 5, none⟩ (.int .i64 0)).setCell ⟨w.heap.size, 6, none⟩ (.int .i64 0)).heap[w.heap.size]? = some (.cells #[.int .i64 M.k, .int .i64 M.f, .int .i64 M.t, .int .i64 M.tm, .int .i64 0, .int .i64 0, .int .i64 0, .int .i64 M.rd, .bool M.ok, .slice A.ea M.es.length A.ec, .int .i64 M.sx, .int .i64 M.st, .slice A.na M.ns.length A.nc, .slice A.da M.da.length A.dc] 28 (0, 0)) := set_blk hm1 6 (.int .i64 0)
      have hm3 : ((((w1.setCell ⟨w.heap.size, 4, none⟩ (.int .i64 0)).setCell ⟨w.heap.size, 5, none⟩ (.int .i64 0)).setCell ⟨w.heap.size, 6, none⟩ (.int .i64 0)).setCell ⟨w.heap.size, 7, none⟩ (.int .i64 0)).heap[w.heap.size]? = some (.cells #[.int .i64 M.k, .int .i64 M.f, .int .i64 M.t, .int .i64 M.tm, .int .i64 0, .int .i64 0, .int .i64 0, .int .i64 0, .bool M.ok, .slice A.ea M.es.length A.ec, .int .i64 M.sx, .int .i64 M.st, .slice A.na M.ns.length A.nc, .slice A.da M.da.length A.dc] 28 (0, 0)) := set_blk hm2 7 (.int .i64 0)
      have hm4 : (((((w1.setCell ⟨w.heap.size, 4, none⟩ (.int .i64 0)).setCell ⟨w.heap.size, 5, none⟩ (.int .i64 0)).setCell ⟨w.heap.size, 6, none⟩ (.int .i64 0)).setCell ⟨w.heap.size, 7, none⟩ (.int .i64 0)).setCell ⟨w.heap.size, 9, none⟩ (.slice none 0 0)).heap[w.heap.size]? = some (.cells #[.int .i64 M.k, .int .i64 M.f, .int .i64 M.t, .int .i64 M.tm, .int .i64 0, .int .i64 0, .int .i64 0, .int .i64 0, .bool M.ok, .slice none 0 0, .int .i64 M.sx, .int .i64 M.st, .slice A.na M.ns.length A.nc, .slice A.da M.da.length A.dc] 28 (0, 0)) := set_blk hm3 9 (.slice none 0 0)
      rw [← hw2] at hm4
      have hr2 : w2.heap[w.heap.size + 1]? = some (.cells #[.int .i64 0, .int .i64 0, .int .i64 0, .int .i64 0, .int .i64 0, .int .i64 0, .int .i64 0, .int .i64 0, .bool false, .slice none 0 0, .int .i64 0, .int .i64 0, .slice none 0 0, .slice none 0 0] 28 (0, 0)) := by
        rw [hw2, Below.heap_setCell _ _ _ _ (by simp), Below.heap_setCell _ _ _ _ (by simp), Below.heap_setCell _ _ _ _ (by simp), Below.heap_setCell _ _ _ _ (by simp), Below.heap_setCell _ _ _ _ (by simp)]
        exact HK.out.2
      have hb2 : Below w.heap.size w w2 := by
        rw [hw2]
        exact below_setR (below_setR (below_setR (below_setR (below_setR (HB.out) (Nat.le_refl _)) (Nat.le_refl _)) (Nat.le_refl _)) (Nat.le_refl _)) (Nat.le_refl _)
      have HE : Hid (w2.heap[w.heap.size]? = some (.cells (ltC (restL M) (restA M A)) 28 (0, 0)) ∧ w2.heap[w.heap.size + 1]? = some (.cells #[.int .i64 0, .int .i64 0, .int .i64 0, .int .i64 0, .int .i64 0, .int .i64 0, .int .i64 0, .int .i64 0, .bool false, .slice none 0 0, .int .i64 0, .int .i64 0, .slice none 0 0, .slice none 0 0] 28 (0, 0)) ∧ Below w.heap.size w w2) := by
        refine ⟨?_, hr2, hb2⟩
        rw [e1, e2]
        exact hm4
      clear e1 e2 hr2 hb2 hm0 hm1 hm2 hm3 hm4
      go_wp2_with fail
      rw [← hw2]
      go_meet
      exact HE
    by_cases k4 : M.k = 4
    · have e1 : restL M = { M with ok := false, i := 0, rd := 0 } := by unfold restL; rw [if_neg k1, if_neg k2, if_neg k3, if_pos k4]
      have e2 : restA M A = A := by unfold restA; rw [if_neg (by omega), if_neg (by omega)]
      rw [k4] at x0
      obtain ⟨w2, hw2⟩ : ∃ w2, w2 = (((w1.setCell ⟨w.heap.size, 8, none⟩ (.bool false)).setCell ⟨w.heap.size, 4, none⟩ (.int .i64 0)).setCell ⟨w.heap.size, 7, none⟩ (.int .i64 0)) := ⟨_, rfl⟩
      have hm0 : (w1.setCell ⟨w.heap.size, 8, none⟩ (.bool false)).heap[w.heap.size]? = some (.cells #[.int .i64 M.k, .int .i64 M.f, .int .i64 M.t, .int .i64 M.tm, .int .i64 M.i, .int .i64 M.lt, .int .i64 M.cm, .int .i64 M.rd, .bool false, .slice A.ea M.es.length A.ec, .int .i64 M.sx, .int .i64 M.st, .slice A.na M.ns.length A.nc, .slice A.da M.da.length A.dc] 28 (0, 0)) := set_blk HK.out.1 8 (.bool false)
      have hm1 : ((w1.setCell ⟨w.heap.size, 8, none⟩ (.bool false)).setCell ⟨w.heap.size, 4, none⟩ (.int .i64 0)).heap[w.heap.size]? = some (.cells #[.int .i64 M.k, .int .i64 M.f, .int .i64 M.t, .int .i64 M.tm, .int .i64 0, .int .i64 M.lt, .int .i64 M.cm, .int .i64 M.rd, .bool false, .slice A.ea M.es.length A.ec, .int .i64 M.sx, .int .i64 M.st, .slice A.na M.ns.length A.nc, .slice A.da M.da.length A.dc] 28 (0, 0)) := set_blk hm0 4 (.int .i64 0)
      have hm2 : (((w1.setCell ⟨w.heap.size, 8, none⟩ (.bool false)).setCell ⟨w.heap.size, 4, none⟩ (.int .i64 0)).setCell ⟨w.heap.size, 7, none⟩ (.int .i64 0)).heap[w.heap.size]? = some (.cells #[.int .i64 M.k, .int .i64 M.f, .int .i64 M.t, .int .i64 M.tm, .int .i64 0, .int .i64 M.lt, .int .i64 M.cm, .int .i64 0, .bool false, .slice A.ea M.es.length A.ec, .int .i64 M.sx, .int .i64 M.st, .slice A.na M.ns.length A.nc, .slice A.da M.da.length A.dc] 28 (0, 0)) := set_blk hm1 7 (.int .i64 0)
      rw [← hw2] at hm2
      have hr2 : w2.heap[w.heap.size + 1]? = some (.cells #[.int .i64 0, .int .i64 0, .int .i64 0, .int .i64 0, .int .i64 0, .int .i64 0, .int .i64 0, .int .i64 0, .bool false, .slice none 0 0, .int .i64 0, .int .i64 0, .slice none 0 0, .slice none 0 0] 28 (0, 0)) := by
        rw [hw2, Below.heap_setCell _ _ _ _ (by simp), Below.heap_setCell _ _ _ _ (by simp), Below.heap_setCell _ _ _ _ (by simp)]
        exact HK.out.2
      have hb2 : Below w.heap.size w w2 := by
        rw [hw2]
        exact below_setR (below_setR (below_setR (HB.out) (Nat.le_refl _)) (Nat.le_refl _)) (Nat.le_refl _)
      have HE : Hid (w2.heap[w.heap.size]? = some (.cells (ltC (restL M) (restA M A)) 28 (0, 0)) ∧ w2.heap[w.heap.size + 1]? = some (.cells #[.int .i64 0, .int .i64 0, .int .i64 0, .int .i64 0, .int .i64 0, .int .i64 0, .int .i64 0, .int .i64 0, .bool false, .slice none 0 0, .int .i64 0, .int .i64 0, .slice none 0 0, .slice none 0 0] 28 (0, 0)) ∧ Below w.heap.size w w2) := by
        refine ⟨?_, hr2, hb2⟩
        rw [e1, e2]
        exact hm2
      clear e1 e2 hr2 hb2 hm0 hm1 hm2
      go_wp2_with fail
      rw [← hw2]
      go_meet
      exact HE
    by_cases k5 : M.k = 5
    · have e1 : restL M = { M with sx := 0, st := 0, ns := [], da := [], rd := 0 } := by unfold restL; rw [if_neg k1, if_neg k2, if_neg k3, if_neg k4, if_pos k5]
      have e2 : restA M A = { A with na := none, nc := 0, da := none, dc := 0 } := by unfold restA; rw [if_neg (by omega), if_pos k5]
      rw [k5] at x0
      obtain ⟨w2, hw2⟩ : ∃ w2, w2 = (((((w1.setCell ⟨w.heap.size, 10, none⟩ (.int .i64 0)).setCell ⟨w.heap.size, 11, none⟩ (.int .i64 0)).setCell ⟨w.heap.size, 12, none⟩ (.slice none 0 0)).setCell ⟨w.heap.size, 13, none⟩ (.slice none 0 0)).setCell ⟨w.heap.size, 7, none⟩ (.int .i64 0)) := ⟨_, rfl⟩
      have hm0 : (w1.setCell ⟨w.heap.size, 10, none⟩ (.int .i64 0)).heap[w.heap.size]? = some (.cells #[.int .i64 M.k, .int .i64 M.f, .int .i64 M.t, .int .i64 M.tm, .int .i64 M.i, .int .i64 M.lt, .int .i64 M.cm, .int .i64 M.rd, .bool M.ok, .slice A.ea M.es.length A.ec, .int .i64 0, .int .i64 M.st, .slice A.na M.ns.length A.nc, .slice A.da M.da.length A.dc] 28 (0, 0)) := set_blk HK.out.1 10 (.int .i64 0)
      have hm1 : ((w1.setCell ⟨w.heap.size, 10, none⟩ (.int .i64 0)).setCell ⟨w.heap.size, 11, none⟩ (.int .i64 0)).heap[w.heap.size]? = some (.cells #[.int .i64 M.k, .int .i64 M.f, .int .i64 M.t, .int .i64 M.tm, .int .i64 M.i, .int .i64 M.lt, .int .i64 M.cm, .int .i64 M.rd, .bool M.ok, .slice A.ea M.es.length A.ec, .int .i64 0, .int .i64 0, .slice A.na M.ns.length A.nc, .slice A.da M.da.length A.dc] 28 (0, 0)) := set_blk hm0 11 (.int .i64 0)
      have hm2 : (((w1.setCell ⟨w.heap.size, 10, none⟩ (.int .i64 0)).setCell ⟨w.heap.size, 11, none⟩ (.int .i64 0)).setCell ⟨w.heap.size, 12, none⟩ (.slice none 0 0)).heap[w.heap.size]? = some (.cells #[.int .i64 M.k, .int .i64 M.f, .int .i64 M.t, .int .i64 M.tm, .int .i64 M.i, .int .i64 M.lt, .int .i64 M.cm, .int .i64 M.rd, .bool M.ok, .slice A.ea M.es.length A.ec, .int .i64 0, .int .i64 0, .slice none 0 0, .slice A.da M.da.length A.dc] 28 (0, 0)) := set_blk hm1 12 (.slice none 0 0)
      have hm3 : ((((w1.setCell ⟨w.heap.size, 10, none⟩ (.int .i64 0)).setCell ⟨w.heap.size, 11, none⟩ (.int .i64 0)).setCell ⟨w.heap.size, 12, none⟩ (.slice none 0 0)).setCell ⟨w.heap.size, 13, none⟩ (.slice none 0 0)).heap[w.heap.size]? = some (.cells #[.int .i64 M.k, .int .i64 M.f, .int .i64 M.t, .int .i64 M.tm, .int .i64 M.i, .int .i64 M.lt, .int .i64 M.cm, .int .i64 M.rd, .bool M.ok, .slice A.ea M.es.length A.ec, .int .i64 0, .int .i64 0, .slice none 0 0, .slice none 0 0] 28 (0, 0)) := set_blk hm2 13 (.slice none 0 0)
      have hm4 : (((((w1.setCell ⟨w.heap.size, 10, none⟩ (.int .i64 0)).setCell ⟨w.heap.size, 11, none⟩ (.int .i64 0)).setCell ⟨w.heap.size, 12, none⟩ (.slice none 0 0)).setCell ⟨w.heap.size, 13, none⟩ (.slice none 0 0)).setCell ⟨w.heap.size, 7, none⟩ (.int .i64 0)).heap[w.heap.size]? = some (.cells #[.int .i64 M.k, .int .i64 M.f, .int .i64 M.t, .int .i64 M.tm, .int .i64 M.i, .int .i64 M.lt, .int .i64 M.cm, .int .i64 0, .bool M.ok, .slice A.ea M.es.length A.ec, .int .i64 0, .int .i64 0, .slice none 0 0, .slice none 0 0] 28 (0, 0)) := set_blk hm3 7 (.int .i64 0)
      rw [← hw2] at hm4
      have hr2 : w2.heap[w.heap.size + 1]? = some (.cells #[.int .i64 0, .int .i64 0, .int .i64 0, .int .i64 0, .int .i64 0, .int .i64 0, .int .i64 0, .int .i64 0, .bool false, .slice none 0 0, .int .i64 0, .int .i64 0, .slice none 0 0, .slice none 0 0] 28 (0, 0)) := by
        rw [hw2, Below.heap_setCell _ _ _ _ (by simp), Below.heap_setCell _ _ _ _ (by simp), Below.heap_setCell _ _ _ _ (by simp), Below.heap_setCell _ _ _ _ (by simp), Below.heap_setCell _ _ _ _ (by simp)]
        exact HK.out.2
      have hb2 : Below w.heap.size w w2 := by
        rw [hw2]
        exact below_setR (below_setR (below_setR (below_setR (below_setR (HB.out) (Nat.le_refl _)) (Nat.le_refl _)) (Nat.le_refl _)) (Nat.le_refl _)) (Nat.le_refl _)
      have HE : Hid (w2.heap[w.heap.size]? = some (.cells (ltC (restL M) (restA M A)) 28 (0, 0)) ∧ w2.heap[w.heap.size + 1]? = some (.cells #[.int .i64 0, .int .i64 0, .int .i64 0, .int .i64 0, .int .i64 0, .int .i64 0, .int .i64 0, .int .i64 0, .bool false, .slice none 0 0, .int .i64 0, .int .i64 0, .slice none 0 0, .slice none 0 0] 28 (0, 0)) ∧ Below w.heap.size w w2) := by
        refine ⟨?_, hr2, hb2⟩
        rw [e1, e2]
        exact hm4
      clear e1 e2 hr2 hb2 hm0 hm1 hm2 hm3 hm4
      go_wp2_with fail
      rw [← hw2]
      go_meet
      exact HE
    have e1 : restL M = M := by unfold restL; rw [if_neg k1, if_neg k2, if_neg k3, if_neg k4, if_neg k5]
    have e2 : restA M A = A := by unfold restA; rw [if_neg (by omega), if_neg (by omega)]
    have q1 : (M.k == 1) = false := by simp; omega
    have q2 : (M.k == 2) = false := by simp; omega
    have q3 : (M.k == 3) = false := by simp; omega
    have q4 : (M.k == 4) = false := by simp; omega
    have q5 : (M.k == 5) = false := by simp; omega
    obtain ⟨w2, hw2⟩ : ∃ w2, w2 = w1 := ⟨_, rfl⟩
    have hr2 : w2.heap[w.heap.size + 1]? = some (.cells #[.int .i64 0, .int .i64 0, .int .i64 0, .int .i64 0, .int .i64 0, .int .i64 0, .int .i64 0, .int .i64 0, .bool false, .slice none 0 0, .int .i64 0, .int .i64 0, .slice none 0 0, .slice none 0 0] 28 (0, 0)) := by
      rw [hw2]
      exact HK.out.2
    have hb2 : Below w.heap.size w w2 := by
      rw [hw2]
      exact HB.out
    have HE : Hid (w2.heap[w.heap.size]? = some (.cells (ltC (restL M) (restA M A)) 28 (0, 0)) ∧ w2.heap[w.heap.size + 1]? = some (.cells #[.int .i64 0, .int .i64 0, .int .i64 0, .int .i64 0, .int .i64 0, .int .i64 0, .int .i64 0, .int .i64 0, .bool false, .slice none 0 0, .int .i64 0, .int .i64 0, .slice none 0 0, .slice none 0 0] 28 (0, 0)) ∧ Below w.heap.size w w2) := by
      refine ⟨?_, hr2, hb2⟩
      rw [e1, e2, hw2]
      exact HK.out.1
    clear e1 e2 hr2 hb2 
    go_wp2_with fail
    subst hw2
    go_meet
    exact HE
  case rest =>
    clear x0 g0 x1 g1 x2 g2 x3 g3 x4 g4 x5 g5 x6 g6 x7 g7 x8 g8 x9 g9 x10 g10 x11 g11 x12 g12 x13 g13
    have HE := hcut
    clear hcut
    generalize wc = w2 at *
    obtain ⟨M2, hM2⟩ : ∃ M2, restL M = M2 := ⟨_, rfl⟩
    obtain ⟨A2, hA2⟩ : ∃ A2, restA M A = A2 := ⟨_, rfl⟩
    rw [hM2, hA2] at HE
    have HM : Hid (restL M = M2 ∧ restA M A = A2) := ⟨hM2, hA2⟩
    clear hM2 hA2 HK HB
    have z0 : w2.cell? ⟨w.heap.size, 0, none⟩ = some (.int .i64 M2.k) := pcell HE.out.1 rfl
    have z1 : w2.cell? ⟨w.heap.size, 1, none⟩ = some (.int .i64 M2.f) := pcell HE.out.1 rfl
    have z2 : w2.cell? ⟨w.heap.size, 2, none⟩ = some (.int .i64 M2.t) := pcell HE.out.1 rfl
    have z3 : w2.cell? ⟨w.heap.size, 3, none⟩ = some (.int .i64 M2.tm) := pcell HE.out.1 rfl
    have z4 : w2.cell? ⟨w.heap.size, 4, none⟩ = some (.int .i64 M2.i) := pcell HE.out.1 rfl
    have z5 : w2.cell? ⟨w.heap.size, 5, none⟩ = some (.int .i64 M2.lt) := pcell HE.out.1 rfl
    have z6 : w2.cell? ⟨w.heap.size, 6, none⟩ = some (.int .i64 M2.cm) := pcell HE.out.1 rfl
    have z7 : w2.cell? ⟨w.heap.size, 7, none⟩ = some (.int .i64 M2.rd) := pcell HE.out.1 rfl
    have z8 : w2.cell? ⟨w.heap.size, 8, none⟩ = some (.bool M2.ok) := pcell HE.out.1 rfl
    have z9 : w2.cell? ⟨w.heap.size, 9, none⟩ = some (.slice A2.ea M2.es.length A2.ec) := pcell HE.out.1 rfl
    have z10 : w2.cell? ⟨w.heap.size, 10, none⟩ = some (.int .i64 M2.sx) := pcell HE.out.1 rfl
    have z11 : w2.cell? ⟨w.heap.size, 11, none⟩ = some (.int .i64 M2.st) := pcell HE.out.1 rfl
    have z12 : w2.cell? ⟨w.heap.size, 12, none⟩ = some (.slice A2.na M2.ns.length A2.nc) := pcell HE.out.1 rfl
    have z13 : w2.cell? ⟨w.heap.size, 13, none⟩ = some (.slice A2.da M2.da.length A2.dc) := pcell HE.out.1 rfl
    have v0 : w2.cell? ⟨w.heap.size + 1, 0, none⟩ = some (.int .i64 0) := pcell HE.out.2.1 rfl
    have v1 : w2.cell? ⟨w.heap.size + 1, 1, none⟩ = some (.int .i64 0) := pcell HE.out.2.1 rfl
    have v2 : w2.cell? ⟨w.heap.size + 1, 2, none⟩ = some (.int .i64 0) := pcell HE.out.2.1 rfl
    have v3 : w2.cell? ⟨w.heap.size + 1, 3, none⟩ = some (.int .i64 0) := pcell HE.out.2.1 rfl
    have v4 : w2.cell? ⟨w.heap.size + 1, 4, none⟩ = some (.int .i64 0) := pcell HE.out.2.1 rfl
    have v5 : w2.cell? ⟨w.heap.size + 1, 5, none⟩ = some (.int .i64 0) := pcell HE.out.2.1 rfl
    have v6 : w2.cell? ⟨w.heap.size + 1, 6, none⟩ = some (.int .i64 0) := pcell HE.out.2.1 rfl
    have v7 : w2.cell? ⟨w.heap.size + 1, 7, none⟩ = some (.int .i64 0) := pcell HE.out.2.1 rfl
    have v8 : w2.cell? ⟨w.heap.size + 1, 8, none⟩ = some (.bool false) := pcell HE.out.2.1 rfl
    have v9 : w2.cell? ⟨w.heap.size + 1, 9, none⟩ = some (.slice none 0 0) := pcell HE.out.2.1 rfl
    have v10 : w2.cell? ⟨w.heap.size + 1, 10, none⟩ = some (.int .i64 0) := pcell HE.out.2.1 rfl
    have v11 : w2.cell? ⟨w.heap.size + 1, 11, none⟩ = some (.int .i64 0) := pcell HE.out.2.1 rfl
    have v12 : w2.cell? ⟨w.heap.size + 1, 12, none⟩ = some (.slice none 0 0) := pcell HE.out.2.1 rfl
    have v13 : w2.cell? ⟨w.heap.size + 1, 13, none⟩ = some (.slice none 0 0) := pcell HE.out.2.1 rfl
    have f0 : w2.frozen? ⟨w.heap.size + 1, 0, none⟩ = false := free_blk HE.out.2.1 0
    have f1 : w2.frozen? ⟨w.heap.size + 1, 1, none⟩ = false := free_blk HE.out.2.1 1
    have f2 : w2.frozen? ⟨w.heap.size + 1, 2, none⟩ = false := free_blk HE.out.2.1 2
    have f3 : w2.frozen? ⟨w.heap.size + 1, 3, none⟩ = false := free_blk HE.out.2.1 3
    have f4 : w2.frozen? ⟨w.heap.size + 1, 4, none⟩ = false := free_blk HE.out.2.1 4
    have f5 : w2.frozen? ⟨w.heap.size + 1, 5, none⟩ = false := free_blk HE.out.2.1 5
    have f6 : w2.frozen? ⟨w.heap.size + 1, 6, none⟩ = false := free_blk HE.out.2.1 6
    have f7 : w2.frozen? ⟨w.heap.size + 1, 7, none⟩ = false := free_blk HE.out.2.1 7
    have f8 : w2.frozen? ⟨w.heap.size + 1, 8, none⟩ = false := free_blk HE.out.2.1 8
    have f9 : w2.frozen? ⟨w.heap.size + 1, 9, none⟩ = false := free_blk HE.out.2.1 9
    have f10 : w2.frozen? ⟨w.heap.size + 1, 10, none⟩ = false := free_blk HE.out.2.1 10
    have f11 : w2.frozen? ⟨w.heap.size + 1, 11, none⟩ = false := free_blk HE.out.2.1 11
    have f12 : w2.frozen? ⟨w.heap.size + 1, 12, none⟩ = false := free_blk HE.out.2.1 12
    have f13 : w2.frozen? ⟨w.heap.size + 1, 13, none⟩ = false := free_blk HE.out.2.1 13
    have hs := set14 (.int .i64 M2.k) (.int .i64 M2.f) (.int .i64 M2.t) (.int .i64 M2.tm) (.int .i64 M2.i) (.int .i64 M2.lt) (.int .i64 M2.cm) (.int .i64 M2.rd) (.bool M2.ok) (.slice A2.ea M2.es.length A2.ec) (.int .i64 M2.sx) (.int .i64 M2.st) (.slice A2.na M2.ns.length A2.nc) (.slice A2.da M2.da.length A2.dc) HE.out.2.1
    have s0 := pcell hs (i := 0) (v := .int .i64 M2.k) rfl
    have s1 := pcell hs (i := 1) (v := .int .i64 M2.f) rfl
    have s2 := pcell hs (i := 2) (v := .int .i64 M2.t) rfl
    have s3 := pcell hs (i := 3) (v := .int .i64 M2.tm) rfl
    have s4 := pcell hs (i := 4) (v := .int .i64 M2.i) rfl
    have s5 := pcell hs (i := 5) (v := .int .i64 M2.lt) rfl
    have s6 := pcell hs (i := 6) (v := .int .i64 M2.cm) rfl
    have s7 := pcell hs (i := 7) (v := .int .i64 M2.rd) rfl
    have s8 := pcell hs (i := 8) (v := .bool M2.ok) rfl
    have s9 := pcell hs (i := 9) (v := .slice A2.ea M2.es.length A2.ec) rfl
    have s10 := pcell hs (i := 10) (v := .int .i64 M2.sx) rfl
    have s11 := pcell hs (i := 11) (v := .int .i64 M2.st) rfl
    have s12 := pcell hs (i := 12) (v := .slice A2.na M2.ns.length A2.nc) rfl
    have s13 := pcell hs (i := 13) (v := .slice A2.da M2.da.length A2.dc) rfl
    clear hs
    go_wp2_with fail
    refine bodyPost_ret (v := ltV (restL M) (restA M A)) ?_ rfl ⟨rfl, ?_⟩
    · rw [HM.out.1, HM.out.2]
      unfold ltV ltC
      simp [results, Tryd.results30, go_sem, s0, s1, s2, s3, s4, s5, s6, s7, s8, s9, s10, s11, s12, s13]
    · exact below_setR (below_setR (below_setR (below_setR (below_setR (below_setR (below_setR (below_setR (below_setR (below_setR (below_setR (below_setR (below_setR (below_setR (HE.out.2.2) (by omega)) (by omega)) (by omega)) (by omega)) (by omega)) (by omega)) (by omega)) (by omega)) (by omega)) (by omega)) (by omega)) (by omega)) (by omega)) (by omega)
end Go.Proofs.YtmlihlnigojmpaaDoor
