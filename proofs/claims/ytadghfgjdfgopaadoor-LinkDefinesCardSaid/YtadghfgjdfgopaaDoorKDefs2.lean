/- LinkDefines: the definitions as they are read; six numbers. -/
import Derived.Test.YtadghfgjdfgopaaDoorKDefs
import Derived.Test.YtadghfgjdfgopaaDoorKFront
set_option linter.unusedVariables false
namespace Go.Proofs.YtadghfgjdfgopaaDoor
open Go.RowKit

theorem defs9 (S Dx Tx G1 : ByteArray) (u D t : List UInt8) (hDx : Dx = ⟨D.toArray⟩) (hTx : Tx = ⟨t.toArray⟩) (hG : G1 = ⟨(fold u).toArray⟩) (hS : S.size ≤ 2000) (hdef : ∀ p5, IsEnd1 p5 → defineL (S.data.toList ++ p5) = some ((fold u, D, t), []) ∧ defineL (S.data.toList ++ (p5 ++ [10, 109, 111, 114, 101])) = some ((fold u, D, t), [109, 111, 114, 101])) (m : Nat) (hm : m < 3) :
    ∃ P5 f h : ByteArray, (∀ wq : World, (wq.alloc (.cells #[.string ⟨#[]⟩, .string ⟨#[32]⟩, .string ⟨#[32, 9]⟩] 9)).cell? ⟨wq.heap.size, m, none⟩ = some (.string P5)) ∧ Adds S P5 f ∧ Adds f (ByteArray.mk #[10, 109, 111, 114, 101]) h ∧ f.size ≤ 3000 ∧ Hid (Told4 f G1 Dx Tx f.size) ∧ Hid (Told4 h G1 Dx Tx (f.size + 1)) := by
  obtain ⟨P5, c5, i5⟩ := pick_end m hm
  have p5 := i5.2.2
  rw [len_data] at p5
  obtain ⟨f, a1, l1, s1⟩ := adds_ex S P5 (by omega)
  obtain ⟨h, a2, l2, s2⟩ := adds_ex f (ByteArray.mk #[10, 109, 111, 114, 101]) (by show _ + 5 ≤ _; omega)
  have s2' : h.size = f.size + 5 := s2
  obtain ⟨d1, d2⟩ := hdef P5.data.toList i5
  subst hDx
  subst hTx
  subst hG
  refine ⟨P5, f, h, c5, a1, a2, by omega, fun w => ?_, fun w => ?_⟩
  · exact kdefine_at f (by omega) (fold u) D t f.size (by show _ = _; rw [l1, defR_of d1, ← l1, len_data]; rfl) w
  · refine kdefine_at h (by omega) (fold u) D t (f.size + 1) (by show _ = _; rw [l2, l1, List.append_assoc]; rw [show (ByteArray.mk #[10, 109, 111, 114, 101]).data.toList = [10, 109, 111, 114, 101] from rfl, defR_of d2]; congr 1; rw [List.length_append, List.length_append, len_data, len_data]; simp; omega) w

theorem six_cells {w u : World} {b o len : Nat} {num : Nat → Int} (B : Below w.heap.size w u) (e2 : ∀ i, i < len → w.cell? ⟨b, o + i, none⟩ = some (.int .i64 (num i))) : ∀ i, i < len → u.cell? ⟨b, o + i, none⟩ = some (.int .i64 (num i)) := by
  intro i hi
  exact (B.cell (p := ⟨b, o + i, none⟩) (World.block_lt_of_cell? w ⟨b, o + i, none⟩ (e2 i hi))).trans (e2 i hi)

/-- Six numbers in a row. -/
def Six6 (w : World) (g : Nat) (n0 n1 n2 n3 n4 n5 : Int) : Prop := w.cell? ⟨g, 0, none⟩ = some (.int .i64 n0) ∧ w.cell? ⟨g, 1, none⟩ = some (.int .i64 n1) ∧ w.cell? ⟨g, 2, none⟩ = some (.int .i64 n2) ∧ w.cell? ⟨g, 3, none⟩ = some (.int .i64 n3) ∧ w.cell? ⟨g, 4, none⟩ = some (.int .i64 n4) ∧ w.cell? ⟨g, 5, none⟩ = some (.int .i64 n5)
theorem Six6.below {w w' : World} {g : Nat} {n0 n1 n2 n3 n4 n5 : Int} (h : Six6 w g n0 n1 n2 n3 n4 n5) (hb : Below w.heap.size w w') : Six6 w' g n0 n1 n2 n3 n4 n5 := by
  have k : ∀ {j : Nat} {v : Value}, w.cell? ⟨g, j, none⟩ = some v → w'.cell? ⟨g, j, none⟩ = some v := fun {j v} e => (hb.cell (p := ⟨g, j, none⟩) (World.block_lt_of_cell? w ⟨g, j, none⟩ e)).trans e
  exact ⟨k h.1, k h.2.1, k h.2.2.1, k h.2.2.2.1, k h.2.2.2.2.1, k h.2.2.2.2.2⟩

theorem six_open {w : World} {B : Nat} {v : Value} {l : List Int} (h : OwnI w B v l) (hl : l.length = 6) (hf : Fits l) :
    ∃ (g cap : Nat) (n0 n1 n2 n3 n4 n5 : Int), v = .slice (some ⟨g, 0, none⟩) 6 cap ∧ Six6 w g n0 n1 n2 n3 n4 n5 ∧ ((0 ≤ n0 ∧ n0 ≤ 9223372036854775807) ∧ (0 ≤ n1 ∧ n1 ≤ 9223372036854775807) ∧ (0 ≤ n2 ∧ n2 ≤ 9223372036854775807) ∧ (0 ≤ n3 ∧ n3 ≤ 9223372036854775807) ∧ (0 ≤ n4 ∧ n4 ≤ 9223372036854775807) ∧ (0 ≤ n5 ∧ n5 ≤ 9223372036854775807)) := by
  match l, hl with
  | [n0, n1, n2, n3, n4, n5], _ =>
    rcases h.2 with ⟨rfl, hn⟩ | ⟨g, cap, cur, rfl, _⟩
    · cases hn
    · have hc := fun j (hj : j < 6) => h.cellAt j hj
      refine ⟨g, cap, n0, n1, n2, n3, n4, n5, rfl, ⟨hc 0 (by omega), hc 1 (by omega), hc 2 (by omega), hc 3 (by omega), hc 4 (by omega), hc 5 (by omega)⟩, hf n0 (by simp), hf n1 (by simp), hf n2 (by simp), hf n3 (by simp), hf n4 (by simp), hf n5 (by simp)⟩

theorem al1 {w : World} {a : Addr} {v : Value} (h : w.cell? a = some v) (o : Obj) : (w.alloc o).cell? a = some v := (((Below.refl w.heap.size w).alloc (Nat.le_refl _) o).cell (p := a) (World.block_lt_of_cell? w a h)).trans h

end Go.Proofs.YtadghfgjdfgopaaDoor
