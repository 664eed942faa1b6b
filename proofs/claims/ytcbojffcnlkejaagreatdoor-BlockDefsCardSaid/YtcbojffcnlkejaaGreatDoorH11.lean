
/- Several texts in one. -/
import Derived.Test.YtcbojffcnlkejaaGreatDoorG50
set_option linter.unusedVariables false
/- Two rows of blocks are held against one another; walked. -/
namespace Go.Proofs.YtcbojffcnlkejaaGreatDoor
open Go.RowKit
open cur (cell_blk free_blk set_blk blk_below)

namespace Bs
def nth : Bs → Nat → Option (BI × Bs)
  | nil, _ => none
  | cons b k _, 0 => some (b, k)
  | cons _ _ r, i + 1 => nth r i
def size : Bs → Nat
  | nil => 0
  | cons _ k r => size k + size r + 1
end Bs

theorem KidC.nth {w : World} {S : Nat → Prop} : ∀ (k : Bs) (xs : List Value) (i : Nat) (b : BI) (q : Bs), KidC w S k xs → k.nth i = some (b, q) → ∃ v ys, (∀ j u, (biCells b v)[j]? = some u → xs[i * 8 + j]? = some u) ∧ w.ownsRow 0 34 8 v q.len ys ∧ (∀ g, v.ownBlock = some g → S g) ∧ KidC w S q ys
  | .nil, xs, i, b, q, _, h => by cases h
  | .cons c k r, xs, 0, b, q, ⟨v, ys, zs, h1, h2, h3, h4, h5⟩, h => by
    simp only [Bs.nth, Option.some.injEq, Prod.mk.injEq] at h
    obtain ⟨rfl, rfl⟩ := h
    refine ⟨v, ys, fun j u hu => ?_, h2, h3, h4⟩
    rw [h1, Nat.zero_mul, Nat.zero_add, List.getElem?_append_left (List.getElem?_eq_some_iff.1 hu).1]
    exact hu
  | .cons c k r, xs, i + 1, b, q, ⟨v, ys, zs, h1, h2, h3, h4, h5⟩, h => by
    obtain ⟨v', ys', a1, a2, a3, a4⟩ := KidC.nth r zs i b q h5 h
    refine ⟨v', ys', fun j u hu => ?_, a2, a3, a4⟩
    rw [h1, List.getElem?_append_right (by simp; omega)]
    rw [← a1 j u hu]
    congr 1
    simp
    omega

end Go.Proofs.YtcbojffcnlkejaaGreatDoor

/- Two rows of definitions are held against one another; walked. -/
namespace Go.Proofs.YtcbojffcnlkejaaGreatDoor
open Go.RowKit

theorem defCs_at : ∀ (d : List Df) (i : Nat) (q : Df), d[i]? = some q → (defCs d)[i * 3]? = some (strV q.1) ∧ (defCs d)[i * 3 + 1]? = some (strV q.2.1) ∧ (defCs d)[i * 3 + 2]? = some (strV q.2.2)
  | [], i, q, h => by simp at h
  | a :: r, 0, q, h => by
    have e : a = q := by simpa using h
    subst e
    exact ⟨rfl, rfl, rfl⟩
  | a :: r, i + 1, q, h => by
    have := defCs_at r i q (by simpa using h)
    rw [show (i + 1) * 3 = i * 3 + 3 by omega]
    exact this

set_option maxHeartbeats 4000000 in
theorem bdefs_any (d : List Df) (w : World) (v1 v2 : Value) (h1 : w.ownsRow 0 41 3 v1 d.length (defCs d)) (h2 : w.ownsRow 0 41 3 v2 d.length (defCs d)) :
    Calls Tryz.prog 13 #[v1, v2] w fun e w' => e = .returned (.bool true) ∧ ∃ n, w' = w.drewN n := by
  have hmx : d.length ≤ maxLen := by
    rcases h1.2 with ⟨_, q⟩ | ⟨_, _, _, _, _, _, q1, q2, _⟩
    · omega
    · omega
  unfold maxLen at hmx
  obtain ⟨a1, c1, rfl, _⟩ := row_slice h1
  obtain ⟨a2, c2, rfl, _⟩ := row_slice h2
  go_enter Tryz.func13, Tryz.ntmps13
  go_wp2
  go_loopw [5] (fun t wr => ∃ i n : Nat, t = .int .i64 (i : Int) ∧ i ≤ d.length ∧ wr = w.drewN n) (fun t _ => d.length - (intOf t).toNat)
  case atStart => exact ⟨0, 0, rfl, Nat.zero_le _, rfl⟩
  case round =>
    obtain ⟨i, n, rfl, hi, rfl⟩ := hrel
    by_cases hlt : i < d.length
    · have hlt' : (i : Int) < (d.length : Int) := by omega
      obtain ⟨q, hq⟩ : ∃ q, d[i]? = some q := ⟨_, List.getElem?_eq_getElem hlt⟩
      obtain ⟨b0, b1, b2⟩ := defCs_at d i q hq
      obtain ⟨g1, p1, he1, _, f1⟩ := row_at h1 (by omega)
      obtain ⟨g2, p2, he2, _, f2⟩ := row_at h2 (by omega)
      cases he1
      cases he2
      have x0 := fun m : Nat => (show (w.drewN m).cell? ⟨g1, i * 3, none⟩ = _ from f1 _ _ b0)
      have x1 := fun m : Nat => (show (w.drewN m).cell? ⟨g1, i * 3 + 1, none⟩ = _ from f1 _ _ b1)
      have x2 := fun m : Nat => (show (w.drewN m).cell? ⟨g1, i * 3 + 2, none⟩ = _ from f1 _ _ b2)
      have t0 := fun m : Nat => (show (w.drewN m).cell? ⟨g2, i * 3, none⟩ = _ from f2 _ _ b0)
      have t1 := fun m : Nat => (show (w.drewN m).cell? ⟨g2, i * 3 + 1, none⟩ = _ from f2 _ _ b1)
      have t2 := fun m : Nat => (show (w.drewN m).cell? ⟨g2, i * 3 + 2, none⟩ = _ from f2 _ _ b2)
      simp only [strV] at x0 x1 x2 t0 t1 t2
      generalize ByteArray.mk q.1.toArray = Q0 at *
      generalize ByteArray.mk q.2.1.toArray = Q1 at *
      generalize ByteArray.mk q.2.2.toArray = Q2 at *
      clear f1 f2 b0 b1 b2 h1 h2 hq
      go_wp2
      go_quiet (fail)
      go_wp2
      go_roundw
      case rel => exact ⟨i + 1, _, by go_num, by omega, rfl⟩
      case measure => simp [intOf]; omega
    · have hge : ¬ (i : Int) < (d.length : Int) := by omega
      go_wp2
      go_ret
      exact ⟨rfl, _, rfl⟩

end Go.Proofs.YtcbojffcnlkejaaGreatDoor
