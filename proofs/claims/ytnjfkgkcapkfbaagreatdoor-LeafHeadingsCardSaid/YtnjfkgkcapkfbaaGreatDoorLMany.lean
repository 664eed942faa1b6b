/- A byte, so many times; what closes and underlines over such rows. -/
import Derived.Test.YtnjfkgkcapkfbaaGreatDoorLShown
set_option linter.unusedVariables false
namespace Go.Proofs.YtnjfkgkcapkfbaaGreatDoor
open Go.RowKit

theorem and_bits (m : Nat) (hm : m < 1000000) (z : Int) : ∃ n : Nat, n ≤ m ∧ bits .and .i64 z (m : Int) = (n : Int) := by
  have h : (BitVec.ofInt 64 z &&& BitVec.ofInt 64 (m : Int)).toNat ≤ m := by
    rw [BitVec.toNat_and]
    refine Nat.le_trans Nat.and_le_right ?_
    rw [BitVec.toNat_ofInt]
    omega
  refine ⟨(BitVec.ofInt 64 z &&& BitVec.ofInt 64 (m : Int)).toNat, h, ?_⟩
  show IntKind.i64.wrap (((BitVec.ofInt 64 z &&& BitVec.ofInt 64 (m : Int)).toNat : Nat) : Int) = _
  rw [IntKind.wrap_i64]
  omega

def repB (n : Nat) (c : UInt8) : ByteArray := ⟨(List.replicate n c).toArray⟩
theorem repB_data (n : Nat) (c : UInt8) : (repB n c).data.toList = List.replicate n c := by simp [repB]
theorem repB_size (n : Nat) (c : UInt8) : (repB n c).size = n := by rw [← len_data, repB_data, List.length_replicate]
theorem repB_succ (n : Nat) (c : UInt8) : repB n c ++ ⟨#[c]⟩ = repB (n + 1) c := by
  show ByteArray.mk _ ++ ByteArray.mk [c].toArray = _
  rw [cat_eq, ← List.replicate_succ']
  rfl

theorem many_any (c : UInt8) (n : Nat) (hn : n ≤ 1000) (w : World) :
    Calls Tryz.prog 17 #[.string ⟨#[c]⟩, .int .i64 (n : Int)] w fun e w' => e = .returned (.string (repB n c)) ∧ w' = w := by
  go_enter Tryz.func17, Tryz.ntmps17
  go_wp2
  go_loop [5, 6] (fun S A => ∃ k : Nat, S = .string (repB k c) ∧ A = .int .i64 (k : Int) ∧ k ≤ n) (fun _ A => n - (intOf A).toNat)
  case atStart => exact ⟨0, rfl, rfl, by omega⟩
  case round =>
    obtain ⟨k, rfl, rfl, hk⟩ := hrel
    by_cases hlt : k < n
    · have q : (k : Int) < (n : Int) := by omega
      have hz := repB_size k c
      have hs := repB_succ k c
      go_wp2
      go_round
      case rel => exact ⟨k + 1, rfl, by go_num, by omega⟩
      case measure => simp [intOf]; omega
    · have q : ¬ (k : Int) < (n : Int) := by omega
      obtain rfl : k = n := by omega
      go_wp2
      go_ret
      exact ⟨rfl, rfl⟩

theorem many_at (c : UInt8) (n : Nat) (z : Int) (hz : z = (n : Int)) (hn : n ≤ 1000) (w : World) :
    Calls Tryz.prog 17 #[.string ⟨#[c]⟩, .int .i64 z] w fun e w' => e = .returned (.string (repB n c)) ∧ w' = w := by
  rw [hz]
  exact many_any c n hn w

/-! ### What closes, over rows -/

theorem lrun_rep (c : UInt8) (g : List UInt8) (h : g.head? ≠ some c) : ∀ n : Nat, runB c (List.replicate n c ++ g) = n
  | 0 => by
    cases g with
    | nil => rfl
    | cons b t =>
      show rowN (· == c) (b :: t) = 0
      rw [row_cons, if_neg]
      intro e
      exact h (by rw [show b = c by simpa using e]; rfl)
  | n + 1 => by
    rw [List.replicate_succ, List.cons_append]
    show rowN (· == c) (c :: _) = _
    rw [row_cons, if_pos (by simp)]
    exact congrArg (· + 1) (lrun_rep c g h n)

theorem gap_head {g : List UInt8} (hg : g.all gapB = true) {c : UInt8} (hc : gapB c = false) : g.head? ≠ some c := by
  cases g with
  | nil => simp
  | cons b t =>
    intro e
    rw [List.all_cons, Bool.and_eq_true] at hg
    have : b = c := Option.some.inj e
    rw [this, hc] at hg
    cases hg.1

theorem closes_yes {c : UInt8} {n : Nat} {g : List UInt8} (hg : g.all gapB = true) (hc : gapB c = false) (m : Int) : closesL (List.replicate n c ++ g) c m = decide (max m 1 ≤ (n : Int)) := by
  unfold closesL
  rw [lrun_rep c g (gap_head hg hc) n, List.drop_left' (by simp), hg, Bool.and_true]

theorem take_run (c : UInt8) : ∀ l : List UInt8, ∀ x ∈ l.take (runB c l), x = c
  | [] => by simp
  | b :: t => by
    show ∀ x ∈ (b :: t).take (rowN (· == c) (b :: t)), _
    rw [row_cons]
    split
    · rename_i h
      intro x hx
      rw [List.take_succ_cons, List.mem_cons] at hx
      rcases hx with rfl | hx
      · simpa using h
      · exact take_run c t x hx
    · simp

theorem closes_all {l : List UInt8} {c : UInt8} {m : Int} (h : closesL l c m = true) : ∀ x ∈ l, x = c ∨ gapB x = true := by
  intro x hx
  unfold closesL at h
  rw [Bool.and_eq_true] at h
  rw [← List.take_append_drop (runB c l) l, List.mem_append] at hx
  rcases hx with hx | hx
  · exact .inl (take_run c l x hx)
  · exact .inr (List.all_eq_true.1 h.2 x hx)

theorem closes_no {l : List UInt8} {c : UInt8} {m : Int} {x : UInt8} (hx : x ∈ l) (h1 : x ≠ c) (h2 : gapB x = false) : closesL l c m = false := by
  cases h : closesL l c m
  · rfl
  · rcases closes_all h x hx with h3 | h3
    · exact absurd h3 h1
    · rw [h2] at h3; cases h3

theorem under_none {l : List UInt8} {x y : UInt8} (hx : x ∈ l) (x1 : x ≠ 61) (x2 : gapB x = false) (hy : y ∈ l) (y1 : y ≠ 45) (y2 : gapB y = false) : underL l = 0 := by
  unfold underL
  rw [closes_no hx x1 x2, closes_no hy y1 y2]
  rfl
theorem under_one {n : Nat} {g : List UInt8} (hn : 1 ≤ n) (hg : g.all gapB = true) : underL (List.replicate n 61 ++ g) = 1 := by
  unfold underL
  rw [closes_yes hg (by decide), decide_eq_true (by omega)]
  rfl
theorem under_two {n : Nat} {g : List UInt8} (hn : 1 ≤ n) (hg : g.all gapB = true) : underL (List.replicate n 45 ++ g) = 2 := by
  unfold underL
  rw [closes_yes hg (by decide), decide_eq_true (by omega), closes_no (x := 45) (by
    obtain ⟨k, rfl⟩ : ∃ k, n = k + 1 := ⟨n - 1, by omega⟩
    simp [List.replicate_succ]) (by decide) (by decide)]
  rfl

theorem gaps_all (a b : Nat) : (List.replicate a (32 : UInt8) ++ List.replicate b 9).all gapB = true := by
  rw [List.all_append, Bool.and_eq_true]
  constructor <;> (rw [List.all_replicate]; split <;> rfl)

end Go.Proofs.YtnjfkgkcapkfbaaGreatDoor
