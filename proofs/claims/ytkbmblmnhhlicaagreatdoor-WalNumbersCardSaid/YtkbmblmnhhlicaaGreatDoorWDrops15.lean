/- WalDrops, walked. -/
import Derived.Test.YtkbmblmnhhlicaaGreatDoorV20
import Derived.Test.YtkbmblmnhhlicaaGreatDoorVShown
import Derived.Deep.CutRange
set_option linter.unusedVariables false
namespace Go.Proofs.YtkbmblmnhhlicaaGreatDoor
open Go.RowKit

/-- A row of so many bytes 0. -/
abbrev zeros (K : Nat) : Array Value := Array.replicate K (.int .u8 0)
theorem made_zeros (K : Nat) : madeCells #[.int .u8 0] (K * 1) = zeros K := by
  rw [Nat.mul_one]
  apply Array.ext
  · rw [size_madeCells]; simp [zeros]
  · intro i h1 h2
    simp [madeCells, zeros, Nat.mod_one]
theorem make_at (K : Nat) (hK : K ≤ 1000000) (W : World) : (Instr.makeSlice 34 (.int .i64 (K : Int)) (.int .i64 (K : Int))).run Tryz.prog W = .ok (.slice (some ⟨W.heap.size, 0, none⟩) K K) (W.alloc (.cells (zeros K) 5)) := by
  obtain ⟨i0, hi, hz0, hz1, hz2⟩ := info_parts info5
  have h := run_makeSlice (P := Tryz.prog) W 34 5 i0 (.int .u8 0) Tryz.underlying34 hi hz0 .i64 .i64 (K : Int) (K : Int) (by omega) (by omega) (by rw [hz1]; omega) (by rw [hz2]; omega) (by omega)
  rw [hz1] at h
  have e : (Value.int .u8 0).cells = #[.int .u8 0] := rfl
  rw [Int.toNat_natCast, e, made_zeros] at h
  exact h
theorem own_made (K : Nat) (hK : K ≤ 1000000) (W : World) : OwnB (W.alloc (.cells (zeros K) 5)) W.heap.size (.slice (some ⟨W.heap.size, 0, none⟩) K K) (List.replicate K 0) := by
  refine ⟨by simp [Lib.byteCells], .inr ⟨W.heap.size, K, zeros K, by simp, Nat.le_refl _, heap_alloc_new _ _, by simp, by unfold maxLen; omega, by simp, ?_⟩⟩
  simp [Lib.byteCells]

/-- The record of a number. -/
def recD (K i : Nat) : Rec := List.replicate K 0 ++ [UInt8.ofNat i]
theorem recD_len (K i : Nat) : (recD K i).length = K + 1 := by simp [recD]
def allD (K n : Nat) : Recs := (List.range n).map fun j => recD K (j + 1)
theorem allD_succ (K n : Nat) : allD K (n + 1) = allD K n ++ [recD K (n + 1)] := by
  unfold allD
  rw [List.range_succ, List.map_append]
  rfl
theorem allD_len (K n : Nat) : (allD K n).length = n := by simp [allD]
theorem allD_at (K n j : Nat) (h : j < n) : (allD K n)[j]? = some (recD K (j + 1)) := by simp [allD, h]

/-- What stands behind n records. -/
structure DrS (w0 : World) (b m p K n : Nat) (w : World) : Prop where
  st : ∃ d G, LgS w0 b m p d (G.map gSg) NoG w ∧ Str d G ∧ d.room = 1099511627776 ∧ headN G = 1 ∧ allR G = allD K n ∧ G.length ≤ n + 1 ∧ bulks G = n * (K + 9)

theorem abs_int (a : Int) (h : -9223372036854775808 ≤ a ∧ a ≤ 9223372036854775807) (M : Nat) (hM : 0 < M) (hM2 : (M : Int) ≤ 1000) : ∃ k : Nat, k < M ∧ Int.tmod (if a < 0 then -(a + 1) else a) M = (k : Int) := by
  obtain ⟨x, hx0, hx⟩ : ∃ x : Int, 0 ≤ x ∧ (if a < 0 then -(a + 1) else a) = x := by
    by_cases ha : a < 0
    · exact ⟨-(a + 1), by omega, by rw [if_pos ha]⟩
    · exact ⟨a, by omega, by rw [if_neg ha]⟩
  rw [hx]
  refine ⟨(x % M).toNat, ?_, ?_⟩
  · have := Int.emod_lt_of_pos x (show (0 : Int) < M by omega)
    have := Int.emod_nonneg x (show (M : Int) ≠ 0 by omega)
    omega
  · rw [Int.tmod_eq_emod_of_nonneg hx0]
    have := Int.emod_nonneg x (show (M : Int) ≠ 0 by omega)
    omega

theorem chain_le : ∀ {G : Gs}, ChainG G → ∀ g ∈ G, g.1 + g.2.length ≤ headN G + (allR G).length
  | [], _, g, h => by cases h
  | [x], _, g, h => by rw [List.mem_singleton.1 h]; simp [headN, allR]
  | x :: y :: r, hc, g, h => by
    have h1 := hc.1
    rw [allR_cons, List.length_append]
    rcases List.mem_cons.1 h with rfl | h
    · show g.1 + g.2.length ≤ g.1 + _
      omega
    · have ih := chain_le hc.2.2 g h
      have e1 : headN (y :: r) = y.1 := rfl
      show _ ≤ x.1 + _
      omega
theorem bulks_cons (g : Nat × Recs) (r : Gs) : bulks (g :: r) = bulk g.2 + bulks r := by simp [bulks]
theorem dropGs_le : ∀ (G : Gs) (i : Int), bulks (dropGs G i) ≤ bulks G ∧ (dropGs G i).length ≤ G.length
  | [], _ => ⟨Nat.le_refl _, Nat.le_refl _⟩
  | [g], _ => ⟨Nat.le_refl _, Nat.le_refl _⟩
  | g :: h0 :: r, i => by
    rw [dropGs]
    split
    · have ih := dropGs_le (h0 :: r) i
      rw [bulks_cons g]
      simp only [List.length_cons] at ih ⊢
      omega
    · exact ⟨Nat.le_refl _, Nat.le_refl _⟩
theorem lastB {w0 : World} {b m p : Nat} {d : Dk} {L : List Sg} {s : Sg} {G : Nat → Prop} {w : World} (h : LgS w0 b m p d (L ++ [s]) G w) : Calls Tryz.prog 18 #[dptr p] w fun e w' => e = .returned (.int .i64 ((s.next : Int) - 1)) ∧ Below w.heap.size w w' := by
  obtain ⟨S, T, vs, q, h1, h2, h3⟩ := h
  obtain ⟨q', y, rfl, h4, rfl⟩ := snoc_of h2
  exact lastn_any h1.lg
/-- Two logs on one disk. -/
def TwoL (w0 : World) (b m p p2 : Nat) (d : Dk) (G : Gs) (w : World) : Prop := LgS w0 b m p d (G.map gSg) NoG w ∧ LgS w0 b m p2 d (G.map gSg) NoG w ∧ Str d G
theorem TwoL.below {w0 : World} {b m p p2 : Nat} {d : Dk} {G : Gs} {w w' : World} (h : TwoL w0 b m p p2 d G w) (hb : Below w.heap.size w w') : TwoL w0 b m p p2 d G w' := ⟨(h.1.same hb).1, (h.2.1.same hb).1, h.2.2⟩

theorem neg_one {a x : Int} (h : -9223372036854775808 ≤ a) (h2 : a < 0) (hx : x = -(a + 1)) : IntKind.i64.wrap (a + 1) = a + 1 ∧ IntKind.i64.wrap (-(a + 1)) = x ∧ 0 ≤ x ∧ x ≤ 9223372036854775807 := by
  refine ⟨by rw [IntKind.wrap_i64]; omega, by rw [IntKind.wrap_i64]; omega, by omega, by omega⟩
theorem mod_nat {x : Int} (h0 : 0 ≤ x) (M : Nat) (hM : 0 < M) : ∃ k : Nat, k < M ∧ x.tmod (M : Int) = (k : Int) := by
  refine ⟨(x % M).toNat, ?_, ?_⟩
  · have := Int.emod_lt_of_pos x (show (0 : Int) < M by omega)
    have := Int.emod_nonneg x (show (M : Int) ≠ 0 by omega)
    omega
  · rw [Int.tmod_eq_emod_of_nonneg h0]
    have := Int.emod_nonneg x (show (M : Int) ≠ 0 by omega)
    omega
theorem ofNat_small {k : Nat} (h : k < 256) : ((UInt8.ofNat k).toNat : Int) = (k : Int) := by
  have : k % 256 = k := by omega
  simp [UInt8.toNat_ofNat', this]

end Go.Proofs.YtkbmblmnhhlicaaGreatDoor
