/- A row of texts that was handed in, opened. -/
import Derived.Test.YtblohegdlcpipaaDIn
import Derived.JoinedCond
import Derived.Deep.Slices
set_option linter.unusedVariables false
namespace Go.Proofs.Ytblohegdlcpipaa
open Go.ChangeShapes Go.WideShapes Go.ChangeAt Go.RowKit

abbrev StrA := List UInt8
abbrev strA (z : StrA) : Value := .string ⟨z.toArray⟩
theorem cells_str : Try.prog.cellsOf 9 = 1 := by kernel_rfl
theorem add_offA (b off i : Nat) : (⟨b, off, none⟩ : Addr).add i = ⟨b, off + i, none⟩ := by unfold Addr.add; split <;> simp_all
theorem weights_all {H : Type} {P : Program} {e : TypeId} : ∀ {ds : List (DataW H)} {d : DataW H}, d ∈ ds → ∀ n ∈ d.weights P e, n ∈ DataW.weightsAll P e ds
  | x :: r, d, hd, n, hn => by
    simp only [DataW.weightsAll, List.mem_append]
    rcases List.mem_cons.1 hd with rfl | h
    · exact Or.inl hn
    · exact Or.inr (weights_all h n hn)
theorem open_strs {H : Type} {enc : TypeId × Value → H} {w : World} {base : Nat} {spare : Nat → Bool} {held : Bool} {fuel : Nat} {a : Option Addr} {len cap : Nat} {x : DataW H × List MemPlace}
    (h : DataW.trod enc Try.prog w base spare held fuel 41 [.slice a len cap] = some x) (hw : ∀ n ∈ x.1.weights Try.prog 41, n ≤ reachBytes) :
    ∃ (b o : Nat) (tx : Nat → StrA), (0 < len → a = some ⟨b, o, none⟩) ∧ (∀ i, i < len → w.cell? ⟨b, o + i, none⟩ = some (strA (tx i))) ∧ len ≤ maxLen ∧ ∀ i, (tx i).length ≤ 140737488355328 := by
  have hrb : reachBytes ≤ 140737488355328 := by decide
  have hzero : ∃ (b o : Nat) (tx : Nat → StrA), (0 < 0 → a = some ⟨b, o, none⟩) ∧ (∀ i, i < 0 → w.cell? ⟨b, o + i, none⟩ = some (strA (tx i))) ∧ 0 ≤ maxLen ∧ ∀ i, (tx i).length ≤ 140737488355328 :=
    ⟨0, 0, fun _ => [], fun h => absurd h (Nat.lt_irrefl _), fun i hi => absurd hi (Nat.not_lt_zero _), Nat.zero_le _, fun i => Nat.zero_le _⟩
  rcases Go.Deep.open_slice Try.underlying41 h with ⟨hcs, _⟩ | ⟨x0, l, c, m, n, D, Pl, hcs, hb, hl, hm, hmm, hx, hel⟩
  · cases hcs
    exact hzero
  · cases hcs
    have hlm : len ≤ m := by rw [hmm]; split <;> omega
    have each : ∀ i, i < len → ∃ q : StrA, w.cell? (x0.add i) = some (strA q) ∧ q.length ≤ 140737488355328 := by
      intro i hi
      obtain ⟨cs', h1, h2⟩ := hel i (by omega)
      rw [cells_str] at h1
      obtain ⟨_, hlen, hcell⟩ := World.cells?_some h1
      have c0 := hcell 0 (by omega)
      match cs', hlen, h2, c0 with
      | [v0], _, h2, c0 =>
        obtain ⟨s0, e0, r0, _⟩ := DataW.trod_string Try.underlying9 h2
        cases e0
        have hD : D i = .lit (.string s0.data.toList) := by simpa using congrArg Prod.fst r0
        have hmem : D i ∈ (List.range len).map D := List.mem_map_of_mem (List.mem_range.2 hi)
        have hwt : ∀ z, z ∈ (D i).weights Try.prog 9 → z ≤ reachBytes := fun z hz => by
          refine hw z ?_
          rw [hx]
          simp only [DataW.weights, Try.underlying41]
          exact List.mem_cons_of_mem _ (List.mem_append_left _ (weights_all hmem z hz))
        have hws : (D i).weights Try.prog 9 = [s0.data.toList.length] := by
          rw [hD]
          simp [DataW.weights]
        rw [hws] at hwt
        have key : ∀ s : ByteArray, (.string s : Value) = strA s.data.toList := fun s => by simp
        refine ⟨s0.data.toList, ?_, Nat.le_trans (hwt _ (by simp)) hrb⟩
        rw [← key]
        have c1 := c0
        rw [Go.Deep.add_add] at c1
        simpa using c1
    by_cases h00 : len = 0
    · subst h00
      exact hzero
    · obtain ⟨q, hq⟩ := Go.Deep.choose_lt each
      obtain ⟨b, off, spot⟩ := x0
      have hc := (hq 0 (by omega)).1
      have hspot : spot = none := by simpa [Addr.add] using World.cell?_spot hc
      subst hspot
      refine ⟨b, off, fun i => if i < len then q i else [], fun _ => rfl, fun i hi => ?_, by omega, fun i => ?_⟩
      · simp only [if_pos hi]
        have g0 := (hq i hi).1
        rw [add_offA] at g0
        exact g0
      · simp only
        split
        · rename_i hi
          exact (hq i hi).2
        · exact Nat.zero_le _
end Go.Proofs.Ytblohegdlcpipaa
