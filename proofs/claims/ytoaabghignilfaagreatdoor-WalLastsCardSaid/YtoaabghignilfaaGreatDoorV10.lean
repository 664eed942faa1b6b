/- Several texts in one. -/
import Derived.Test.YtoaabghignilfaaGreatDoorWDmg15
import Derived.ProofKit
import Derived.OpenShut
import Derived.JoinedCond
import Derived.SizedLaws
import Derived.Deep.Matrix
import Derived.Deep.Grids
set_option linter.unusedVariables false
/- Rows of bytes that were handed in, opened. -/
namespace Go.Proofs.YtoaabghignilfaaGreatDoor
open Go.ChangeShapes Go.WideShapes Go.ChangeAt Go.RowKit

theorem vweights_all {H : Type} {P : Program} {e : TypeId} : ∀ {ds : List (DataW H)} {d : DataW H}, d ∈ ds → ∀ n ∈ d.weights P e, n ∈ DataW.weightsAll P e ds
  | x :: r, d, hd, n, hn => by
    simp only [DataW.weightsAll, List.mem_append]
    rcases List.mem_cons.1 hd with rfl | h
    · exact Or.inl hn
    · exact Or.inr (vweights_all h n hn)
theorem u8_range {n : Int} (h : (Lit.int .u8 n).wf = true) : 0 ≤ n ∧ n ≤ 255 := by
  simp only [Lit.wf, Bool.and_eq_true, decide_eq_true_eq] at h
  exact h

def byteZ (z : Int) : UInt8 := UInt8.ofNat z.toNat
theorem byteZ_nat {z : Int} (h : 0 ≤ z ∧ z ≤ 255) : ((byteZ z).toNat : Int) = z := by
  unfold byteZ
  rw [UInt8.toNat_ofNat', Nat.mod_eq_of_lt (by omega)]
  omega

set_option maxRecDepth 20000 in
theorem open_rowsB {H : Type} {enc : TypeId × Value → H} {w : World} {base fuel : Nat} {a : Option Addr} {len cap : Nat} {x : DataW H × List MemPlace}
    (h : DataW.trod enc Tryz.prog w base (fun _ => true) true fuel 39 [.slice a len cap] = some x) (hw : ∀ n ∈ x.1.weights Tryz.prog 39, n ≤ reachBytes) :
    ∃ A L C l, RowsIn w a len A L C l ∧ len ≤ 140737488355328 := by
  have hrb : reachBytes ≤ 140737488355328 := by decide
  have hb8 : Tryz.prog.bytesOf 5 = 1 := by kernel_rfl
  have hb24 : Tryz.prog.bytesOf 34 = 24 := by kernel_rfl
  rcases Go.Deep.open_int_rows Tryz.underlying39 Tryz.underlying34 Tryz.underlying5 (by kernel_rfl) (by kernel_rfl) h with ⟨hcs, _⟩ | ⟨x0, ln, cp, A, L, C, Z, hcs, _, hlc, hcm, hx, hel⟩
  · cases hcs
    exact ⟨fun _ => none, fun _ => 0, fun _ => 0, fun _ => [], fun r hr => absurd hr (Nat.not_lt_zero _), Nat.zero_le _⟩
  · cases hcs
    rw [hx] at hw
    have hlen : len ≤ 140737488355328 := by
      have := hw ((len + (cap - len)) * 24) (by simp [DataW.weights, Tryz.underlying39, hb24])
      omega
    refine ⟨A, L, C, fun r => ((Z r).take (L r)).map byteZ, fun r hr => ?_, hlen⟩
    obtain ⟨h1, h2, h3, h4, h5, h6, h7⟩ := hel r (by omega)
    have hLC : L r ≤ 140737488355328 := by
      cases hA : A r with
      | none => have := h6 hA; omega
      | some a' =>
        have hmem : Go.Deep.intRow .u8 (A r) (L r) (Z r) ∈ (List.range len).map fun r => (Go.Deep.intRow .u8 (A r) (L r) (Z r) : DataW H) := List.mem_map.2 ⟨r, List.mem_range.2 hr, rfl⟩
        have := hw (C r) (by
          simp only [DataW.weights, Tryz.underlying39]
          refine List.mem_cons_of_mem _ (List.mem_append_left _ (vweights_all hmem _ ?_))
          rw [hA]
          simp [Go.Deep.intRow, DataW.weights, Tryz.underlying34, hb8, ChangeShapes.lits, h4]
          omega)
        omega
    have hll : (((Z r).take (L r)).map byteZ).length = L r := by rw [List.length_map, List.length_take]; omega
    refine ⟨x0, rfl, h1, ⟨hll, ?_⟩, h2, hLC⟩
    cases hA : A r with
    | none =>
      have := h6 hA
      exact .inl ⟨rfl, by omega, by omega⟩
    | some a' =>
      refine .inr ⟨a', rfl, fun j hj => ?_⟩
      rw [hll] at hj
      have hc := (h7 a' hA).2 j (by omega)
      rw [hc]
      have hz : (Z r)[j]? = some ((Z r)[j]'(by omega)) := List.getElem?_eq_getElem _
      rw [List.getElem_map, List.getElem_take, byteZ_nat (u8_range (h5 _ (List.getElem_mem _))), List.getD_eq_getElem?_getD, hz]
      rfl
end Go.Proofs.YtoaabghignilfaaGreatDoor

/- Rows of numbers and of bools that were handed in, opened. -/
namespace Go.Proofs.YtoaabghignilfaaGreatDoor
open Go.ChangeShapes Go.WideShapes Go.ChangeAt Go.RowKit

/-- What stands in a row that was handed in. -/
def CellsIn (w : World) (a : Option Addr) (n : Nat) (f : Nat → Value) : Prop := ∀ r, r < n → ∃ x, a = some x ∧ w.cell? (x.add r) = some (f r)
theorem CellsIn.below {w w' : World} {a : Option Addr} {n : Nat} {f : Nat → Value} (h : CellsIn w a n f) (hb : Below w.heap.size w w') : CellsIn w' a n f := fun r hr => by
  obtain ⟨x, h1, h2⟩ := h r hr
  exact ⟨x, h1, by rw [hb.cell (World.block_lt_of_cell? w _ h2)]; exact h2⟩

theorem open_boolsC {H : Type} {enc : TypeId × Value → H} {w : World} {base fuel : Nat} {a : Option Addr} {len cap : Nat} {x : DataW H × List MemPlace} (h : DataW.trod enc Tryz.prog w base (fun _ => true) true fuel 40 [.slice a len cap] = some x) : ∃ B : Nat → Bool, CellsIn w a len (fun i => .bool (B i)) ∧ len ≤ maxLen := by
  rcases Go.Deep.open_bools Tryz.underlying40 Tryz.underlying4 (by kernel_rfl) h with ⟨hcs, _⟩ | ⟨x0, l, c, B, hcs, _, hl, hm, _, hel⟩
  · cases hcs
    exact ⟨fun _ => false, fun r hr => absurd hr (Nat.not_lt_zero _), Nat.zero_le _⟩
  · cases hcs
    exact ⟨B, fun r hr => ⟨x0, rfl, hel r (by omega)⟩, by omega⟩
theorem open_numsC {H : Type} {enc : TypeId × Value → H} {w : World} {base fuel : Nat} {a : Option Addr} {len cap : Nat} {x : DataW H × List MemPlace} {t e : TypeId} {k : IntKind} (ht : Tryz.prog.underlying t = some (.slice e)) (he : Tryz.prog.underlying e = some (.int k)) (hc : Tryz.prog.cellsOf e = 1) (hz : (Lit.int k 0).wf = true) (h : DataW.trod enc Tryz.prog w base (fun _ => true) true fuel t [.slice a len cap] = some x) : ∃ z : Nat → Int, CellsIn w a len (fun i => .int k (z i)) ∧ (∀ i, (Lit.int k (z i)).wf = true) ∧ len ≤ maxLen := by
  rcases open_ints ht he hc h with ⟨hcs, _⟩ | ⟨x0, l, c, zs, hcs, _, hl, hm, hz2, _, hcell, hwz⟩
  · cases hcs
    exact ⟨fun _ => 0, fun r hr => absurd hr (Nat.not_lt_zero _), fun _ => hz, Nat.zero_le _⟩
  · cases hcs
    simp only [if_true] at hz2
    refine ⟨fun i => zs.getD i 0, fun r hr => ⟨x0, rfl, hcell r (by omega)⟩, fun i => ?_, by omega⟩
    show (Lit.int k (zs.getD i 0)).wf = true
    rw [List.getD_eq_getElem?_getD]
    cases hg : zs[i]? with
    | none => exact hz
    | some y => exact hwz y (List.mem_of_getElem? hg)
theorem u64_range {n : Int} (h : (Lit.int .u64 n).wf = true) : 0 ≤ n ∧ n ≤ 18446744073709551615 := by
  simp only [Lit.wf, Bool.and_eq_true, decide_eq_true_eq] at h
  exact h
theorem CellsIn.x {w : World} {a : Option Addr} {n : Nat} {f : Nat → Value} (h : CellsIn w a n f) {k : Nat} (hk : k < n) : ∃ x, a = some x ∧ ∀ r, r < n → w.cell? (x.add r) = some (f r) := by
  obtain ⟨x, h1, _⟩ := h k hk
  refine ⟨x, h1, fun r hr => ?_⟩
  obtain ⟨y, h2, h3⟩ := h r hr
  have : x = y := Option.some.inj (h1.symm.trans h2)
  subst this
  exact h3
end Go.Proofs.YtoaabghignilfaaGreatDoor
