/- A row of steps that was handed in, opened. -/
import Derived.Test.YtblohegdlcpipaaWNets18
import Derived.Test.YtblohegdlcpipaaDIn
import Derived.ProofKit
import Derived.OpenShut
import Derived.JoinedCond
import Derived.SizedLaws
import Derived.Deep.Slices
set_option linter.unusedVariables false
namespace Go.Proofs.Ytblohegdlcpipaa
open Go.ChangeShapes Go.WideShapes Go.ChangeAt Go.RowKit

theorem dweights_all {H : Type} {P : Program} {e : TypeId} : ∀ {ds : List (DataW H)} {d : DataW H}, d ∈ ds → ∀ n ∈ d.weights P e, n ∈ DataW.weightsAll P e ds
  | x :: r, d, hd, n, hn => by
    simp only [DataW.weightsAll, List.mem_append]
    rcases List.mem_cons.1 hd with rfl | h
    · exact Or.inl hn
    · exact Or.inr (dweights_all h n hn)
theorem dlist5 {α : Type} : ∀ {l : List α}, l.length = 5 → ∃ a b c d e, l = [a, b, c, d, e]
  | [a, b, c, d, e], _ => ⟨a, b, c, d, e, rfl⟩
  | [], h => by simp at h
  | [_], h => by simp at h
  | [_, _], h => by simp at h
  | [_, _, _], h => by simp at h
  | [_, _, _, _], h => by simp at h
  | _ :: _ :: _ :: _ :: _ :: _ :: _, h => by simp at h
theorem und_op : ∃ f0 f1 f2 f3 f4 : Field, Try.prog.underlying 34 = some (.struct #[f0, f1, f2, f3, f4]) ∧ f0.offset = 0 ∧ f1.offset = 1 ∧ f2.offset = 2 ∧ f3.offset = 3 ∧ f4.offset = 4 ∧ f0.type = 3 ∧ f1.type = 3 ∧ f2.type = 3 ∧ f3.type = 32 ∧ f4.type = 28 := ⟨_, _, _, _, _, Try.underlying34, rfl, rfl, rfl, rfl, rfl, rfl, rfl, rfl, rfl, rfl⟩
theorem dcells_op : Try.prog.cellsOf 34 = 5 := by kernel_rfl
theorem dcells_str : Try.prog.cellsOf 9 = 1 := by kernel_rfl
theorem dcells_int : Try.prog.cellsOf 3 = 1 := by kernel_rfl
theorem dcells_u64 : Try.prog.cellsOf 28 = 1 := by kernel_rfl
theorem dcells_by : Try.prog.cellsOf 32 = 1 := by kernel_rfl
theorem add_offD (b off i : Nat) : (⟨b, off, none⟩ : Addr).add i = ⟨b, off + i, none⟩ := by unfold Addr.add; split <;> simp_all
theorem i64_range {n : Int} (h : (Lit.int .i64 n).wf = true) : -9223372036854775808 ≤ n ∧ n ≤ 9223372036854775807 := by
  simp only [Lit.wf, Bool.and_eq_true, decide_eq_true_eq] at h
  exact h

set_option maxRecDepth 20000 in
theorem open_ops {H : Type} {enc : TypeId × Value → H} {w : World} {base fuel : Nat} {a : Option Addr} {len cap : Nat} {x : DataW H × List MemPlace}
    (h : DataW.trod enc Try.prog w base (fun _ => true) true fuel 22 [.slice a len cap] = some x) (hw : ∀ n ∈ x.1.weights Try.prog 22, n ≤ reachBytes) :
    ∃ (bb oo : Nat), (0 < len → a = some ⟨bb, oo, none⟩) ∧ (∀ i, i < len → ∃ kind A B da dn dc S l, OpM w bb (oo + i * 5) kind A B da dn dc S l) ∧ len ≤ maxLen := by
  have hrb : reachBytes ≤ 140737488355328 := by decide
  rcases Go.Deep.open_slice Try.underlying22 h with ⟨hcs, _⟩ | ⟨x0, l, c, m, n, D, Pl, hcs, hb, hl, hm, hmm, hx, hel⟩
  · cases hcs
    exact ⟨0, 0, fun h => absurd h (Nat.lt_irrefl _), fun i hi => absurd hi (Nat.not_lt_zero _), Nat.zero_le _⟩
  · cases hcs
    have hlm : len ≤ m := by rw [hmm]; exact hl
    obtain ⟨f0, f1, f2, f3, f4, hu, o0, o1, o2, o3, o4, t0, t1, t2, t3, t4⟩ := und_op
    by_cases h00 : len = 0
    · subst h00
      exact ⟨0, 0, fun h => absurd h (Nat.lt_irrefl _), fun i hi => absurd hi (Nat.not_lt_zero _), Nat.zero_le _⟩
    · obtain ⟨b, off, spot⟩ := x0
      have hspot : spot = none := by
        obtain ⟨cs', h1, h2⟩ := hel 0 (by omega)
        rw [dcells_op] at h1
        obtain ⟨_, hlen, hcell⟩ := World.cells?_some h1
        obtain ⟨v0, v1, v2, v3, v4, rfl⟩ := dlist5 hlen
        have hc : w.cell? (((⟨b, off, spot⟩ : Addr).add (0 * 5)).add 0) = some v0 := hcell 0 (by omega)
        have := World.cell?_spot hc
        simpa [Addr.add] using this
      subst hspot
      refine ⟨b, off, fun _ => rfl, fun i hi => ?_, by omega⟩
      obtain ⟨cs', h1, h2⟩ := hel i (by omega)
      rw [dcells_op] at h1
      obtain ⟨_, hlen, hcell⟩ := World.cells?_some h1
      obtain ⟨xs, k, hk, hxy, _, hxl, hf⟩ := DataW.trod_struct hu h2
      obtain ⟨y0, y1, y2, y3, y4, rfl⟩ := dlist5 (show xs.length = 5 from hxl)
      obtain ⟨v0, v1, v2, v3, v4, rfl⟩ := dlist5 hlen
      have g0 := hf 0 f0 rfl
      have g1 := hf 1 f1 rfl
      have g2 := hf 2 f2 rfl
      have g3 := hf 3 f3 rfl
      have g4 := hf 4 f4 rfl
      simp [o0, o1, o2, o3, o4, t0, t1, t2, t3, t4, dcells_int, dcells_u64, dcells_by] at g0 g1 g2 g3 g4
      obtain ⟨z0, e0, r0, w0'⟩ := DataW.trod_int Try.underlying3 g0
      obtain ⟨z1, e1, r1, w1'⟩ := DataW.trod_int Try.underlying3 g1
      obtain ⟨z2, e2, r2, w2'⟩ := DataW.trod_int Try.underlying3 g2
      obtain ⟨z4, e4, r4, w4'⟩ := DataW.trod_int Try.underlying28 g4
      cases e0
      cases e1
      cases e2
      cases e4
      subst r0
      subst r1
      subst r2
      subst r4
      have c0 := hcell 0 (by omega)
      have c1 := hcell 1 (by omega)
      have c2 := hcell 2 (by omega)
      have c3 := hcell 3 (by omega)
      have c4 := hcell 4 (by omega)
      rw [Go.Deep.add_add, add_offD] at c0 c1 c2 c3 c4
      simp only [Prod.mk.injEq] at hxy
      have hD : D i = .agg [.lit (.int .i64 z0), .lit (.int .i64 z1), .lit (.int .i64 z2), y3.1, .lit (.int .u64 z4)] := by simpa using hxy.1
      have hmem : D i ∈ (List.range len).map D := List.mem_map_of_mem (List.mem_range.2 hi)
      have hwt : ∀ z, z ∈ (D i).weights Try.prog 34 → z ≤ reachBytes := fun z hz => by
        refine hw z ?_
        rw [hx]
        simp only [DataW.weights, Try.underlying22]
        exact List.mem_cons_of_mem _ (List.mem_append_left _ (dweights_all hmem z hz))
      have hws : (D i).weights Try.prog 34 = y3.1.weights Try.prog 32 ++ [] := by
        rw [hD]
        simp [DataW.weights, hu, DataW.weightsEach, t0, t1, t2, t3, t4]
      rw [hws] at hwt
      obtain ⟨ba, bl, bc, hv3⟩ : ∃ ba bl bc, v3 = .slice ba bl bc := by
        rcases Go.Deep.open_slice Try.underlying32 g3 with ⟨hq, _⟩ | ⟨q0, ql, qc, _, _, _, _, hq, _⟩
        · cases hq; exact ⟨_, _, _, rfl⟩
        · cases hq; exact ⟨_, _, _, rfl⟩
      subst hv3
      obtain ⟨bl', hrow, hcap, hlen'⟩ := open_bytes (x := y3) g3 (fun z hz => hwt z (by simp [hz]))
      have r5 := u64_range w4'
      obtain ⟨S, hS⟩ : ∃ S : Nat, z4 = (S : Int) := ⟨z4.toNat, by omega⟩
      subst hS
      refine ⟨z0, z1, z2, ba, bl, bc, S, bl', { c0 := ?_, c1 := ?_, c2 := ?_, c3 := ?_, c4 := ?_, row := hrow, cap := hcap, len := by omega, side := by omega }⟩
      · simpa using c0
      · rw [Nat.add_assoc]; simpa using c1
      · rw [Nat.add_assoc]; simpa using c2
      · rw [Nat.add_assoc]; simpa using c3
      · rw [Nat.add_assoc]; simpa using c4
end Go.Proofs.Ytblohegdlcpipaa
