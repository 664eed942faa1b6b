/- Several texts in one. -/
import Derived.Test.YtkbmblmnhhlicaaGreatDoorZBytes
import Derived.OpenShut
import Derived.ProofKit
import Derived.SizedLaws
import Derived.Test.YtkbmblmnhhlicaaGreatDoorVNum
import Derived.JoinedCond
import Derived.Deep.Slices
set_option linter.unusedVariables false
/- Rows of bytes and numbers that came in. -/
namespace Go.Proofs.YtkbmblmnhhlicaaGreatDoor
open Go.RowKit Go.ChangeShapes Go.WideShapes Go.ChangeAt

theorem u64_range {n : Int} (h : (Lit.int .u64 n).wf = true) : 0 ≤ n ∧ n < 18446744073709551616 := by
  simp only [Lit.wf, Bool.and_eq_true, decide_eq_true_eq] at h
  have h1 : (0 : Int) ≤ n := h.1
  have h2 : n ≤ 18446744073709551615 := h.2
  omega
theorem u8_range {n : Int} (h : (Lit.int .u8 n).wf = true) : 0 ≤ n ∧ n < 256 := by
  simp only [Lit.wf, Bool.and_eq_true, decide_eq_true_eq] at h
  have h1 : (0 : Int) ≤ n := h.1
  have h2 : n ≤ 255 := h.2
  omega

theorem open_bytes {H : Type} {enc : TypeId × Value → H} {W : World} {base fuel : Nat} {a : Option Addr} {len cap : Nat} {x : DataW H × List MemPlace}
    (h : DataW.trod enc Tryz.prog W base (fun _ => true) true fuel 34 [.slice a len cap] = some x) (hw : ∀ n ∈ DataW.weights Tryz.prog 34 x.1, n ≤ reachBytes) : ∃ l, BRow W a len cap l ∧ len ≤ cap ∧ len ≤ 140737488351232 := by
  rcases open_ints Tryz.underlying34 Tryz.underlying5 (by kernel_rfl) h with ⟨hcs, _⟩ | ⟨y, l, c, zs, hcs, _, hl, hm, hz, hx, hcell, hwz⟩
  · simp at hcs
    obtain ⟨rfl, rfl, rfl⟩ := hcs
    exact ⟨[], ⟨rfl, .inl ⟨rfl, rfl, rfl⟩⟩, Nat.le_refl _, by omega⟩
  · simp at hcs
    obtain ⟨rfl, rfl, rfl⟩ := hcs
    have hz' : zs.length = cap := by simpa using hz
    have hd : x.1 = .slice (lits .u8 (zs.take len)) (lits .u8 (zs.drop len)) := by rw [hx]
    have hlen : (zs.take len).length = len := by rw [List.length_take]; omega
    refine ⟨(zs.take len).map (fun z => UInt8.ofNat z.toNat), ⟨by rw [List.length_map, hlen], .inr ⟨y, rfl, fun j hj => ?_⟩⟩, hl, ?_⟩
    · rw [List.length_map, hlen] at hj
      have h1 := hcell j (by omega)
      have hjz : j < zs.length := by omega
      have h2 : zs.getD j 0 = zs[j] := by simp [List.getD_eq_getElem?_getD, hjz]
      have hw := u8_range (hwz zs[j] (List.getElem_mem hjz))
      rw [h1, h2]
      simp only [List.getElem_map, List.getElem_take]
      congr 2
      rw [UInt8.toNat_ofNat']
      omega
    · have hb : Tryz.prog.bytesOf 5 = 1 := by kernel_rfl
      have := hw ((lits .u8 (zs.take len) : List (DataW H)).length + (lits .u8 (zs.drop len) : List (DataW H)).length) (by
        rw [hd]
        simp [DataW.weights, Tryz.underlying34, hb])
      simp [lits] at this
      unfold reachBytes at this
      omega
end Go.Proofs.YtkbmblmnhhlicaaGreatDoor

/- A row of steps that was handed in, opened. -/
namespace Go.Proofs.YtkbmblmnhhlicaaGreatDoor
open Go.ChangeShapes Go.WideShapes Go.ChangeAt Go.RowKit

theorem dweights_all {H : Type} {P : Program} {e : TypeId} : ∀ {ds : List (DataW H)} {d : DataW H}, d ∈ ds → ∀ n ∈ d.weights P e, n ∈ DataW.weightsAll P e ds
  | x :: r, d, hd, n, hn => by
    simp only [DataW.weightsAll, List.mem_append]
    rcases List.mem_cons.1 hd with rfl | h
    · exact Or.inl hn
    · exact Or.inr (dweights_all h n hn)
theorem dlist4 {α : Type} : ∀ {l : List α}, l.length = 4 → ∃ a b c d, l = [a, b, c, d]
  | [a, b, c, d], _ => ⟨a, b, c, d, rfl⟩
  | [], h => by simp at h
  | [_], h => by simp at h
  | [_, _], h => by simp at h
  | [_, _, _], h => by simp at h
  | _ :: _ :: _ :: _ :: _ :: _, h => by simp at h
/-- A step in memory. -/
structure OpV (w : World) (bb p : Nat) (kind n : Int) (ba : Option Addr) (bl bc : Nat) (l : List UInt8) (keep : Nat) : Prop where
  c0 : w.cell? ⟨bb, p, none⟩ = some (.int .i64 kind)
  c1 : w.cell? ⟨bb, p + 1, none⟩ = some (.int .i64 n)
  c2 : w.cell? ⟨bb, p + 2, none⟩ = some (.slice ba bl bc)
  c3 : w.cell? ⟨bb, p + 3, none⟩ = some (.int .u64 (keep : Int))
  row : BRow w ba bl bc l
  cap : bl ≤ bc
  len : bl ≤ 140737488355328
  kd : -9223372036854775808 ≤ kind ∧ kind ≤ 9223372036854775807
  hn : -9223372036854775808 ≤ n ∧ n ≤ 9223372036854775807
  kp : keep < 18446744073709551616
theorem und_op : ∃ f0 f1 f2 f3 : Field, Tryz.prog.underlying 37 = some (.struct #[f0, f1, f2, f3]) ∧ f0.offset = 0 ∧ f1.offset = 1 ∧ f2.offset = 2 ∧ f3.offset = 3 ∧ f0.type = 3 ∧ f1.type = 3 ∧ f2.type = 34 ∧ f3.type = 35 := ⟨_, _, _, _, Tryz.underlying37, rfl, rfl, rfl, rfl, rfl, rfl, rfl, rfl⟩
theorem dcells_op : Tryz.prog.cellsOf 37 = 4 := by kernel_rfl
theorem dcells_str : Tryz.prog.cellsOf 9 = 1 := by kernel_rfl
theorem dcells_int : Tryz.prog.cellsOf 3 = 1 := by kernel_rfl
theorem dcells_u64 : Tryz.prog.cellsOf 35 = 1 := by kernel_rfl
theorem dcells_by : Tryz.prog.cellsOf 34 = 1 := by kernel_rfl
theorem add_offD (b off i : Nat) : (⟨b, off, none⟩ : Addr).add i = ⟨b, off + i, none⟩ := by unfold Addr.add; split <;> simp_all
theorem dkey_str (s : ByteArray) : (.string s : Value) = strN s.data.toList := by simp
theorem i64_range {n : Int} (h : (Lit.int .i64 n).wf = true) : -9223372036854775808 ≤ n ∧ n ≤ 9223372036854775807 := by
  simp only [Lit.wf, Bool.and_eq_true, decide_eq_true_eq] at h
  exact h

set_option maxRecDepth 20000 in
theorem open_ops {H : Type} {enc : TypeId × Value → H} {w : World} {base fuel : Nat} {a : Option Addr} {len cap : Nat} {x : DataW H × List MemPlace}
    (h : DataW.trod enc Tryz.prog w base (fun _ => true) true fuel 22 [.slice a len cap] = some x) (hw : ∀ n ∈ x.1.weights Tryz.prog 22, n ≤ reachBytes) :
    ∃ (bb oo : Nat), (0 < len → a = some ⟨bb, oo, none⟩) ∧ (∀ i, i < len → ∃ kind n ba bl bc l keep, OpV w bb (oo + i * 4) kind n ba bl bc l keep) ∧ len ≤ maxLen := by
  have hrb : reachBytes ≤ 140737488355328 := by decide
  rcases Go.Deep.open_slice Tryz.underlying22 h with ⟨hcs, _⟩ | ⟨x0, l, c, m, n, D, Pl, hcs, hb, hl, hm, hmm, hx, hel⟩
  · cases hcs
    exact ⟨0, 0, fun h => absurd h (Nat.lt_irrefl _), fun i hi => absurd hi (Nat.not_lt_zero _), Nat.zero_le _⟩
  · cases hcs
    have hlm : len ≤ m := by rw [hmm]; exact hl
    obtain ⟨f0, f1, f2, f3, hu, o0, o1, o2, o3, t0, t1, t2, t3⟩ := und_op
    by_cases h00 : len = 0
    · subst h00
      exact ⟨0, 0, fun h => absurd h (Nat.lt_irrefl _), fun i hi => absurd hi (Nat.not_lt_zero _), Nat.zero_le _⟩
    · obtain ⟨b, off, spot⟩ := x0
      have hspot : spot = none := by
        obtain ⟨cs', h1, h2⟩ := hel 0 (by omega)
        rw [dcells_op] at h1
        obtain ⟨_, hlen, hcell⟩ := World.cells?_some h1
        obtain ⟨v0, v1, v2, v3, rfl⟩ := dlist4 hlen
        have hc : w.cell? (((⟨b, off, spot⟩ : Addr).add (0 * 4)).add 0) = some v0 := hcell 0 (by omega)
        have := World.cell?_spot hc
        simpa [Addr.add] using this
      subst hspot
      refine ⟨b, off, fun _ => rfl, fun i hi => ?_, by omega⟩
      obtain ⟨cs', h1, h2⟩ := hel i (by omega)
      rw [dcells_op] at h1
      obtain ⟨_, hlen, hcell⟩ := World.cells?_some h1
      obtain ⟨xs, k, hk, hxy, _, hxl, hf⟩ := DataW.trod_struct hu h2
      obtain ⟨y0, y1, y2, y3, rfl⟩ := dlist4 (show xs.length = 4 from hxl)
      obtain ⟨v0, v1, v2, v3, rfl⟩ := dlist4 hlen
      have g0 := hf 0 f0 rfl
      have g1 := hf 1 f1 rfl
      have g2 := hf 2 f2 rfl
      have g3 := hf 3 f3 rfl
      simp [o0, o1, o2, o3, t0, t1, t2, t3, dcells_int, dcells_u64, dcells_by] at g0 g1 g2 g3
      obtain ⟨z0, e0, r0, w0'⟩ := DataW.trod_int Tryz.underlying3 g0
      obtain ⟨z1, e1, r1, w1'⟩ := DataW.trod_int Tryz.underlying3 g1
      obtain ⟨z3, e3, r3, w3'⟩ := DataW.trod_int Tryz.underlying35 g3
      cases e0
      cases e1
      cases e3
      subst r0
      subst r1
      subst r3
      have c0 := hcell 0 (by omega)
      have c1 := hcell 1 (by omega)
      have c2 := hcell 2 (by omega)
      have c3 := hcell 3 (by omega)
      rw [Go.Deep.add_add, add_offD] at c0 c1 c2 c3
      simp only [Prod.mk.injEq] at hxy
      have hD : D i = .agg [.lit (.int .i64 z0), .lit (.int .i64 z1), y2.1, .lit (.int .u64 z3)] := by simpa using hxy.1
      have hmem : D i ∈ (List.range len).map D := List.mem_map_of_mem (List.mem_range.2 hi)
      have hwt : ∀ z, z ∈ (D i).weights Tryz.prog 37 → z ≤ reachBytes := fun z hz => by
        refine hw z ?_
        rw [hx]
        simp only [DataW.weights, Tryz.underlying22]
        exact List.mem_cons_of_mem _ (List.mem_append_left _ (dweights_all hmem z hz))
      have hws : (D i).weights Tryz.prog 37 = y2.1.weights Tryz.prog 34 ++ [] := by
        rw [hD]
        simp [DataW.weights, hu, DataW.weightsEach, t0, t1, t2, t3]
      rw [hws] at hwt
      obtain ⟨ba, bl, bc, hv2⟩ : ∃ ba bl bc, v2 = .slice ba bl bc := by
        rcases Go.Deep.open_slice Tryz.underlying34 g2 with ⟨hq, _⟩ | ⟨q0, ql, qc, _, _, _, _, hq, _⟩
        · cases hq; exact ⟨_, _, _, rfl⟩
        · cases hq; exact ⟨_, _, _, rfl⟩
      subst hv2
      obtain ⟨bl', hrow, hcap, hlen'⟩ := open_bytes (x := y2) g2 (fun z hz => hwt z (by simp [hz]))
      have r5 := u64_range w3'
      obtain ⟨keep, hkeep⟩ : ∃ keep : Nat, z3 = (keep : Int) := ⟨z3.toNat, by omega⟩
      subst hkeep
      refine ⟨z0, z1, ba, bl, bc, bl', keep, { c0 := ?_, c1 := ?_, c2 := ?_, c3 := ?_, row := hrow, cap := hcap, len := by omega, kd := i64_range w0', hn := i64_range w1', kp := by omega }⟩
      · simpa using c0
      · rw [Nat.add_assoc]; simpa using c1
      · rw [Nat.add_assoc]; simpa using c2
      · rw [Nat.add_assoc]; simpa using c3
end Go.Proofs.YtkbmblmnhhlicaaGreatDoor
