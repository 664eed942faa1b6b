/- A row of grants that was handed in, opened. -/
import Derived.Test.YtocfdpjclmieiaaWHome
import Derived.ProofKit
import Derived.OpenShut
import Derived.JoinedCond
import Derived.SizedLaws
import Derived.Deep.Slices
set_option linter.unusedVariables false
namespace Go.Proofs.Ytocfdpjclmieiaa
open Go.ChangeShapes Go.WideShapes Go.ChangeAt Go.RowKit

theorem weights_all {H : Type} {P : Program} {e : TypeId} : ∀ {ds : List (DataW H)} {d : DataW H}, d ∈ ds → ∀ n ∈ d.weights P e, n ∈ DataW.weightsAll P e ds
  | x :: r, d, hd, n, hn => by
    simp only [DataW.weightsAll, List.mem_append]
    rcases List.mem_cons.1 hd with rfl | h
    · exact Or.inl hn
    · exact Or.inr (weights_all h n hn)
theorem list3 {α : Type} : ∀ {l : List α}, l.length = 3 → ∃ a b c, l = [a, b, c]
  | [a, b, c], _ => ⟨a, b, c, rfl⟩
  | [], h => by simp at h
  | [_], h => by simp at h
  | [_, _], h => by simp at h
  | _ :: _ :: _ :: _ :: _, h => by simp at h
theorem und_grant : ∃ f0 f1 f2 : Field, Try.prog.underlying 33 = some (.struct #[f0, f1, f2]) ∧ f0.offset = 0 ∧ f1.offset = 1 ∧ f2.offset = 2 ∧ f0.type = 9 ∧ f1.type = 9 ∧ f2.type = 3 := ⟨_, _, _, Try.underlying33, rfl, rfl, rfl, rfl, rfl, rfl⟩
theorem cells_grant : Try.prog.cellsOf 33 = 3 := by kernel_rfl
theorem cells_str : Try.prog.cellsOf 9 = 1 := by kernel_rfl
theorem cells_int : Try.prog.cellsOf 3 = 1 := by kernel_rfl
theorem add_offA (b off i : Nat) : (⟨b, off, none⟩ : Addr).add i = ⟨b, off + i, none⟩ := by unfold Addr.add; split <;> simp_all

theorem open_grants {H : Type} {enc : TypeId × Value → H} {w : World} {base : Nat} {spare : Nat → Bool} {held : Bool} {fuel : Nat} {a : Option Addr} {len cap : Nat} {x : DataW H × List MemPlace}
    (h : DataW.trod enc Try.prog w base spare held fuel 22 [.slice a len cap] = some x) (hw : ∀ n ∈ x.1.weights Try.prog 22, n ≤ reachBytes) :
    ∃ (b o : Nat) (lb de : Nat → StrA) (ti : Nat → Int), (0 < len → a = some ⟨b, o, none⟩) ∧ (∀ i, i < len → w.cell? ⟨b, o + i * 3, none⟩ = some (strA (lb i)) ∧ w.cell? ⟨b, o + i * 3 + 1, none⟩ = some (strA (de i)) ∧ w.cell? ⟨b, o + i * 3 + 2, none⟩ = some (.int .i64 (ti i))) ∧ len ≤ maxLen ∧ ∀ i, (lb i).length ≤ 140737488355328 ∧ (de i).length ≤ 140737488355328 := by
  have hrb : reachBytes ≤ 140737488355328 := by decide
  have hzero : ∃ (b o : Nat) (lb de : Nat → StrA) (ti : Nat → Int), (0 < 0 → a = some ⟨b, o, none⟩) ∧ (∀ i, i < 0 → w.cell? ⟨b, o + i * 3, none⟩ = some (strA (lb i)) ∧ w.cell? ⟨b, o + i * 3 + 1, none⟩ = some (strA (de i)) ∧ w.cell? ⟨b, o + i * 3 + 2, none⟩ = some (.int .i64 (ti i))) ∧ 0 ≤ maxLen ∧ ∀ i, (lb i).length ≤ 140737488355328 ∧ (de i).length ≤ 140737488355328 :=
    ⟨0, 0, fun _ => [], fun _ => [], fun _ => 0, fun h => absurd h (Nat.lt_irrefl _), fun i hi => absurd hi (Nat.not_lt_zero _), Nat.zero_le _, fun i => ⟨Nat.zero_le _, Nat.zero_le _⟩⟩
  rcases Go.Deep.open_slice Try.underlying22 h with ⟨hcs, _⟩ | ⟨x0, l, c, m, n, D, Pl, hcs, hb, hl, hm, hmm, hx, hel⟩
  · cases hcs
    exact hzero
  · cases hcs
    have hlm : len ≤ m := by rw [hmm]; split <;> omega
    obtain ⟨f0, f1, f2, hu, o0, o1, o2, t0, t1, t2⟩ := und_grant
    have each : ∀ i, i < len → ∃ q : StrA × StrA × Int, (w.cell? (x0.add (i * 3)) = some (strA q.1) ∧ w.cell? (x0.add (i * 3 + 1)) = some (strA q.2.1) ∧ w.cell? (x0.add (i * 3 + 2)) = some (.int .i64 q.2.2)) ∧ q.1.length ≤ 140737488355328 ∧ q.2.1.length ≤ 140737488355328 := by
      intro i hi
      obtain ⟨cs', h1, h2⟩ := hel i (by omega)
      rw [cells_grant] at h1
      obtain ⟨_, hlen, hcell⟩ := World.cells?_some h1
      obtain ⟨xs, k, hk, hxy, _, hxl, hf⟩ := DataW.trod_struct hu h2
      obtain ⟨y0, y1, y2, rfl⟩ := list3 (show xs.length = 3 from hxl)
      obtain ⟨v0, v1, v2, rfl⟩ := list3 hlen
      have g0 := hf 0 f0 rfl
      have g1 := hf 1 f1 rfl
      have g2 := hf 2 f2 rfl
      simp [o0, o1, o2, t0, t1, t2, cells_str, cells_int] at g0 g1 g2
      obtain ⟨s0, e0, r0, _⟩ := DataW.trod_string Try.underlying9 g0
      obtain ⟨s1, e1, r1, _⟩ := DataW.trod_string Try.underlying9 g1
      obtain ⟨z2, e2, r2, _⟩ := DataW.trod_int Try.underlying3 g2
      cases e0
      cases e1
      cases e2
      subst r0
      subst r1
      subst r2
      have c0 := hcell 0 (by omega)
      have c1 := hcell 1 (by omega)
      have c2 := hcell 2 (by omega)
      rw [Go.Deep.add_add] at c0 c1 c2
      simp only [Prod.mk.injEq] at hxy
      have hD : D i = .agg [.lit (.string s0.data.toList), .lit (.string s1.data.toList), .lit (.int .i64 z2)] := by simpa using hxy.1
      have hmem : D i ∈ (List.range len).map D := List.mem_map_of_mem (List.mem_range.2 hi)
      have hwt : ∀ z, z ∈ (D i).weights Try.prog 33 → z ≤ reachBytes := fun z hz => by
        refine hw z ?_
        rw [hx]
        simp only [DataW.weights, Try.underlying22]
        exact List.mem_cons_of_mem _ (List.mem_append_left _ (weights_all hmem z hz))
      have hws : (D i).weights Try.prog 33 = [s0.data.toList.length, s1.data.toList.length] := by
        rw [hD]
        simp [DataW.weights, hu, DataW.weightsEach, t0, t1, t2]
      rw [hws] at hwt
      have key : ∀ s : ByteArray, (.string s : Value) = strA s.data.toList := fun s => by simp
      refine ⟨(s0.data.toList, s1.data.toList, z2), ⟨?_, ?_, ?_⟩, ?_, ?_⟩
      · rw [← key]; simpa using c0
      · rw [← key]; simpa using c1
      · simpa using c2
      · exact Nat.le_trans (hwt _ (by simp)) hrb
      · exact Nat.le_trans (hwt _ (by simp)) hrb
    by_cases h00 : len = 0
    · subst h00
      exact hzero
    · obtain ⟨q, hq⟩ := Go.Deep.choose_lt each
      obtain ⟨b, off, spot⟩ := x0
      have hc := (hq 0 (by omega)).1.1
      have hspot : spot = none := by simpa [Addr.add] using World.cell?_spot hc
      subst hspot
      refine ⟨b, off, fun i => if i < len then (q i).1 else [], fun i => if i < len then (q i).2.1 else [], fun i => if i < len then (q i).2.2 else 0, fun _ => rfl, fun i hi => ?_, by omega, fun i => ?_⟩
      · simp only [if_pos hi]
        obtain ⟨⟨g0, g1, g2⟩, _⟩ := hq i hi
        rw [add_offA] at g0 g1 g2
        exact ⟨g0, g1, g2⟩
      · simp only
        split
        · rename_i hi
          exact (hq i hi).2
        · exact ⟨Nat.zero_le _, Nat.zero_le _⟩
end Go.Proofs.Ytocfdpjclmieiaa
