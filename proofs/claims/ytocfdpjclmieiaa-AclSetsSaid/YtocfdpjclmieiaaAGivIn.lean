/- A grant that was handed in by value, and a row's shape, opened. -/
import Derived.Test.YtocfdpjclmieiaaAGrsIn
import Derived.Test.YtocfdpjclmieiaaWGives
import Derived.Lib.SmallJoins
set_option linter.unusedVariables false
namespace Go.Proofs.Ytocfdpjclmieiaa
open Go.ChangeShapes Go.WideShapes Go.ChangeAt Go.RowKit

theorem open_shape {H : Type} {enc : TypeId × Value → H} {w : World} {base : Nat} {held : Bool} {fuel : Nat} {a : Option Addr} {len cap : Nat} {x : DataW H × List MemPlace}
    (h : DataW.trod enc Try.prog w base (fun _ => true) held fuel 22 [.slice a len cap] = some x) : ShA a len cap := by
  rcases Go.Deep.open_slice Try.underlying22 h with ⟨hcs, _⟩ | ⟨x0, l, c, m, n, D, Pl, hcs, hb, hl, hm, hmm, hx, hel⟩
  · cases hcs
    exact ⟨⟨Nat.le_refl _, by omega⟩, Or.inl ⟨rfl, rfl, rfl⟩⟩
  · cases hcs
    have hmc : m = cap := by simpa using hmm
    refine ⟨⟨hl, by unfold maxLen at hm; omega⟩, Or.inr ?_⟩
    by_cases h0 : cap = 0
    · exact Or.inr ⟨x0, rfl, by omega, h0⟩
    · obtain ⟨cs', h1, h2⟩ := hel 0 (by omega)
      rw [cells_grant] at h1
      obtain ⟨_, hlen, hcell⟩ := World.cells?_some h1
      have hc := hcell 0 (by omega)
      obtain ⟨b, off, spot⟩ := x0
      have hspot : spot = none := by
        rw [Go.Deep.add_add, List.getElem?_eq_getElem (by omega)] at hc
        simpa [Addr.add] using World.cell?_spot hc
      subst hspot
      exact Or.inl ⟨b, off, rfl⟩
theorem open_grant {H : Type} {enc : TypeId × Value → H} {w : World} {base : Nat} {spare : Nat → Bool} {held : Bool} {r : Reach} {b0 : Nat} {v : Value} {d : DataW H} {p : List MemPlace}
    (hv : Value.okWide Try.prog w r b0 33 v) (h : DataW.Trod enc Try.prog w base spare held 33 v d p) (hw : ∀ n ∈ d.weights Try.prog 33, n ≤ reachBytes) :
    ∃ g : GrA, v = aggA g ∧ g.who.length ≤ 140737488355328 := by
  have hrb : reachBytes ≤ 140737488355328 := by decide
  obtain ⟨v0, v1, v2, y0, y1, y2, n, rfl, rfl, rfl, h0, h1, h2⟩ := Go.Joins.open_agg3 Try.underlying33 (by kernel_rfl) cells_grant hv h
  have g0 : DataW.trod enc Try.prog w base spare held n 9 [v0] = some y0 := h0
  have g1 : DataW.trod enc Try.prog w base spare held n 9 [v1] = some y1 := h1
  have g2 : DataW.trod enc Try.prog w base spare held n 3 [v2] = some y2 := h2
  obtain ⟨s0, e0, r0, _⟩ := DataW.trod_string Try.underlying9 g0
  obtain ⟨s1, e1, r1, _⟩ := DataW.trod_string Try.underlying9 g1
  obtain ⟨z2, e2, r2, _⟩ := DataW.trod_int Try.underlying3 g2
  cases e0
  cases e1
  cases e2
  subst r0
  subst r1
  subst r2
  have key : ∀ s : ByteArray, (.string s : Value) = strA s.data.toList := fun s => by simp
  refine ⟨⟨s0.data.toList, s1.data.toList, z2⟩, ?_, ?_⟩
  · rw [key s0, key s1]
  · have := hw s1.data.toList.length (by
      obtain ⟨f0, f1, f2, hu, o0, o1, o2, t0, t1, t2⟩ := und_grant
      simp [DataW.weights, hu, DataW.weightsEach, t0, t1, t2])
    exact Nat.le_trans this hrb
end Go.Proofs.Ytocfdpjclmieiaa
