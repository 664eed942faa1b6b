/- A grant that was handed in by value, opened, with both lengths. -/
import Derived.Test.YtocfdpjclmieiaaAGivIn
import Derived.Test.YtocfdpjclmieiaaWSets
set_option linter.unusedVariables false
namespace Go.Proofs.Ytocfdpjclmieiaa
open Go.ChangeShapes Go.WideShapes Go.ChangeAt Go.RowKit

theorem open_grant2 {H : Type} {enc : TypeId × Value → H} {w : World} {base : Nat} {spare : Nat → Bool} {held : Bool} {r : Reach} {b0 : Nat} {v : Value} {d : DataW H} {p : List MemPlace}
    (hv : Value.okWide Try.prog w r b0 33 v) (h : DataW.Trod enc Try.prog w base spare held 33 v d p) (hw : ∀ n ∈ d.weights Try.prog 33, n ≤ reachBytes) :
    ∃ g : GrA, v = aggA g ∧ g.tenant.length ≤ 140737488355328 ∧ g.who.length ≤ 140737488355328 := by
  have hrb : reachBytes ≤ 140737488355328 := by decide
  obtain ⟨v0, v1, v2, y0, y1, y2, n, rfl, rfl, rfl, h0, h1, h2⟩ := Go.Joins.open_agg3 Try.underlying33 (by kernel_rfl) cells_grant hv h
  have g0 : DataW.trod enc Try.prog w base spare held n 9 [v0] = some y0 := h0
  have g1 : DataW.trod enc Try.prog w base spare held n 9 [v1] = some y1 := h1
  have g2 : DataW.trod enc Try.prog w base spare held n 3 [v2] = some y2 := h2
  obtain ⟨s0, e0, r0, _⟩ := DataW.trod_string Try.underlying9 g0
  obtain ⟨s1, e1, r1, _⟩ := DataW.trod_string Try.underlying9 g1
  obtain ⟨z2, e2, r2, _⟩ := DataW.trod_int Try.underlying3 g2
  cases e0
  cases e1
  cases e2
  subst r0
  subst r1
  subst r2
  have key : ∀ s : ByteArray, (.string s : Value) = strA s.data.toList := fun s => by simp
  refine ⟨⟨s0.data.toList, s1.data.toList, z2⟩, ?_, ?_, ?_⟩
  · rw [key s0, key s1]
  · have := hw s0.data.toList.length (by
      obtain ⟨f0, f1, f2, hu, o0, o1, o2, t0, t1, t2⟩ := und_grant
      simp [DataW.weights, hu, DataW.weightsEach, t0, t1, t2])
    exact Nat.le_trans this hrb
  · have := hw s1.data.toList.length (by
      obtain ⟨f0, f1, f2, hu, o0, o1, o2, t0, t1, t2⟩ := und_grant
      simp [DataW.weights, hu, DataW.weightsEach, t0, t1, t2])
    exact Nat.le_trans this hrb
end Go.Proofs.Ytocfdpjclmieiaa
