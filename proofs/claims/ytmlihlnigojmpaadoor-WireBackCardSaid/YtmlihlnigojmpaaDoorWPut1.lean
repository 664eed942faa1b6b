/- Laws for regions that draw, in stage 17's seat. -/
import Derived.Test.YtmlihlnigojmpaaDoorWRt6
import Derived.Test.YtmlihlnigojmpaaDoorPSnapP
import Derived.Test.YtmlihlnigojmpaaDoorZFault
set_option linter.unusedVariables false
namespace Go.Proofs.YtmlihlnigojmpaaDoor
open Go.RowKit

theorem stepV_call {P : Program} {w : World} {ops : Array Oper} {o : Oper} {c : Act} {K : Act → World → Prop} {Q : Exit → Act → World → Prop} {E : Prop} {R : Ending → World → Prop}
    (hg : o.guard = none) (f : FuncId) (args : Array Value) (hrun : (execOp c.eval o).run P w = .ok (.enter f args) w) (hc : Calls P f args w R)
    (hR : ∀ e w', R e w' → ∃ v, e = .returned v) (hK : ∀ v w', R (.returned v) w' → K (c.put o.dst v) w') :
    if Region.wanted o (yielded ops c.tmps) = true then Oper.wp P o c w K Q else E := by
  have hw : Region.wanted o (yielded ops c.tmps) = true := by simp [Region.wanted, hg]
  rw [if_pos hw]
  unfold Oper.wp
  rw [hrun, Oper.upon_enter]
  refine hc.mono fun e w' h => ?_
  obtain ⟨v, rfl⟩ := hR e w' h
  exact hK v w' h
theorem nameW {P : Program} {md : Region.Mode} {ops : Array Oper} {C : World → Prop} {last : Nat} {Q : Exit → Act → World → Prop} {f : Nat} {s : Array Bool} {a : Act} {w : World} (h : ∀ w', w' = w → wpAnyC P md ops C last Q f s a w') : wpAnyC P md ops C last Q f s a w := h w rfl
theorem lt_blk {w : World} {b : Nat} {o : Obj} (h : w.heap[b]? = some o) : b < w.heap.size := (Array.getElem?_eq_some_iff.1 h).1

end Go.Proofs.YtmlihlnigojmpaaDoor
