/- What shown meets, over lists. -/
import Derived.Test.YtoaabghignilfaaGreatDoorPlainCalls
import Derived.Test.YtoaabghignilfaaGreatDoorWKeeps
set_option linter.unusedVariables false
namespace Go.Proofs.YtoaabghignilfaaGreatDoor

def sw1 : Dk := (openP (newD 1000)).2.1
def sw2 : Dk := (wappP sw1 [⟨1, [0]⟩] [97, 98]).2.1
def sw3 : Dk := (syncP sw2 (nameL 1)).2
def sw4 : Dk := (wappP sw3 [⟨1, [0, 10]⟩] [99]).2.1
def sw5 : Dk := startD (crashD sw4 3)
def sw6 : Dk := (openP sw5).2.1
theorem sw_e1 : openP (newD 1000) = (0, sw1, [⟨1, [0]⟩]) := by kernel_rfl
theorem sw_e2 : wappP sw1 [⟨1, [0]⟩] [97, 98] = (0, sw2, [⟨1, [0, 10]⟩]) := by kernel_rfl
theorem sw_e3 : syncP sw2 (nameL 1) = (0, sw3) := by kernel_rfl
theorem sw_e4 : wappP sw3 [⟨1, [0, 10]⟩] [99] = (0, sw4, [⟨1, [0, 10, 19]⟩]) := by kernel_rfl
theorem sw_e5 : openP sw5 = (0, sw6, [⟨1, [0, 10]⟩]) := by kernel_rfl
theorem sw_u1 : usedL sw1.files = 0 ∧ sw1.files.length = 1 := by constructor <;> kernel_rfl
theorem sw_u2 : usedL sw2.files = 10 ∧ sw2.files.length = 1 := by constructor <;> kernel_rfl
theorem sw_u3 : usedL sw3.files = 10 ∧ sw3.files.length = 1 := by constructor <;> kernel_rfl
theorem sw_u5 : usedL sw5.files = 13 ∧ sw5.files.length = 1 ∧ sw5.files.all (fun x => decide (x.1.length ≤ 32)) = true := by refine ⟨?_, ?_, ?_⟩ <;> kernel_rfl
theorem sw_u6 : usedL sw6.files = 10 ∧ findV sw6 (nameL 1) = 0 ∧ (theF sw6 (nameL 1)).bs = frameL 1 [97, 98] := by refine ⟨?_, ?_, ?_⟩ <;> kernel_rfl
theorem sw_n1 : nameL 1 = [108, 111, 103, 46, 48, 48, 48, 48, 48, 49] := by kernel_rfl
theorem sw_g : ((frameL 1 [97, 98]).drop 8).take 2 = [97, 98] := by kernel_rfl

end Go.Proofs.YtoaabghignilfaaGreatDoor
