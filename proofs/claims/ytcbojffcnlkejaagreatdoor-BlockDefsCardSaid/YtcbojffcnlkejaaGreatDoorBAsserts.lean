/- What a part is, asked by assertions. -/
import Derived.Test.YtcbojffcnlkejaaGreatDoorBRead
import Derived.Stop.Asserts
set_option linter.unusedVariables false
namespace Go.Proofs.YtcbojffcnlkejaaGreatDoor
open Go.RowKit

def Part.isItem : Part → Bool
  | .item _ _ => true
  | _ => false
def Part.isQuote : Part → Bool
  | .quote _ => true
  | _ => false
def Part.isLined : Part → Bool
  | .para _ _ | .fenced _ _ _ _ _ | .indented _ | .html _ _ => true
  | _ => false

abbrev ifP (c : Bool) (b : Nat) : Value := if c then ptrV b else .pointer none
abbrev ifI (c : Bool) (p : Part) (b : Nat) : Value := if c then partI p b else .nilIface

theorem as_para (p : Part) (b : Nat) (w : World) : (Instr.typeAssert (.iface (partP p) (ptrV b)) 66 111 true).run Tryz.prog w = .ok (.tuple #[ifP p.isPara b, .bool p.isPara]) w := by
  cases p <;> kernel_rfl
theorem as_list (p : Part) (b : Nat) (w : World) : (Instr.typeAssert (.iface (partP p) (ptrV b)) 66 131 true).run Tryz.prog w = .ok (.tuple #[ifP p.isList b, .bool p.isList]) w := by
  cases p <;> kernel_rfl
theorem as_quote (p : Part) (b : Nat) (w : World) : (Instr.typeAssert (.iface (partP p) (ptrV b)) 66 121 true).run Tryz.prog w = .ok (.tuple #[ifP p.isQuote b, .bool p.isQuote]) w := by
  cases p <;> kernel_rfl
theorem as_item (p : Part) (b : Nat) (w : World) : (Instr.typeAssert (.iface (partP p) (ptrV b)) 66 122 true).run Tryz.prog w = .ok (.tuple #[ifP p.isItem b, .bool p.isItem]) w := by
  cases p <;> kernel_rfl
theorem as_item1 (x : Box) (n b : Nat) (w : World) : (Instr.typeAssert (.iface (partP (.item x n)) (ptrV b)) 66 122 false).run Tryz.prog w = .ok (ptrV b) w := by
  kernel_rfl
theorem as_para1 (x : Body) (n b : Nat) (w : World) : (Instr.typeAssert (.iface (partP (.para x n)) (ptrV b)) 66 111 false).run Tryz.prog w = .ok (ptrV b) w := by
  kernel_rfl
theorem as_cont (p : Part) (b : Nat) (w : World) : (Instr.typeAssert (.iface (partP p) (ptrV b)) 66 81 true).run Tryz.prog w = .ok (.tuple #[ifI p.isC p b, .bool p.isC]) w := by
  cases p
  case doc => exact run_typeAssert_hasB Tryz.underlying81 (by kernel_rfl) _ _ w
  case quote => exact run_typeAssert_hasB Tryz.underlying81 (by kernel_rfl) _ _ w
  case list => exact run_typeAssert_hasB Tryz.underlying81 (by kernel_rfl) _ _ w
  case item => exact run_typeAssert_hasB Tryz.underlying81 (by kernel_rfl) _ _ w
  all_goals exact run_typeAssert_lacksB Tryz.underlying81 (by kernel_rfl) (by kernel_rfl) _ _ w
theorem as_lined (p : Part) (b : Nat) (w : World) : (Instr.typeAssert (.iface (partP p) (ptrV b)) 66 85 true).run Tryz.prog w = .ok (.tuple #[ifI p.isLined p b, .bool p.isLined]) w := by
  cases p
  case para => exact run_typeAssert_hasB Tryz.underlying85 (by kernel_rfl) _ _ w
  case fenced => exact run_typeAssert_hasB Tryz.underlying85 (by kernel_rfl) _ _ w
  case indented => exact run_typeAssert_hasB Tryz.underlying85 (by kernel_rfl) _ _ w
  case html => exact run_typeAssert_hasB Tryz.underlying85 (by kernel_rfl) _ _ w
  all_goals exact run_typeAssert_lacksB Tryz.underlying85 (by kernel_rfl) (by kernel_rfl) _ _ w
theorem as_cont1 (p : Part) (hp : p.isC = true) (b : Nat) (w : World) : (Instr.typeAssert (.iface (partP p) (ptrV b)) 66 81 false).run Tryz.prog w = .ok (partI p b) w := by
  cases p <;> first | (cases hp; done) | kernel_rfl

end Go.Proofs.YtcbojffcnlkejaaGreatDoor
