/- What snap's GetNumber answers: it hands on. -/
import Derived.Test.YtleioifciahfgaaDoorZGet
set_option linter.unusedVariables false
namespace Go.Proofs.YtleioifciahfgaaDoor
open Go.RowKit

set_option maxRecDepth 100000 in
theorem getnum_any (a : Option Addr) (len cap : Nat) (l : List UInt8) (w : World) (h : BRow w a len cap l) (hm : len ≤ maxLen) :
    Calls Tryd.prog 6 #[.slice a len cap] w fun e w' => e = .returned (.tuple #[.int .u64 ((getN 0 0 l).1 : Int), .int .i64 ((getN 0 0 l).2 : Int)]) ∧ w' = w := by
  have hc := rdnum_any a len cap l w h hm
  go_enter Tryd.func6, Tryd.ntmps6
  go_wp2_with (go_at_call 17; refine hc.mono ?_)
  rintro e w3 ⟨rfl, rfl⟩
  go_wp2
  go_ret2
  exact ⟨rfl, rfl⟩
end Go.Proofs.YtleioifciahfgaaDoor
