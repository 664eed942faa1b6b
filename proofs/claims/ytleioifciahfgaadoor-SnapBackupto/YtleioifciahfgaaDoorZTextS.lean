/- What snap's GetText answers: it hands on. -/
import Derived.Test.YtleioifciahfgaaDoorZText
import Derived.Test.YtleioifciahfgaaDoorZGetS
set_option linter.unusedVariables false
namespace Go.Proofs.YtleioifciahfgaaDoor
open Go.RowKit

set_option maxRecDepth 100000 in
theorem getText_any (a : Option Addr) (len cap : Nat) (l : List UInt8) (most : Int) (w : World) (h : BRow w a len cap l) (hm : len ≤ 140737488355328) (hcap : len ≤ cap) (hcap2 : cap ≤ 9223372036854775807) (hmo : -9223372036854775808 ≤ most ∧ most ≤ 9223372036854775807) :
    Calls Tryd.prog 8 #[.slice a len cap, .int .i64 most] w fun e w' => e = .returned (.tuple #[.string ⟨(getT l most).1.toArray⟩, .int .i64 ((getT l most).2 : Int)]) ∧ w' = w := by
  have hc := rdtext_any a len cap l most w h hm hcap hcap2 hmo
  go_enter Tryd.func8, Tryd.ntmps8
  go_wp2_with (go_at_call 18; refine hc.mono ?_)
  rintro e w3 ⟨rfl, rfl⟩
  go_wp2
  go_ret2
  exact ⟨rfl, rfl⟩
end Go.Proofs.YtleioifciahfgaaDoor
