/- The document's answer for span: begins, walked. -/
import Derived.Test.YtegjpfhpkkffiaaDoorRUpto
set_option linter.unusedVariables false
namespace Go.Proofs.YtegjpfhpkkffiaaDoor
open Go.RowKit

theorem front_eq {s e : ByteArray} (hle : e.size ≤ s.size) (r : Bool) (hr : e.data.toList.isPrefixOf s.data.toList = r) : ((s.extract 0 e.size).toList == e.toList) = r := by
  have h := piece_eq (e := e) (Suf.whole s) (by rw [len_data]; exact hle) r hr
  rw [pos_whole, Nat.zero_add] at h
  exact same_bytes _ _ _ h

set_option maxHeartbeats 2000000 in
theorem rbegins_any (s e : ByteArray) (hs : s.size ≤ 9223372036854775000) (he : e.size ≤ 100) (r : Bool) (hr : e.data.toList.isPrefixOf s.data.toList = r) (w : World) :
    Calls Tryd.prog 40 #[.string s, .string e] w fun e' w' => e' = .returned (.bool r) ∧ w' = w := by
  by_cases hle : e.size ≤ s.size
  · have q1 := front_eq hle r hr
    have q2 : (e.size : Int) ≤ (s.size : Int) := by omega
    clear hr
    cases r
    all_goals
      go_enter Tryd.func40, Tryd.ntmps40
      go_wp2
      go_ret
      exact ⟨ret_bool rfl, rfl⟩
  · have q2 : ¬ (e.size : Int) ≤ (s.size : Int) := by omega
    have hf : r = false := by
      rw [← hr]
      cases hp : e.data.toList.isPrefixOf s.data.toList
      · rfl
      · have := (List.isPrefixOf_iff_prefix.1 hp).length_le
        rw [len_data, len_data] at this
        exact absurd this hle
    subst hf
    clear hr
    go_enter Tryd.func40, Tryd.ntmps40
    go_wp2
    go_ret
    exact ⟨ret_bool rfl, rfl⟩
end Go.Proofs.YtegjpfhpkkffiaaDoor
