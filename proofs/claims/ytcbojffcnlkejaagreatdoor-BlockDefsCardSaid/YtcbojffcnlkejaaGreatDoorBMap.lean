/- A map of numbers by texts: made, looked up, written. -/
import Derived.Test.YtcbojffcnlkejaaGreatDoorBRead
import Derived.Maps.Views
set_option linter.unusedVariables false
namespace Go.Proofs.YtcbojffcnlkejaaGreatDoor
open Go.RowKit

theorem map_made (w : World) : MapK (w.alloc (.map #[] 0)) w.heap.size 0 (fun _ => 0) := ⟨.map [], World.ownsMap_made w Tryz.prog _ _, fun l => rfl⟩

theorem map_look {w : World} {m n : Nat} {cnt : Str → Nat} (h : MapK w m n cnt) (l : Str) (hl : l.length ≤ 1099511627776) : (Instr.lookup 54 (.map (some m)) (strV l) false).run Tryz.prog w = .ok (.int .i64 (cnt l : Int)) w := by
  obtain ⟨D, h1, h2⟩ := h
  obtain ⟨c, hrun, hat, hw⟩ := h1.lookup_int (t := 54) (Maps.string_keyed Tryz.underlying9) Tryz.underlying54 Tryz.underlying3 (by kernel_rfl) (key := strV l) (kl := .string l) (by rw [Go.WideMaps.keyOf_string_mk Tryz.underlying9 (by rw [size_list]; unfold maxLen; omega), list_data])
  rw [h2 l] at hat
  cases hat
  exact hrun

theorem map_put {w' : World} {m n : Nat} {cnt : Str → Nat} {D : DataW Unit} {l : Str} {c : Nat} (hD : w'.ownsMap Tryz.prog 9 (plainElem Tryz.prog 3) m (n + 1) (D.put (.string l) (.lit (.int .i64 (c : Int))))) (hm : Maps.IsMap D) (h2 : ∀ l, D.atKey (.string l) (.lit (.int .i64 0)) = .lit (.int .i64 (cnt l : Int))) :
    MapK w' m (n + 1) (fun x => if x = l then c else cnt x) := by
  refine ⟨_, hD, fun x => ?_⟩
  by_cases hx : x = l
  · subst hx
    rw [Maps.atKey_put_same (k := .string x) hm trivial]
    simp
  · rw [Maps.atKey_put_other (by intro e; cases e; exact hx rfl), h2 x]
    simp [hx]

theorem map_is {w : World} {m n : Nat} {D : DataW Unit} (h : w.ownsMap Tryz.prog 9 (plainElem Tryz.prog 3) m n D) : Maps.IsMap D := by
  obtain ⟨es, clock, h1, h2, h3, rfl⟩ := h
  exact ⟨_, rfl⟩

end Go.Proofs.YtcbojffcnlkejaaGreatDoor
