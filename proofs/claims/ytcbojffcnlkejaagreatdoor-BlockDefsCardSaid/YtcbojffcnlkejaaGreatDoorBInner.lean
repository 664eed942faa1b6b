/- What is innermost of what is open. -/
import Derived.Test.YtcbojffcnlkejaaGreatDoorBRead
import Derived.BigRegion
import Derived.BigQuiet
set_option linter.unusedVariables false
namespace Go.Proofs.YtcbojffcnlkejaaGreatDoor
open Go.RowKit
open cur (cell_blk free_blk set_blk blk_below)

set_option maxHeartbeats 2000000 in
theorem binner_any {w : World} {r : Nat} {own : Nat → Nat} {N : Nat} {bs : List Nat} {vo vd vm : Value} {s : St} (h : RepR w r own N bs vo vd vm s) {p : Part} {b n : Nat} (hn : s.opens.length = n + 1) (hp : s.opens[n]? = some p) (hb : bs[n]? = some b) (hz : n ≤ 1099511627776) :
    Calls Tryz.prog 23 #[ptrV r] w fun e w' => e = .returned (partI p b) ∧ ∃ m, w' = w.drewN m := by
  have hrow := h.opens
  obtain ⟨g, c, cur, hv, hc⟩ : ∃ g c cur, vo = .slice (some ⟨g, 0, none⟩) (n + 1) c ∧ w.heap[g]? = some (.cells cur 66 (0, 0)) := by
    rcases hrow.2 with ⟨_, q⟩ | ⟨g, cap, cur, rfl, _, hg, _⟩
    · omega
    · exact ⟨g, cap, cur, by rw [hn], hg⟩
  subst hv
  have hcell := hrow.cells (g := g) rfl n (partI p b) (zip_at hb hp)
  have he : (⟨g, 0, none⟩ : Addr).add n = ⟨g, n, none⟩ := by
    unfold Addr.add
    split
    · rename_i q; subst q; rfl
    · simp
  rw [he] at hcell
  have c0 := cell_blk h.rd (i := 0) rfl
  simp only [List.getElem_toArray, List.getElem_cons_zero] at c0
  have i0 : ((n : Int) + 1) - 1 = (n : Int) := by omega
  have i1 : (n : Int) < (n : Int) + 1 := by omega
  have i2 : ((n + 1 : Nat) : Int) - 1 = (n : Int) := by omega
  have i3 : (n : Int) < ((n + 1 : Nat) : Int) := by omega
  clear h hrow hn hp hb he hc
  go_enter Tryz.func23, Tryz.ntmps23
  go_wp2
  go_quiet (fail)
  go_wp2
  go_ret
  exact ⟨rfl, _, rfl⟩

end Go.Proofs.YtcbojffcnlkejaaGreatDoor
