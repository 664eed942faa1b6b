/- LinkTells: a label, where a link leads, a title, a definition are told in one way; walked. -/
import Derived.Test.YtadghfgjdfgopaaDoorJDefine
import Derived.Test.YtadghfgjdfgopaaDoorKShown
set_option linter.unusedVariables false
namespace Go.Proofs.YtadghfgjdfgopaaDoor.linkTells
open Go.RowKit

theorem al1 {w : World} {a : Addr} {v : Value} (h : w.cell? a = some v) (o : Obj) : (w.alloc o).cell? a = some v := (((Below.refl w.heap.size w).alloc (Nat.le_refl _) o).cell (p := a) (World.block_lt_of_cell? w a h)).trans h

set_option maxHeartbeats 8000000 in
set_option maxRecDepth 60000 in
theorem walk (s0 : ByteArray) (w0 : s0.size ≤ 140737488351232) (w : World) :
    Calls Tryd.prog 3 #[.string s0] w fun e w' => e = .returned (.bool true) ∧ Below w.heap.size w w' := by
  have HS := (show Hid _ from fun w => kshown_any w)
  obtain ⟨la, li, hl⟩ : ∃ la li, pairL (labelL s0.data.toList) = (la, li) := ⟨_, _, rfl⟩
  obtain ⟨da, di, hd⟩ : ∃ da di, pairL (destL s0.data.toList) = (da, di) := ⟨_, _, rfl⟩
  obtain ⟨ta, ti, ht⟩ : ∃ ta ti, pairL (titleL s0.data.toList) = (ta, ti) := ⟨_, _, rfl⟩
  obtain ⟨ga, gb, gc, gi, hg⟩ : ∃ ga gb gc gi, defR s0.data.toList = ((ga, gb, gc), gi) := ⟨_, _, _, _, rfl⟩
  have hdi : di ≤ 140737488351232 := by
    cases h : destL s0.data.toList with
    | none => rw [h] at hd; rw [← (Prod.mk.inj hd).2]; exact Nat.zero_le _
    | some x => rw [h] at hd; rw [← (Prod.mk.inj hd).2]; have := (dest_pos h).2; rw [len_data] at this; exact Nat.le_trans this w0
  have hti : ti ≤ 140737488351232 := by
    cases h : titleL s0.data.toList with
    | none => rw [h] at ht; rw [← (Prod.mk.inj ht).2]; exact Nat.zero_le _
    | some x => rw [h] at ht; rw [← (Prod.mk.inj ht).2]; have := (title_pos h).2; rw [len_data] at this; exact Nat.le_trans this w0
  have K1 := (show Hid _ from fun w => klabel_at s0 (by omega) la li hl w)
  have K2 := (show Hid _ from fun w => jlabel_at s0 (by omega) la li hl w)
  have K3 := (show Hid _ from fun w => kdest_at s0 (by omega) da di hdi hd w)
  have K4 := (show Hid _ from fun w => jdest_at s0 w0 da di hd w)
  have K5 := (show Hid _ from fun w => ktitle_at s0 (by omega) ta ti hti ht w)
  have K6 := (show Hid _ from fun w => jtitle_at s0 w0 ta ti ht w)
  have K7 := (show Hid _ from fun w => kdefine_at s0 w0 ga gb gc gi hg w)
  have K8 := (show Hid _ from fun w => jdefine_at s0 w0 ga gb gc gi hg w)
  generalize hA : ByteArray.mk la.toArray = A at *
  generalize hD : ByteArray.mk da.toArray = D at *
  generalize hT : ByteArray.mk ta.toArray = T at *
  clear hA hD hT hl hd ht hg hdi hti
  have B : Hid (Below w.heap.size w w) := Below.refl _ _
  go_enter Tryd.func3, Tryd.ntmps3
  go_wp2_with (first
    | (go_at_call 8; refine (HS.out _).mono ?_; rintro e u ⟨rfl, hb⟩; replace B : Hid (Below w.heap.size w u) := below_next B.out hb; clear hb)
    | (go_at_call 9; refine (K1.out _).mono ?_; rintro e u ⟨rfl, hb⟩; replace B : Hid (Below w.heap.size w u) := below_next B.out hb; clear hb)
    | (go_at_call 10; refine (K2.out _).mono ?_; rintro e u ⟨rfl, hb⟩; replace B : Hid (Below w.heap.size w u) := below_next B.out hb; clear hb)
    | (go_at_call 11; refine (K3.out _).mono ?_; rintro e u ⟨rfl, hb⟩; replace B : Hid (Below w.heap.size w u) := below_next B.out hb; clear hb)
    | (go_at_call 12; refine (K4.out _).mono ?_; rintro e u ⟨rfl, hb⟩; replace B : Hid (Below w.heap.size w u) := below_next B.out hb; clear hb)
    | (go_at_call 13; refine (K5.out _).mono ?_; rintro e u ⟨rfl, hb⟩; replace B : Hid (Below w.heap.size w u) := below_next B.out hb; clear hb)
    | (go_at_call 14; refine (K6.out _).mono ?_; rintro e u ⟨rfl, hb⟩; replace B : Hid (Below w.heap.size w u) := below_next B.out hb; clear hb)
    | (go_at_call 15; refine (K7.out _).mono ?_; rintro e u ⟨rfl, hb⟩; replace B : Hid (Below w.heap.size w u) := below_next B.out hb; clear hb)
    | (go_at_call 16; refine (K8.out _).mono ?_; rintro e v ⟨rfl, hv⟩; have bA := (Blk3.new u 26 (.string ⟨ga.toArray⟩) (.string ⟨gb.toArray⟩) (.string ⟨gc.toArray⟩)).below hv; have c0 := (fun o => al1 bA.c0 o); have c1 := (fun o => al1 bA.c1 o); have c2 := (fun o => al1 bA.c2 o); clear bA))
  go_ret
  have b2 := below_next (B.out.alloc B.out.size _) hv
  exact ⟨rfl, b2.alloc b2.size _⟩

end Go.Proofs.YtadghfgjdfgopaaDoor.linkTells
