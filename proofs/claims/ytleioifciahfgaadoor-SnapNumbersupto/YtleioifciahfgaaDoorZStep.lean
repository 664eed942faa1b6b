/- Steps of regions that draw their order: an append of bytes, a call by its contract. -/
import Derived.Test.YtleioifciahfgaaDoorZPut
set_option linter.unusedVariables false
namespace Go.Proofs.YtleioifciahfgaaDoor
open Go.RowKit

theorem step_copy {w : World} {B : Nat} {v : Value} {acc l : List UInt8} {a : Option Addr} {len cap : Nat} {ops : Array Oper} {o : Oper} {c : Act} {K : Act → World → Prop} {Q : Exit → Act → World → Prop} {E : Prop}
    (hg : o.guard = none) (s x : Operand) (hop : o.op = Op.call { callee := Callee.builtin Builtin.append, args := #[s, x], argTypes := #[22, 22] })
    (hs : c.eval s = v) (hx : c.eval x = .slice a len cap) (hown : OwnB w B v acc) (h : BRow w a len cap l) (hlen : acc.length + len ≤ 140737488355328) (hB : B ≤ w.heap.size)
    (hK : ∀ vo w2, OwnB w2 B vo (acc ++ l) → Below B w w2 → K (c.put o.dst vo) w2) :
    if Region.wanted o (yielded ops c.tmps) = true then Oper.wp Tryd.prog o c w K Q else E := by
  have hw : Region.wanted o (yielded ops c.tmps) = true := by simp [Region.wanted, hg]
  rw [if_pos hw]
  obtain ⟨vo, w2, hr, h2, h3⟩ := append_brow hown h hlen hB o.type
  unfold Oper.wp
  simp [execOp, hop, resolve, invoke, builtin, hs, hx, hr, Result.andThen]
  exact hK vo w2 h2 h3

theorem step_call {P : Program} {w : World} {ops : Array Oper} {o : Oper} {c : Act} {K : Act → World → Prop} {Q : Exit → Act → World → Prop} {E : Prop} {R : Ending → World → Prop}
    (hg : o.guard = none) (f : FuncId) (args : Array Value) (hrun : (execOp c.eval o).run P w = .ok (.enter f args) w) (hc : Calls P f args w R)
    (hR : ∀ e w', R e w' → ∃ v, e = .returned v)
    (hK : ∀ v w', R (.returned v) w' → K (c.put o.dst v) w') :
    if Region.wanted o (yielded ops c.tmps) = true then Oper.wp P o c w K Q else E := by
  have hw : Region.wanted o (yielded ops c.tmps) = true := by simp [Region.wanted, hg]
  rw [if_pos hw]
  unfold Oper.wp
  rw [hrun, Oper.upon_enter]
  refine hc.mono fun e w' h => ?_
  obtain ⟨v, rfl⟩ := hR e w' h
  exact hK v w' h

set_option maxHeartbeats 1000000 in
theorem appendInt_any (B : Nat) (v : Value) (acc : List UInt8) (n : Nat) (w : World) (hown : OwnB w B v acc) (hn : n < 9223372036854775808) (hlen : acc.length + (putN n).length ≤ 140737488355328) (hB : B ≤ w.heap.size) :
    Calls Tryd.prog 30 #[v, .int .i64 (n : Int)] w (Wrote B w acc (putN n)) := by
  have hc := appendNumber_any B v acc n w hown (by omega) hlen hB
  go_enter Tryd.func30, Tryd.ntmps30
  go_wp2_with (go_at_call 19; refine hc.mono ?_)
  rintro e w3 ⟨v3, rfl, hown3, hb3⟩
  go_wp2
  go_ret
  exact ⟨_, rfl, hown3, hb3⟩

set_option maxHeartbeats 1000000 in
set_option maxRecDepth 100000 in
theorem appendStore_none (w : World) :
    Calls Tryd.prog 22 #[.slice none 0 0, .agg #[.slice none 0 0, .slice none 0 0]] w (Made w [83, 0, 0]) := by
  go_enter Tryd.func22, Tryd.ntmps22
  go_wp2
  obtain ⟨wa, hwa⟩ : ∃ wa, w.alloc (.cells #[.slice none 0 0, .slice none 0 0] 39) = wa := ⟨_, rfl⟩
  have hba : Below w.heap.size w wa := by rw [← hwa]; exact (Below.refl _ _).alloc (Nat.le_refl _) _
  have hsa : wa.heap[w.heap.size]? = some (.cells #[.slice none 0 0, .slice none 0 0] 39 (0, 0)) := by
    rw [← hwa]
    show (w.heap.push _)[w.heap.size]? = _
    exact Array.getElem?_push_size
  have hsz : wa.heap.size = w.heap.size + 1 := by rw [← hwa]; simp
  rw [hwa]
  have hc0 : ∀ u : World, Below wa.heap.size wa u → u.cell? ⟨w.heap.size, 0, none⟩ = some (.slice none 0 0) := fun u hu => by
    have := (hu.block w.heap.size (by omega)).trans hsa
    simp [World.cell?, this]
  have hc1 : ∀ u : World, Below wa.heap.size wa u → u.cell? ⟨w.heap.size, 1, none⟩ = some (.slice none 0 0) := fun u hu => by
    have := (hu.block w.heap.size (by omega)).trans hsa
    simp [World.cell?, this]
  have hcd := hc0 wa.drew ⟨rfl, rfl, rfl, Nat.le_refl _, fun _ _ => rfl⟩
  have hone : BRow (wa.alloc (.cells #[.int .u8 83] 5)) (some ⟨w.heap.size + 1, 0, none⟩) 1 1 [83] := by
    have := brow_one wa 83 83 rfl 1
    rwa [hsz] at this
  have hba2 : Below wa.heap.size wa (wa.alloc (.cells #[.int .u8 83] 5)) := (Below.refl _ _).alloc (Nat.le_refl _) _
  have hcd2 := hc0 (wa.alloc (.cells #[.int .u8 83] 5)).drew (below_drew hba2)
  have hp0 : putN 0 = [0] := putN_small (by omega)
  go_region_law (first
    | (refine step_copy (acc := []) (l := [83]) (B := wa.heap.size) (v := .slice none 0 0) (a := some ⟨w.heap.size + 1, 0, none⟩) (len := 1) (cap := 1) rfl (.tmp 9) (.tmp 10) rfl (by simp [go_sem, Act.eval]) (by simp [go_sem, Act.eval]) (own_nil _ _) ?g1 (by decide) ?g2 ?_; (case g1 => exact hone); (case g2 => exact hba2.size); intro vo w2 hown2 hb2; have hc2 := hc0 w2 ((below_drew hba2).trans hb2))
    | (refine step_call rfl 30 #[vo, .int .i64 ((0 : Nat) : Int)] (by simp [go_sem, Act.eval]) (appendInt_any wa.heap.size vo [83] 0 _ hown2 (by omega) (by rw [hp0]; decide) ?g3) ?g4 ?_; (case g3 => exact ((below_drew hba2).trans hb2).size); (case g4 => rintro e w' ⟨v, he, _⟩; exact ⟨v, he⟩); rintro v w3 ⟨v3, he3, hown3, hb3⟩; obtain rfl := Ending.returned.inj he3))
  all_goals
    have hb03 : Below w.heap.size w w3 := hba.trans ((((below_drew hba2).trans hb2).trans hb3).mono (by omega))
    have hbw3 : Below wa.heap.size wa w3 := ((below_drew hba2).trans hb2).trans hb3
    have hd0 := hc0 w3 hbw3
    have hd1 := hc1 w3 hbw3
    rw [hp0] at hown3
    have hcI := appendInt_any wa.heap.size v ([83] ++ [0]) 0 w3 hown3 (by omega) (by rw [hp0]; decide) hbw3.size
    rw [hp0] at hcI
    go_wp2
    refine wp_loop_rounds 1 ?_
    rw [rounds_succ]
    go_wp2_with (go_at_call 30; refine hcI.mono ?_)
    rintro e w4 ⟨v4, rfl, hown4, hb4⟩
    have hbw4 := hbw3.trans hb4
    have he0 := hc0 w4 hbw4
    have he1 := hc1 w4 hbw4
    go_wp2
    refine wp_loop_rounds 1 ?_
    rw [rounds_succ]
    go_wp2
    go_ret
    exact ⟨_, rfl, own_lower hown4 (by omega), hb03.trans (hb4.mono (by omega))⟩
end Go.Proofs.YtleioifciahfgaaDoor
