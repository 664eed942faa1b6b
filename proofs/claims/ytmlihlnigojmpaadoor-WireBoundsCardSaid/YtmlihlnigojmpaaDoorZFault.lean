/- What is told of bytes that can't be read: reader's Fault; a reader that is new, and its end. -/
import Derived.Test.YtmlihlnigojmpaaDoorZRead
import Derived.Defers
import Derived.Recover
import Derived.Stop.Asserts
set_option linter.unusedVariables false
namespace Go.Proofs.YtmlihlnigojmpaaDoor
open Go.RowKit

theorem below_set {B b i : Nat} {w0 w : World} {u : Value} (h : Below B w0 w) (hB : B ≤ b) : Below B w0 (w.setCell ⟨b, i, none⟩ u) :=
  h.trans ⟨rfl, rfl, rfl, by simp [World.setCell], fun k hk => Below.heap_setCell _ _ _ _ (by simp; omega)⟩
theorem new_blk (w : World) (cs : Array Value) (t : TypeId) : (w.alloc (.cells cs t)).heap[w.heap.size]? = some (.cells cs t (0, 0)) := by
  show (w.heap.push _)[w.heap.size]? = _
  exact Array.getElem?_push_size

/-- An error that is a *api.Fault of that place. -/
abbrev FltB (w : World) (v : Value) (p : Nat) : Prop := ∃ g, v = .iface 68 (.pointer (some ⟨g, 0, none⟩)) ∧ w.heap[g]? = some (.cells #[.int .i64 (p : Int), .int .i64 12] 42 (0, 0))

theorem as_unr (v : Value) (w : World) : (Instr.typeAssert (.iface 84 v) 20 84 true).run Tryd.prog w = .ok (.tuple #[v, .bool true]) w := by kernel_rfl

set_option maxHeartbeats 1000000 in
set_option maxRecDepth 100000 in
theorem sfault_any (p : Nat) (w : World) :
    Calls Tryd.prog 37 #[.iface 84 (.agg #[.int .i64 (p : Int)])] w fun e w' => ∃ v, e = .returned v ∧ FltB w' v p ∧ Below w.heap.size w w' := by
  have ha := as_unr (.agg #[.int .i64 (p : Int)])
  go_enter Tryd.func37, Tryd.ntmps37
  go_wp2
  go_ret
  refine ⟨_, rfl, ⟨_, rfl, ?_⟩, ?_⟩
  · have := new_blk (w.alloc (.cells #[.int .i64 (p : Int)] 84)) #[.int .i64 (p : Int), .int .i64 12] 42
    simpa using this
  · exact ((Below.refl _ _).alloc (Nat.le_refl _) _).alloc (by simp) _

theorem RdB.below {w w' : World} {b : Nat} {a : Option Addr} {len cap p : Nat} (h : RdB w b a len cap p) (hb : Below w.heap.size w w') : RdB w' b a len cap p := blk_below h hb
theorem BRow.low {w w' : World} {B : Nat} {a : Option Addr} {len cap : Nat} {l : List UInt8} (h : Below B w w') (hr : BRow w a len cap l) (hB : ∀ x, a = some x → x.block < B) : BRow w' a len cap l := by
  refine ⟨hr.1, ?_⟩
  rcases hr.2 with h2 | ⟨x, h2, hc⟩
  · exact .inl h2
  · refine .inr ⟨x, h2, fun j hj => ?_⟩
    have := hc j hj
    rw [← this]
    have hx := hB x h2
    exact h.cell (by unfold Addr.add; split <;> exact hx)


set_option maxRecDepth 100000 in
theorem rnew_any (a : Option Addr) (len cap : Nat) (w : World) : Calls Tryd.prog 55 #[.slice a len cap] w fun e w' => e = .returned (rptr w.heap.size) ∧ w' = w.alloc (.cells #[.slice a len cap, .int .i64 0] 106) := by
  go_enter Tryd.func55, Tryd.ntmps55
  go_wp2
  go_ret
  exact ⟨rfl, rfl⟩

set_option maxHeartbeats 1000000 in
set_option maxRecDepth 100000 in
theorem rend_any (w : World) (b : Nat) (a : Option Addr) (len cap p : Nat) (h : RdB w b a len cap p) (hp : p ≤ len) (hm : len ≤ 140737488355328) :
    Calls Tryd.prog 58 #[rptr b] w fun e w' => Oth b w w' ∧ RdB w' b a len cap p ∧ (if p < len then e = gaveUp p else e = .returned (.tuple #[])) := by
  have h0 := cell_blk h (i := 0) rfl
  have h1 := cell_blk h (i := 1) rfl
  have HG : ∀ m, Calls Tryd.prog 59 #[.int .i64 (p : Int)] (w.drewN m) _ := fun m => giveUp_any (w.drewN m) p
  by_cases c : p < len
  · simp only [if_pos c]
    have q : decide ((p : Int) < (len : Int)) = true := by simp; omega
    go_enter Tryd.func58, Tryd.ntmps58
    go_wp2
    go_quiet (fail)
    go_wp2_with (go_at_call 59; refine (HG _).mono ?_)
    rintro e w3 ⟨rfl, rfl⟩
    go_wp2
    exact ⟨rfl, (Oth.refl _ _).drewN _, h, rfl⟩
  · simp only [if_neg c]
    have q : ¬ ((p : Int) < (len : Int)) := by omega
    clear HG
    go_enter Tryd.func58, Tryd.ntmps58
    go_wp2
    go_quiet (fail)
    go_wp2
    go_end0
    exact ⟨(Oth.refl _ _).drewN _, h, rfl⟩
end Go.Proofs.YtmlihlnigojmpaaDoor
