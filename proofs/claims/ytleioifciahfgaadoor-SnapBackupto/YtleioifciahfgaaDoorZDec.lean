/- What the deferred function of snap's Decode does where reading gave up, and Decode of two bytes. -/
import Derived.Test.YtleioifciahfgaaDoorZFault
set_option linter.unusedVariables false
namespace Go.Proofs.YtleioifciahfgaaDoor
open Go.RowKit

set_option maxHeartbeats 1000000 in
set_option maxRecDepth 100000 in
/-- The deferred function, where reading gave up. -/
theorem caught (q : Nat) (p : Nat) (x : Value) (older : List PanicEntry) (w : World) (h : w.heap[q]? = some (.cells #[x] 41 (0, 0))) :
    CallsD Tryd.prog 23 #[.pointer (some ⟨q, 0, none⟩)] (.panicking ({ v := .iface 67 (.agg #[.int .i64 (p : Int)]), recovered := false } :: older)) w fun e u' w' =>
      e = .returned (.tuple #[]) ∧ u' = .panicking ({ v := .iface 67 (.agg #[.int .i64 (p : Int)]), recovered := true } :: older) ∧
        ∃ v, FltB w' v p ∧ w'.heap[q]? = some (.cells #[v] 41 (0, 0)) ∧ (∀ k, k ≠ q → k < w.heap.size → w'.heap[k]? = w.heap[k]?) ∧ Below q w w' := by
  refine callsD_of_wpS Tryd.func23 rfl fun c₀ cs hu => ?_
  apply wpS_seq
  apply wpS_region
  simp [wpOpsS, go_sem, recoverD, hu, Tryd.ntmps23, Exit.thenS]
  refine wpS_of_wp ?_
  have hc := sfault_any p w
  go_wp2_with (go_at_call 24; refine hc.mono ?_)
  rintro e w1 ⟨v, rfl, ⟨g, rfl, hg⟩, hb⟩
  have hq := blk_below h hb
  have hq0 := cell_blk hq (i := 0) rfl
  have hz0 := free_blk hq 0
  have hne : g ≠ q := by
    rintro rfl
    rw [hg] at hq
    cases hq
  have hs := set_blk hq 0 (.iface 52 (.pointer (some ⟨g, 0, none⟩)))
  have hqlt := lt_of_block h
  go_wp2
  refine ⟨rfl, _, rfl, .tuple #[], by simp [results, Tryd.results23], rfl, rfl, _, ⟨g, rfl, ?_⟩, hs, ?_, ?_⟩
  · rw [Below.heap_setCell _ _ _ _ (by simpa using hne)]
    exact hg
  · intro k hk hlt
    rw [Below.heap_setCell _ _ _ _ (by simpa using hk)]
    exact hb.block k hlt
  · exact below_set (hb.mono (Nat.le_of_lt hqlt)) (Nat.le_refl _)

set_option maxHeartbeats 1000000 in
set_option maxRecDepth 100000 in
theorem first_any (w : World) (b : Nat) (a : Option Addr) (len cap : Nat) (l : List UInt8) (h : RdB w b a len cap 0) (hr : BRow w a len cap l) (hm : len ≤ maxLen) :
    Calls Tryd.prog 33 #[rptr b, .int .u8 83] w fun e w' => Oth b w w' ∧
      (if l.head? = some 83 then e = .returned (.tuple #[]) ∧ RdB w' b a len cap 1 else e = gaveUp 0 ∧ RdB w' b a len cap 0) := by
  have h0 := cell_blk h (i := 0) rfl
  have h1 := cell_blk h (i := 1) rfl
  have hz := free_blk h 1
  have hl := hr.1
  have HG : ∀ m, Calls Tryd.prog 38 #[.int .i64 0] (w.drewN m) _ := fun m => giveUp_any (w.drewN m) 0
  by_cases c0 : len = 0
  · have hn : l = [] := List.eq_nil_of_length_eq_zero (by omega)
    subst hn
    simp only [List.head?_nil, reduceCtorEq, if_false]
    have q0 : ((0 : Int) == (len : Int)) = true := by simp; omega
    go_enter Tryd.func33, Tryd.ntmps33
    go_wp2
    go_quiet (fail)
    go_wp2_with (go_at_call 38; refine (HG _).mono ?_)
    rintro e w3 ⟨rfl, rfl⟩
    go_wp2
    exact ⟨rfl, (Oth.refl _ _).drewN _, rfl, h⟩
  · obtain ⟨x, rfl, hx⟩ := hr.at 0 (by omega)
    have q0 : ((0 : Int) == (len : Int)) = false := by simp; omega
    have hlI : (0 : Int) < (len : Int) := by omega
    obtain ⟨c, t, rfl⟩ : ∃ c t, l = c :: t := by
      cases l with
      | nil => simp at hl; omega
      | cons c t => exact ⟨c, t, rfl⟩
    simp only [List.getD_cons_zero, Addr.add_zero'] at hx
    simp only [List.head?_cons, Option.some.injEq]
    by_cases c1 : c = 83
    · subst c1
      simp only [if_true]
      go_enter Tryd.func33, Tryd.ntmps33
      have hx83 : w.cell? x = some (.int .u8 83) := hx
      clear hx
      go_wp2
      go_quiet (fail)
      go_wp2
      go_end0
      refine ⟨((Oth.refl _ _).drewN _).set _ _, rfl, ?_⟩
      exact set_blk (w := w.drewN nq) h 1 (.int .i64 1)
    · simp only [if_neg c1]
      have q1 : ((c.toNat : Int) == 83) = false := by
        simp
        intro hc
        apply c1
        apply UInt8.toNat_inj.1
        simp
        omega
      go_enter Tryd.func33, Tryd.ntmps33
      go_wp2
      go_quiet (fail)
      go_wp2_with (go_at_call 38; refine (HG _).mono ?_)
      rintro e w3 ⟨rfl, rfl⟩
      go_wp2
      exact ⟨rfl, (Oth.refl _ _).drewN _, rfl, h⟩

set_option maxHeartbeats 1000000 in
set_option maxRecDepth 100000 in
theorem readStore_two (x : Addr) (cap : Nat) (w : World) (hr : BRow w (some x) 2 cap [83, 0]) (hcap : 2 ≤ cap) (hcap2 : cap ≤ 9223372036854775807) :
    Calls Tryd.prog 25 #[.slice (some x) 2 cap] w fun e w' => e = gaveUp 2 ∧ Below w.heap.size w w' := by
  have hxlt : x.block < w.heap.size := by
    obtain ⟨x', hx', hc⟩ := hr.at 0 (by omega)
    obtain rfl := Option.some.inj hx'
    have := World.block_lt_of_cell? w _ hc
    rwa [Addr.add_zero'] at this
  obtain ⟨wa, hwa⟩ : ∃ wa, (w.alloc (.cells #[.slice none 0 0, .slice none 0 0] 39)).alloc (.cells #[.slice (some x) 2 cap, .int .i64 0] 100) = wa := ⟨_, rfl⟩
  have hra : RdB wa (w.heap.size + 1) (some x) 2 cap 0 := by
    have := new_blk (w.alloc (.cells #[.slice none 0 0, .slice none 0 0] 39)) #[.slice (some x) 2 cap, .int .i64 0] 100
    rw [← hwa]
    rw [World.size_alloc] at this
    exact this
  have hba : Below w.heap.size w wa := by rw [← hwa]; exact ((Below.refl _ _).alloc (Nat.le_refl _) _).alloc (by simp) _
  have hbra : BRow wa (some x) 2 cap [83, 0] := hr.below hba
  have hcf := first_any wa (w.heap.size + 1) (some x) 2 cap [83, 0] hra hbra (by unfold maxLen; omega)
  simp only [List.head?_cons, if_true] at hcf
  have hg1 : getN 0 0 (([83, 0] : List UInt8).drop 1) = (0, 1) := by decide
  have hg2 : getN 0 0 (([83, 0] : List UInt8).drop 2) = (0, 0) := by decide
  have hsza : wa.heap.size = w.heap.size + 2 := by rw [← hwa]; simp
  have hnew := rnew_any (some x) 2 cap (w.alloc (.cells #[.slice none 0 0, .slice none 0 0] 39))
  rw [hwa] at hnew
  clear hwa
  go_enter Tryd.func25, Tryd.ntmps25
  go_wp2_with (go_at_call 32; refine hnew.mono ?_)
  rintro e wn ⟨rfl, hwn⟩
  subst hwn
  clear hnew
  rw [World.size_alloc]
  go_wp2_with (go_at_call 33; refine hcf.mono ?_)
  rintro e w1 ⟨ho1, rfl, hr1⟩
  have hb1 : Below w.heap.size w w1 := hba.trans (ho1.below (by omega))
  have hs1 : w1.heap.size = w.heap.size + 2 := by rw [ho1.size, hsza]
  obtain ⟨w2, hw2⟩ : ∃ w2, w1.alloc (.cells #[.slice none 0 0, .slice none 0 0] 39) = w2 := ⟨_, rfl⟩
  have hb12 : Below w1.heap.size w1 w2 := by rw [← hw2]; exact (Below.refl _ _).alloc (Nat.le_refl _) _
  have hb2 : Below w.heap.size w w2 := hb1.trans (hb12.mono (by omega))
  have hr2 : RdB w2 (w.heap.size + 1) (some x) 2 cap 1 := hr1.below hb12
  have hbr2 : BRow w2 (some x) 2 cap [83, 0] := hr.below hb2
  have hc2 := number_any w2 (w.heap.size + 1) (some x) 2 cap 1 8 [83, 0] hr2 hbr2 (by omega) (by omega) hcap hcap2 (by omega)
  rw [hg1] at hc2
  simp only [Nat.one_ne_zero, Nat.not_lt_zero, or_self, if_false] at hc2
  clear hcf
  subst hw2
  go_wp2_with (go_at_call 34; refine hc2.mono ?_)
  rintro e w3 ⟨ho3, rfl, hr3⟩
  have hb3 : Below w.heap.size w w3 := hb2.trans (ho3.below (by omega))
  have hbr3 : BRow w3 (some x) 2 cap [83, 0] := hr.below hb3
  have hc3 := number_any w3 (w.heap.size + 1) (some x) 2 cap 2 64 [83, 0] hr3 hbr3 (by omega) (by omega) hcap hcap2 (by omega)
  rw [hg2] at hc3
  simp only [true_or, if_true] at hc3
  clear hc2
  go_wp2
  refine wp_loop_rounds 1 ?_
  rw [rounds_succ]
  go_wp2_with (go_at_call 34; refine hc3.mono ?_)
  rintro e w4 ⟨ho4, rfl, hr4⟩
  go_wp2
  exact ⟨rfl, rfl, hb3.trans (ho4.below (by omega))⟩

set_option maxHeartbeats 1000000 in
set_option maxRecDepth 100000 in
theorem decode_two (x : Addr) (cap : Nat) (w : World) (hr : BRow w (some x) 2 cap [83, 0]) (hcap : 2 ≤ cap) (hcap2 : cap ≤ 9223372036854775807) :
    Calls Tryd.prog 15 #[.slice (some x) 2 cap] w fun e w' => ∃ v, e = .returned (.tuple #[.agg #[.slice none 0 0, .slice none 0 0], v]) ∧ FltB w' v 2 ∧ Below w.heap.size w w' := by
  have hmf : ∀ (fn : Fn) (first cap : Array Value) (w : World), (Instr.makeFunc fn first cap).run Tryd.prog w = .ok (.func fn first cap) w := fun _ _ _ _ => rfl
  obtain ⟨wa, hwa⟩ : ∃ wa, (w.alloc (.cells #[.slice none 0 0, .slice none 0 0] 39)).alloc (.cells #[.nilIface] 41) = wa := ⟨_, rfl⟩
  have hba : Below w.heap.size w wa := by rw [← hwa]; exact ((Below.refl _ _).alloc (Nat.le_refl _) _).alloc (by simp) _
  have hc := readStore_two x cap wa (hr.below hba) hcap hcap2
  have hqa : wa.heap[w.heap.size + 1]? = some (.cells #[.nilIface] 41 (0, 0)) := by
    have := new_blk (w.alloc (.cells #[.slice none 0 0, .slice none 0 0] 39)) #[.nilIface] 41
    rw [World.size_alloc] at this
    rw [← hwa]
    exact this
  have hsa : wa.heap[w.heap.size]? = some (.cells #[.slice none 0 0, .slice none 0 0] 39 (0, 0)) := by
    have h1 := new_blk w #[.slice none 0 0, .slice none 0 0] 39
    rw [← hwa]
    exact blk_below h1 ((Below.refl _ _).alloc (Nat.le_refl _) _)
  subst hwa
  go_enter_defers Tryd.func15, Tryd.ntmps15
  go_wp2_with (go_at_call 25; refine hc.mono ?_)
  rintro e w1 ⟨rfl, hb1⟩
  go_wp2
  refine leaves_cons (f := 23) (args := #[.pointer (some ⟨w.heap.size + 1, 0, none⟩)]) (by simp) (by simp [go_sem]) ?_
  refine (caught (w.heap.size + 1) 2 .nilIface [] w1 (blk_below hqa hb1)).mono ?_
  rintro e u' w2 ⟨rfl, rfl, v, hv, hq2, hk2, hb2⟩
  have hs2 : w2.heap[w.heap.size]? = some (.cells #[.slice none 0 0, .slice none 0 0] 39 (0, 0)) := by
    rw [hk2 _ (by omega) (by have := lt_of_block (blk_below hsa hb1); omega)]
    exact blk_below hsa hb1
  have e1 := cell_blk hs2 (i := 0) rfl
  have e2 := cell_blk hs2 (i := 1) rfl
  have e3 := cell_blk hq2 (i := 0) rfl
  have hbz : Below w.heap.size w w2 := (hba.trans (hb1.mono hba.size)).trans (hb2.mono (by omega))
  simp [Leaves, settle, results, Tryd.results15, go_sem, e1, e2, e3]
  exact ⟨hv, hbz⟩
end Go.Proofs.YtleioifciahfgaaDoor
