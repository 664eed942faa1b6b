/- A reader of bytes in memory: first, number, giveUp. -/
import Derived.Test.YtmlihlnigojmpaaDoorZText
import Derived.BigQuiet
import Derived.Deep.QuietTactic
import Derived.WalkLawsBesides
import Derived.Laws.Pointers
set_option linter.unusedVariables false
namespace Go.Proofs.YtmlihlnigojmpaaDoor
open Go.RowKit

theorem cell_blk {w : World} {b : Nat} {cs : Array Value} {t : TypeId} (h : w.heap[b]? = some (.cells cs t (0, 0))) {i : Nat} {v : Value} (hi : cs[i]? = some v) : w.cell? ⟨b, i, none⟩ = some v := by
  simp [World.cell?, h, hi]

theorem free_blk {w : World} {b : Nat} {cs : Array Value} {t : TypeId} (h : w.heap[b]? = some (.cells cs t (0, 0))) (i : Nat) : w.frozen? ⟨b, i, none⟩ = false := by
  simp [World.frozen?, h]

theorem set_blk {w : World} {b : Nat} {cs : Array Value} {t : TypeId} (h : w.heap[b]? = some (.cells cs t (0, 0))) (i : Nat) (u : Value) : (w.setCell ⟨b, i, none⟩ u).heap[b]? = some (.cells (cs.setIfInBounds i u) t (0, 0)) := by
  have hlt := lt_of_block h
  have h' : w.heap[b] = .cells cs t (0, 0) := by simpa [Array.getElem?_eq_getElem hlt] using h
  show (w.heap.modify b _)[b]? = _
  rw [Array.getElem?_eq_getElem (by simpa using hlt), Array.getElem_modify_self, h']
  rfl

/-- Beside block b all is as it was. -/
def Oth (b : Nat) (w w' : World) : Prop := w'.os = w.os ∧ w'.tape = w.tape ∧ w'.output = w.output ∧ w'.heap.size = w.heap.size ∧ ∀ k, k ≠ b → w'.heap[k]? = w.heap[k]?

theorem Oth.refl (b : Nat) (w : World) : Oth b w w := ⟨rfl, rfl, rfl, rfl, fun _ _ => rfl⟩
theorem Oth.trans {b : Nat} {w1 w2 w3 : World} (h : Oth b w1 w2) (k : Oth b w2 w3) : Oth b w1 w3 :=
  ⟨k.1.trans h.1, k.2.1.trans h.2.1, k.2.2.1.trans h.2.2.1, k.2.2.2.1.trans h.2.2.2.1, fun i hi => (k.2.2.2.2 i hi).trans (h.2.2.2.2 i hi)⟩
theorem Oth.set {b : Nat} {w1 w : World} (h : Oth b w1 w) (i : Nat) (u : Value) : Oth b w1 (w.setCell ⟨b, i, none⟩ u) :=
  h.trans ⟨rfl, rfl, rfl, by simp [World.setCell], fun k hk => Below.heap_setCell _ _ _ _ (by simpa using hk)⟩
theorem Oth.drewN {b : Nat} {w1 w : World} (h : Oth b w1 w) (n : Nat) : Oth b w1 (w.drewN n) := h.trans ⟨rfl, rfl, rfl, rfl, fun _ _ => rfl⟩
theorem Oth.size {b : Nat} {w w' : World} (h : Oth b w w') : w'.heap.size = w.heap.size := h.2.2.2.1
theorem Oth.block {b : Nat} {w w' : World} (h : Oth b w w') {k : Nat} (hk : k ≠ b) : w'.heap[k]? = w.heap[k]? := h.2.2.2.2 k hk
theorem Oth.below {b : Nat} {w w' : World} (h : Oth b w w') {B : Nat} (hB : B ≤ b) : Below B w w' :=
  ⟨h.1, h.2.1, h.2.2.1, by rw [h.size]; exact Nat.le_refl _, fun k hk => h.block (by omega)⟩
theorem blk_below {w w' : World} {b : Nat} {o : Obj} (h : w.heap[b]? = some o) (hb : Below w.heap.size w w') : w'.heap[b]? = some o := (hb.block b (lt_of_block h)).trans h

/-- Block b is a reader of these bytes, at that place. -/
abbrev RdB (w : World) (b : Nat) (a : Option Addr) (len cap p : Nat) : Prop := w.heap[b]? = some (.cells #[.slice a len cap, .int .i64 (p : Int)] 106 (0, 0))
abbrev rptr (b : Nat) : Value := .pointer (some ⟨b, 0, none⟩)
/-- What reading gives up by. -/
abbrev gaveUp (p : Nat) : Ending := .panicked [{ v := .iface 84 (.agg #[.int .i64 (p : Int)]), recovered := false }]

theorem giveUp_any (w : World) (p : Nat) :
    Calls Tryd.prog 59 #[.int .i64 (p : Int)] w fun e w' => e = gaveUp p ∧ w' = w := by
  go_enter Tryd.func59, Tryd.ntmps59
  go_wp2
  exact ⟨rfl, rfl, rfl⟩

/-- Bytes from a place on. -/
theorem BRow.from {w : World} {a : Option Addr} {len cap : Nat} {l : List UInt8} (h : BRow w a len cap l) (p : Nat) (hp : p ≤ len) (hcap : len ≤ cap) : ∃ a', (if cap - p = 0 then a else a.map (·.add p)) = a' ∧ BRow w a' (len - p) (cap - p) (l.drop p) := by
  have hl := h.1
  refine ⟨_, rfl, ?_⟩
  rcases h.2 with ⟨rfl, h2, rfl⟩ | ⟨x, rfl, hc⟩
  · have : l = [] := List.eq_nil_of_length_eq_zero (by omega)
    subst this
    simp only [Option.map_none, ite_self]
    exact ⟨by simp; omega, .inl ⟨rfl, by omega, by omega⟩⟩
  · by_cases h0 : cap - p = 0
    · rw [if_pos h0]
      have hd : l.drop p = [] := List.drop_eq_nil_of_le (by omega)
      rw [hd]
      exact ⟨by simp; omega, .inr ⟨x, rfl, fun j hj => by simp at hj⟩⟩
    · rw [if_neg h0]
      refine ⟨by rw [List.length_drop]; omega, .inr ⟨_, rfl, fun j hj => ?_⟩⟩
      rw [List.length_drop] at hj
      rw [List.getElem_drop, Addr.add_add]
      exact hc (p + j) (by omega)

set_option maxHeartbeats 2000000 in
set_option maxRecDepth 100000 in
theorem number_some (w : World) (b : Nat) (x : Addr) (len cap p most n k : Nat) (h : RdB w b (some x) len cap p) (hp : p ≤ len) (hcap : len ≤ cap) (q5 : ¬ cap = p) (hm : len ≤ 140737488355328) (hcap2 : cap ≤ 9223372036854775807) (hmo : most ≤ 9223372036854775807) (hn64 : n < 18446744073709551616) (HC : ∀ m, Calls Tryd.prog 71 #[.slice (some (x.add p)) (len - p) (cap - p)] (w.drewN m) fun e w' => e = .returned (.tuple #[.int .u64 (n : Int), .int .i64 (k : Int)]) ∧ w' = w.drewN m) (hb2 : k ≤ len - p) :
    Calls Tryd.prog 56 #[rptr b, .int .i64 (most : Int)] w fun e w' => Oth b w w' ∧
      (if k = 0 ∨ most < n then e = gaveUp p ∧ RdB w' b (some x) len cap p
       else e = .returned (.int .i64 (n : Int)) ∧ RdB w' b (some x) len cap (p + k)) := by
  have h0 := cell_blk h (i := 0) rfl
  have h1 := cell_blk h (i := 1) rfl
  have hz := free_blk h 1
  have hpI : (p : Int) ≤ (len : Int) := by omega
  have hp0 : (0 : Int) ≤ (p : Int) := by omega
  by_cases c1 : k = 0 ∨ most < n
  · simp only [if_pos c1]
    have HG : ∀ m, Calls Tryd.prog 59 #[.int .i64 (p : Int)] (w.drewN m) _ := fun m => giveUp_any (w.drewN m) p
    by_cases c2 : k = 0
    · have q1 : ((k : Int) == 0) = true := by simp; omega
      clear c1
      go_enter Tryd.func56, Tryd.ntmps56
      go_wp2
      go_quiet ((go_at_call 71; exact Calls.quiet_of_same (HC _)))
      clear HC
      go_wp2_with (go_at_call 59; refine (HG _).mono ?_)
      rintro e w3 ⟨rfl, rfl⟩
      go_wp2
      exact ⟨rfl, (Oth.refl _ _).drewN _, rfl, h⟩
    · have q2 : most < n := by omega
      have q1 : ((k : Int) == 0) = false := by simp; omega
      clear c1
      go_enter Tryd.func56, Tryd.ntmps56
      go_wp2
      go_quiet ((go_at_call 71; exact Calls.quiet_of_same (HC _)))
      clear HC
      go_wp2_with (go_at_call 59; refine (HG _).mono ?_)
      rintro e w3 ⟨rfl, rfl⟩
      go_wp2
      exact ⟨rfl, (Oth.refl _ _).drewN _, rfl, h⟩
  · simp only [if_neg c1]
    have q1 : ((k : Int) == 0) = false := by simp; omega
    have q2 : ¬ most < n := by omega
    clear c1
    go_enter Tryd.func56, Tryd.ntmps56
    go_wp2
    go_quiet ((go_at_call 71; exact Calls.quiet_of_same (HC _)))
    clear HC
    go_wp2
    go_ret
    refine ⟨((Oth.refl _ _).drewN _).set _ _, rfl, ?_⟩
    have := set_blk (w := w.drewN nq) h 1 (.int .i64 ((p : Int) + (k : Int)))
    show _ = _
    rw [Int.natCast_add]
    simpa using this

set_option maxHeartbeats 2000000 in
set_option maxRecDepth 100000 in
theorem number_full (w : World) (b : Nat) (x : Addr) (p most n k : Nat) (h : RdB w b (some x) p p p) (hm : p ≤ 140737488355328) (hmo : most ≤ 9223372036854775807) (hn64 : n < 18446744073709551616) (HC : ∀ m, Calls Tryd.prog 71 #[.slice (some x) 0 0] (w.drewN m) fun e w' => e = .returned (.tuple #[.int .u64 (n : Int), .int .i64 (k : Int)]) ∧ w' = w.drewN m) (hb2 : k ≤ 0) :
    Calls Tryd.prog 56 #[rptr b, .int .i64 (most : Int)] w fun e w' => Oth b w w' ∧
      (if k = 0 ∨ most < n then e = gaveUp p ∧ RdB w' b (some x) p p p
       else e = .returned (.int .i64 (n : Int)) ∧ RdB w' b (some x) p p (p + k)) := by
  have h0 := cell_blk h (i := 0) rfl
  have h1 := cell_blk h (i := 1) rfl
  have hz := free_blk h 1
  have hpI : (p : Int) ≤ (p : Int) := by omega
  have hp0 : (0 : Int) ≤ (p : Int) := by omega
  by_cases c1 : k = 0 ∨ most < n
  · simp only [if_pos c1]
    have HG : ∀ m, Calls Tryd.prog 59 #[.int .i64 (p : Int)] (w.drewN m) _ := fun m => giveUp_any (w.drewN m) p
    by_cases c2 : k = 0
    · have q1 : ((k : Int) == 0) = true := by simp; omega
      clear c1
      go_enter Tryd.func56, Tryd.ntmps56
      go_wp2
      go_quiet ((go_at_call 71; exact Calls.quiet_of_same (HC _)))
      clear HC
      go_wp2_with (go_at_call 59; refine (HG _).mono ?_)
      rintro e w3 ⟨rfl, rfl⟩
      go_wp2
      exact ⟨rfl, (Oth.refl _ _).drewN _, rfl, h⟩
    · exfalso; omega
  · simp only [if_neg c1]
    have q1 : ((k : Int) == 0) = false := by simp; omega
    have q2 : ¬ most < n := by omega
    clear c1
    go_enter Tryd.func56, Tryd.ntmps56
    go_wp2
    go_quiet ((go_at_call 71; exact Calls.quiet_of_same (HC _)))
    clear HC
    go_wp2
    go_ret
    refine ⟨((Oth.refl _ _).drewN _).set _ _, rfl, ?_⟩
    have := set_blk (w := w.drewN nq) h 1 (.int .i64 ((p : Int) + (k : Int)))
    show _ = _
    rw [Int.natCast_add]
    simpa using this

set_option maxHeartbeats 2000000 in
set_option maxRecDepth 100000 in
theorem number_none (w : World) (b : Nat) (p most n k : Nat) (h : RdB w b none p p p) (hm : p ≤ 140737488355328) (hmo : most ≤ 9223372036854775807) (hn64 : n < 18446744073709551616) (HC : ∀ m, Calls Tryd.prog 71 #[.slice none 0 0] (w.drewN m) fun e w' => e = .returned (.tuple #[.int .u64 (n : Int), .int .i64 (k : Int)]) ∧ w' = w.drewN m) (hb2 : k ≤ 0) :
    Calls Tryd.prog 56 #[rptr b, .int .i64 (most : Int)] w fun e w' => Oth b w w' ∧
      (if k = 0 ∨ most < n then e = gaveUp p ∧ RdB w' b none p p p
       else e = .returned (.int .i64 (n : Int)) ∧ RdB w' b none p p (p + k)) := by
  have h0 := cell_blk h (i := 0) rfl
  have h1 := cell_blk h (i := 1) rfl
  have hz := free_blk h 1
  have hpI : (p : Int) ≤ (p : Int) := by omega
  have hp0 : (0 : Int) ≤ (p : Int) := by omega
  by_cases c1 : k = 0 ∨ most < n
  · simp only [if_pos c1]
    have HG : ∀ m, Calls Tryd.prog 59 #[.int .i64 (p : Int)] (w.drewN m) _ := fun m => giveUp_any (w.drewN m) p
    by_cases c2 : k = 0
    · have q1 : ((k : Int) == 0) = true := by simp; omega
      clear c1
      go_enter Tryd.func56, Tryd.ntmps56
      go_wp2
      go_quiet ((go_at_call 71; exact Calls.quiet_of_same (HC _)))
      clear HC
      go_wp2_with (go_at_call 59; refine (HG _).mono ?_)
      rintro e w3 ⟨rfl, rfl⟩
      go_wp2
      exact ⟨rfl, (Oth.refl _ _).drewN _, rfl, h⟩
    · exfalso; omega
  · simp only [if_neg c1]
    have q1 : ((k : Int) == 0) = false := by simp; omega
    have q2 : ¬ most < n := by omega
    clear c1
    go_enter Tryd.func56, Tryd.ntmps56
    go_wp2
    go_quiet ((go_at_call 71; exact Calls.quiet_of_same (HC _)))
    clear HC
    go_wp2
    go_ret
    refine ⟨((Oth.refl _ _).drewN _).set _ _, rfl, ?_⟩
    have := set_blk (w := w.drewN nq) h 1 (.int .i64 ((p : Int) + (k : Int)))
    show _ = _
    rw [Int.natCast_add]
    simpa using this

set_option maxHeartbeats 2000000 in
set_option maxRecDepth 100000 in
theorem text_some (w : World) (b : Nat) (x : Addr) (len cap p most k : Nat) (h : RdB w b (some x) len cap p) (hp : p ≤ len) (hcap : len ≤ cap) (q5 : ¬ cap = p) (hm : len ≤ 140737488355328) (hcap2 : cap ≤ 9223372036854775807) (hmo : most ≤ 9223372036854775807) (n : ByteArray) (HC : ∀ m, Calls Tryd.prog 83 #[.slice (some (x.add p)) (len - p) (cap - p), .int .i64 (most : Int)] (w.drewN m) fun e w' => e = .returned (.tuple #[.string n, .int .i64 (k : Int)]) ∧ w' = w.drewN m) (hb2 : k ≤ len - p) :
    Calls Tryd.prog 82 #[rptr b, .int .i64 (most : Int)] w fun e w' => Oth b w w' ∧
      (if k = 0 then e = gaveUp p ∧ RdB w' b (some x) len cap p
       else e = .returned (.string n) ∧ RdB w' b (some x) len cap (p + k)) := by
  have h0 := cell_blk h (i := 0) rfl
  have h1 := cell_blk h (i := 1) rfl
  have hz := free_blk h 1
  have hpI : (p : Int) ≤ (len : Int) := by omega
  have hp0 : (0 : Int) ≤ (p : Int) := by omega
  by_cases c1 : k = 0
  · simp only [if_pos c1]
    have HG : ∀ m, Calls Tryd.prog 59 #[.int .i64 (p : Int)] (w.drewN m) _ := fun m => giveUp_any (w.drewN m) p
    have q1 : ((k : Int) == 0) = true := by simp; omega
    clear c1
    go_enter Tryd.func82, Tryd.ntmps82
    go_wp2
    go_quiet ((go_at_call 83; exact Calls.quiet_of_same (HC _)))
    clear HC
    go_wp2_with (go_at_call 59; refine (HG _).mono ?_)
    rintro e w3 ⟨rfl, rfl⟩
    go_wp2
    exact ⟨rfl, (Oth.refl _ _).drewN _, rfl, h⟩
  · simp only [if_neg c1]
    have q1 : ((k : Int) == 0) = false := by simp; omega
    clear c1
    go_enter Tryd.func82, Tryd.ntmps82
    go_wp2
    go_quiet ((go_at_call 83; exact Calls.quiet_of_same (HC _)))
    clear HC
    go_wp2
    go_ret
    refine ⟨((Oth.refl _ _).drewN _).set _ _, rfl, ?_⟩
    have := set_blk (w := w.drewN nq) h 1 (.int .i64 ((p : Int) + (k : Int)))
    show _ = _
    rw [Int.natCast_add]
    simpa using this

set_option maxHeartbeats 2000000 in
set_option maxRecDepth 100000 in
theorem text_full (w : World) (b : Nat) (x : Addr) (p most k : Nat) (h : RdB w b (some x) p p p) (hm : p ≤ 140737488355328) (hmo : most ≤ 9223372036854775807) (n : ByteArray) (HC : ∀ m, Calls Tryd.prog 83 #[.slice (some x) 0 0, .int .i64 (most : Int)] (w.drewN m) fun e w' => e = .returned (.tuple #[.string n, .int .i64 (k : Int)]) ∧ w' = w.drewN m) (hb2 : k ≤ 0) :
    Calls Tryd.prog 82 #[rptr b, .int .i64 (most : Int)] w fun e w' => Oth b w w' ∧
      (if k = 0 then e = gaveUp p ∧ RdB w' b (some x) p p p
       else e = .returned (.string n) ∧ RdB w' b (some x) p p (p + k)) := by
  have h0 := cell_blk h (i := 0) rfl
  have h1 := cell_blk h (i := 1) rfl
  have hz := free_blk h 1
  have hpI : (p : Int) ≤ (p : Int) := by omega
  have hp0 : (0 : Int) ≤ (p : Int) := by omega
  by_cases c1 : k = 0
  · simp only [if_pos c1]
    have HG : ∀ m, Calls Tryd.prog 59 #[.int .i64 (p : Int)] (w.drewN m) _ := fun m => giveUp_any (w.drewN m) p
    have q1 : ((k : Int) == 0) = true := by simp; omega
    clear c1
    go_enter Tryd.func82, Tryd.ntmps82
    go_wp2
    go_quiet ((go_at_call 83; exact Calls.quiet_of_same (HC _)))
    clear HC
    go_wp2_with (go_at_call 59; refine (HG _).mono ?_)
    rintro e w3 ⟨rfl, rfl⟩
    go_wp2
    exact ⟨rfl, (Oth.refl _ _).drewN _, rfl, h⟩
  · simp only [if_neg c1]
    have q1 : ((k : Int) == 0) = false := by simp; omega
    clear c1
    go_enter Tryd.func82, Tryd.ntmps82
    go_wp2
    go_quiet ((go_at_call 83; exact Calls.quiet_of_same (HC _)))
    clear HC
    go_wp2
    go_ret
    refine ⟨((Oth.refl _ _).drewN _).set _ _, rfl, ?_⟩
    have := set_blk (w := w.drewN nq) h 1 (.int .i64 ((p : Int) + (k : Int)))
    show _ = _
    rw [Int.natCast_add]
    simpa using this

set_option maxHeartbeats 2000000 in
set_option maxRecDepth 100000 in
theorem text_none (w : World) (b : Nat) (p most k : Nat) (h : RdB w b none p p p) (hm : p ≤ 140737488355328) (hmo : most ≤ 9223372036854775807) (n : ByteArray) (HC : ∀ m, Calls Tryd.prog 83 #[.slice none 0 0, .int .i64 (most : Int)] (w.drewN m) fun e w' => e = .returned (.tuple #[.string n, .int .i64 (k : Int)]) ∧ w' = w.drewN m) (hb2 : k ≤ 0) :
    Calls Tryd.prog 82 #[rptr b, .int .i64 (most : Int)] w fun e w' => Oth b w w' ∧
      (if k = 0 then e = gaveUp p ∧ RdB w' b none p p p
       else e = .returned (.string n) ∧ RdB w' b none p p (p + k)) := by
  have h0 := cell_blk h (i := 0) rfl
  have h1 := cell_blk h (i := 1) rfl
  have hz := free_blk h 1
  have hpI : (p : Int) ≤ (p : Int) := by omega
  have hp0 : (0 : Int) ≤ (p : Int) := by omega
  by_cases c1 : k = 0
  · simp only [if_pos c1]
    have HG : ∀ m, Calls Tryd.prog 59 #[.int .i64 (p : Int)] (w.drewN m) _ := fun m => giveUp_any (w.drewN m) p
    have q1 : ((k : Int) == 0) = true := by simp; omega
    clear c1
    go_enter Tryd.func82, Tryd.ntmps82
    go_wp2
    go_quiet ((go_at_call 83; exact Calls.quiet_of_same (HC _)))
    clear HC
    go_wp2_with (go_at_call 59; refine (HG _).mono ?_)
    rintro e w3 ⟨rfl, rfl⟩
    go_wp2
    exact ⟨rfl, (Oth.refl _ _).drewN _, rfl, h⟩
  · simp only [if_neg c1]
    have q1 : ((k : Int) == 0) = false := by simp; omega
    clear c1
    go_enter Tryd.func82, Tryd.ntmps82
    go_wp2
    go_quiet ((go_at_call 83; exact Calls.quiet_of_same (HC _)))
    clear HC
    go_wp2
    go_ret
    refine ⟨((Oth.refl _ _).drewN _).set _ _, rfl, ?_⟩
    have := set_blk (w := w.drewN nq) h 1 (.int .i64 ((p : Int) + (k : Int)))
    show _ = _
    rw [Int.natCast_add]
    simpa using this

theorem blk_drew {w : World} (n : Nat) : Below w.heap.size w (w.drewN n) := ⟨rfl, rfl, rfl, Nat.le_refl _, fun k hk => rfl⟩

theorem number_any (w : World) (b : Nat) (a : Option Addr) (len cap p most : Nat) (l : List UInt8) (h : RdB w b a len cap p) (hr : BRow w a len cap l) (hp : p ≤ len) (hm : len ≤ 140737488355328) (hcap : len ≤ cap) (hcap2 : cap ≤ 9223372036854775807) (hmo : most ≤ 9223372036854775807) :
    Calls Tryd.prog 56 #[rptr b, .int .i64 (most : Int)] w fun e w' => Oth b w w' ∧
      (if (getN 0 0 (l.drop p)).2 = 0 ∨ most < (getN 0 0 (l.drop p)).1 then e = gaveUp p ∧ RdB w' b a len cap p
       else e = .returned (.int .i64 ((getN 0 0 (l.drop p)).1 : Int)) ∧ RdB w' b a len cap (p + (getN 0 0 (l.drop p)).2)) := by
  have hl := hr.1
  have hbd := getN_bound (l.drop p) 0 0 (by omega) (by simp)
  rw [List.length_drop] at hbd
  obtain ⟨a', ha', hr'⟩ := hr.from p hp hcap
  have HC := fun n => rdnum_any a' (len - p) (cap - p) (l.drop p) (w.drewN n) (hr'.below (blk_drew n)) (by unfold maxLen; omega)
  have h64 : (getN 0 0 (l.drop p)).1 < 18446744073709551616 := hbd.1
  by_cases q5 : cap = p
  · have e1 : len = p := by omega
    subst e1
    subst q5
    rw [if_pos (by omega)] at ha'
    subst ha'
    rw [Nat.sub_self] at HC
    cases a with
    | none => exact number_none w b cap most _ _ h (by omega) hmo h64 HC (by omega)
    | some x => exact number_full w b x cap most _ _ h (by omega) hmo h64 HC (by omega)
  · rw [if_neg (by omega)] at ha'
    cases a with
    | none =>
      rcases hr.2 with ⟨_, h2, h3⟩ | ⟨x, h2, _⟩
      · omega
      · cases h2
    | some x =>
      subst ha'
      exact number_some w b x len cap p most _ _ h hp hcap q5 hm hcap2 hmo h64 HC (by omega)

theorem text_any (w : World) (b : Nat) (a : Option Addr) (len cap p most : Nat) (l : List UInt8) (h : RdB w b a len cap p) (hr : BRow w a len cap l) (hp : p ≤ len) (hm : len ≤ 140737488355328) (hcap : len ≤ cap) (hcap2 : cap ≤ 9223372036854775807) (hmo : most ≤ 9223372036854775807) :
    Calls Tryd.prog 82 #[rptr b, .int .i64 (most : Int)] w fun e w' => Oth b w w' ∧
      (if (getT (l.drop p) (most : Int)).2 = 0 then e = gaveUp p ∧ RdB w' b a len cap p
       else e = .returned (.string ⟨(getT (l.drop p) (most : Int)).1.toArray⟩) ∧ RdB w' b a len cap (p + (getT (l.drop p) (most : Int)).2)) := by
  have hl := hr.1
  obtain ⟨a', ha', hr'⟩ := hr.from p hp hcap
  have HC := fun n => rdtext_any a' (len - p) (cap - p) (l.drop p) (most : Int) (w.drewN n) (hr'.below (blk_drew n)) (by omega) (by omega) (by omega) (by omega)
  have hbd := getT_len (l.drop p) (most : Int)
  rw [List.length_drop] at hbd
  by_cases q5 : cap = p
  · have e1 : len = p := by omega
    subst e1
    subst q5
    rw [if_pos (by omega)] at ha'
    subst ha'
    rw [Nat.sub_self] at HC
    cases a with
    | none => exact text_none w b cap most _ h (by omega) hmo _ HC (by omega)
    | some x => exact text_full w b x cap most _ h (by omega) hmo _ HC (by omega)
  · rw [if_neg (by omega)] at ha'
    cases a with
    | none =>
      rcases hr.2 with ⟨_, h2, h3⟩ | ⟨x, h2, _⟩
      · omega
      · cases h2
    | some x =>
      subst ha'
      exact text_some w b x len cap p most _ h hp hcap q5 hm hcap2 hmo _ HC (by omega)
end Go.Proofs.YtmlihlnigojmpaaDoor
