/- shown, walked. -/
import Derived.Test.YtoaabghignilfaaGreatDoorDApp
import Derived.Lib.SlBytesConst
set_option linter.unusedVariables false
namespace Go.Proofs.YtoaabghignilfaaGreatDoor
open Go.RowKit

/-- A disk of a law's own: what lies below is as it was. -/
structure Lv (w0 w : World) (b m : Nat) (S : Nat → Prop) (d : Dk) : Prop where
  dk : ∃ sl, DkW w b m S sl none d
  ge : ∀ k, S k → w0.heap.size ≤ k
  below : Below w0.heap.size w0 w

theorem Lv.step {w0 w w' : World} {b m : Nat} {S : Nat → Prop} {d d' : Dk} (h : Lv w0 w b m S d) (hd : DidS w b m S d' w') : ∃ S', Lv w0 w' b m S' d' ∧ Fr S w w' ∧ ∀ k, S' k → S k ∨ w.heap.size ≤ k := by
  obtain ⟨S', sl, h1, h2, h3⟩ := hd
  refine ⟨S', ⟨⟨sl, h1⟩, fun k hk => ?_, h.below.trans (h2.below h.ge h.below.size)⟩, h2, h3⟩
  rcases h3 k hk with hk | hk
  · exact h.ge k hk
  · exact Nat.le_trans h.below.size hk
theorem Lv.same {w0 w w' : World} {b m : Nat} {S : Nat → Prop} {d : Dk} (h : Lv w0 w b m S d) (hb : Below w.heap.size w w') : Lv w0 w' b m S d := by
  obtain ⟨sl, h1⟩ := h.dk
  exact ⟨⟨sl, h1.below hb⟩, h.ge, h.below.trans (hb.mono h.below.size)⟩
theorem Lv.new {w0 w w' : World} {d : Dk} (hb0 : Below w0.heap.size w0 w) (h : DkW w' (w.heap.size + 1) w.heap.size (fun k => k = w.heap.size ∨ k = w.heap.size + 1) (fun _ => .slice none 0 0) none d) (hb : Below w.heap.size w w') : Lv w0 w' (w.heap.size + 1) w.heap.size (fun k => k = w.heap.size ∨ k = w.heap.size + 1) d :=
  ⟨⟨_, h⟩, fun k hk => by have := hb0.size; rcases hk with rfl | rfl <;> omega, hb0.trans (hb.mono hb0.size)⟩

/-- A row that is no file's stays. -/
structure Kp (w : World) (S : Nat → Prop) (v : Value) (l : List UInt8) : Prop where
  own : OwnB w 0 v l
  out : ∀ g, v.ownBlock = some g → ¬ S g
theorem Kp.step {w w' : World} {S S' : Nat → Prop} {v : Value} {l : List UInt8} (h : Kp w S v l) (hf : Fr S w w') (hs : ∀ k, S' k → S k ∨ w.heap.size ≤ k) : Kp w' S' v l := by
  refine ⟨ownB_keep h.own (fun g hg => ?_), fun g hg hS => ?_⟩
  · obtain ⟨cur, hc⟩ := ownB_block h.own hg
    exact hf.block g (lt_blk hc) (h.out g hg)
  · obtain ⟨cur, hc⟩ := ownB_block h.own hg
    have := lt_blk hc
    rcases hs g hS with h1 | h1
    · exact h.out g hg h1
    · omega
theorem Kp.same {w w' : World} {S : Nat → Prop} {v : Value} {l : List UInt8} (h : Kp w S v l) (hb : Below w.heap.size w w') : Kp w' S v l := ⟨own_below2 h.own hb, h.out⟩
theorem Kp.new {w w' : World} {S : Nat → Prop} {v : Value} {l : List UInt8} (h : OwnB w' w.heap.size v l) (hS : ∀ k, S k → k < w.heap.size) : Kp w' S v l := by
  refine ⟨ownB_lower h, fun g hg hs => ?_⟩
  rcases h.2 with ⟨rfl, _⟩ | ⟨g', cap, cur, rfl, hB, _⟩
  · cases hg
  · simp [Value.ownBlock] at hg
    subst hg
    have := hS _ hs
    omega

/-- Bytes that a literal has just laid. -/
theorem brow_lit (w : World) (l : List UInt8) (cs : List Value) (hc : cs = Lib.byteCells l) (n c : Nat) (hn : l.length = n) : BRow (w.alloc (.cells cs.toArray 5)) (some ⟨w.heap.size, 0, none⟩) n c l := by
  refine ⟨hn, .inr ⟨_, rfl, fun j hj => ?_⟩⟩
  refine lit_cells w cs 5 j _ ?_
  rw [hc]
  simp [Lib.byteCells, hj]

/-- From one world to the next. -/
def St (w : World) (S : Nat → Prop) (w' : World) (S' : Nat → Prop) : Prop := Fr S w w' ∧ ∀ k, S' k → S k ∨ w.heap.size ≤ k
theorem Kp.st {w w' : World} {S S' : Nat → Prop} {v : Value} {l : List UInt8} (h : Kp w S v l) (hs : St w S w' S') : Kp w' S' v l := h.step hs.1 hs.2

theorem newL {w0 w : World} (hb : Below w0.heap.size w0 w) (room : Int) (hr : room ≤ 9223372036854775807) :
    Calls Tryz.prog 10 #[.int .i64 room] w fun e w' => ∃ b m S, e = .returned (dptr b) ∧ Lv w0 w' b m S (newD room) := by
  refine (new_any room hr w).mono ?_
  rintro e w' ⟨rfl, h1, h2⟩
  exact ⟨_, _, _, rfl, Lv.new hb h1 h2⟩
theorem appendL {w0 w : World} {b m : Nat} {S : Nat → Prop} {d : Dk} (h : Lv w0 w b m S d) (n : Nm) (hn : n.length ≤ 140737488355328) {a : Option Addr} {len cap : Nat} {l : List UInt8} (hrow : BRow w a len cap l) (hsm : usedL d.files + l.length ≤ 1099511627776) (hfew : d.files.length + 1 ≤ 1048576) :
    Calls Tryz.prog 28 #[dptr b, strN n, .slice a len cap] w fun e w' => e = .returned (.int .i64 ((appendP d n l).1 : Int)) ∧ ∃ S', Lv w0 w' b m S' (appendP d n l).2 ∧ St w S w' S' := by
  obtain ⟨sl, hd⟩ := h.dk
  refine (append_any hd n hn hrow hsm hfew).mono ?_
  rintro e w' ⟨rfl, h1⟩
  obtain ⟨S', h2, h3, h4⟩ := h.step h1
  exact ⟨rfl, S', h2, h3, h4⟩
theorem didL {w0 w w' : World} {b m : Nat} {S : Nat → Prop} {d d' : Dk} (h : Lv w0 w b m S d) (h1 : Did w b m S d' w') : Lv w0 w' b m S d' ∧ St w S w' S := by
  obtain ⟨⟨sl, h2⟩, h3⟩ := h1
  exact ⟨⟨⟨sl, h2⟩, h.ge, h.below.trans (h3.below h.ge h.below.size)⟩, h3, fun k hk => .inl hk⟩
theorem syncL {w0 w : World} {b m : Nat} {S : Nat → Prop} {d : Dk} (h : Lv w0 w b m S d) (n : Nm) (hn : n.length ≤ 140737488355328) :
    Calls Tryz.prog 57 #[dptr b, strN n] w fun e w' => e = .returned (.int .i64 ((syncP d n).1 : Int)) ∧ Lv w0 w' b m S (syncP d n).2 ∧ St w S w' S := by
  obtain ⟨sl, hd⟩ := h.dk
  refine (sync_any hd n hn).mono ?_
  rintro e w' ⟨rfl, h1⟩
  exact ⟨rfl, didL h h1⟩
theorem removeL {w0 w : World} {b m : Nat} {S : Nat → Prop} {d : Dk} (h : Lv w0 w b m S d) (n : Nm) (hn : n.length ≤ 140737488355328) :
    Calls Tryz.prog 68 #[dptr b, strN n] w fun e w' => e = .returned (.int .i64 ((removeP d n).1 : Int)) ∧ Lv w0 w' b m S (removeP d n).2 ∧ St w S w' S := by
  obtain ⟨sl, hd⟩ := h.dk
  refine (remove_any hd n hn).mono ?_
  rintro e w' ⟨rfl, h1⟩
  exact ⟨rfl, didL h h1⟩
theorem cutL {w0 w : World} {b m : Nat} {S : Nat → Prop} {d : Dk} (h : Lv w0 w b m S d) (n : Nm) (hn : n.length ≤ 140737488355328) (k : Int) (hk : -9223372036854775808 ≤ k ∧ k ≤ 9223372036854775807) :
    Calls Tryz.prog 27 #[dptr b, strN n, .int .i64 k] w fun e w' => e = .returned (.int .i64 ((cutP d n k).1 : Int)) ∧ Lv w0 w' b m S (cutP d n k).2 ∧ St w S w' S := by
  obtain ⟨sl, hd⟩ := h.dk
  refine (cut_any hd n hn k hk).mono ?_
  rintro e w' ⟨rfl, h1⟩
  exact ⟨rfl, didL h h1⟩
theorem crashL {w0 w : World} {b m : Nat} {S : Nat → Prop} {d : Dk} (h : Lv w0 w b m S d) (keep : Nat) (hk : keep < 18446744073709551616) :
    Calls Tryz.prog 34 #[dptr b, .int .u64 (keep : Int)] w fun e w' => e = .returned (.tuple #[]) ∧ Lv w0 w' b m S (crashD d keep) ∧ St w S w' S := by
  obtain ⟨sl, hd⟩ := h.dk
  refine (crash_any hd keep hk).mono ?_
  rintro e w' ⟨rfl, h1⟩
  exact ⟨rfl, didL h h1⟩
theorem startL {w0 w : World} {b m : Nat} {S : Nat → Prop} {d : Dk} (h : Lv w0 w b m S d) :
    Calls Tryz.prog 21 #[dptr b] w fun e w' => e = .returned (.tuple #[]) ∧ Lv w0 w' b m S (startD d) ∧ St w S w' S := by
  obtain ⟨sl, hd⟩ := h.dk
  refine (start_any hd).mono ?_
  rintro e w' ⟨rfl, h1, h2⟩
  exact ⟨rfl, didL h ⟨⟨sl, h1⟩, h2⟩⟩
theorem armL {w0 w : World} {b m : Nat} {S : Nat → Prop} {d : Dk} (h : Lv w0 w b m S d) (after : Int) (ha : -9223372036854775808 ≤ after ∧ after ≤ 9223372036854775807) (keep : Nat) (hk : keep < 18446744073709551616) :
    Calls Tryz.prog 17 #[dptr b, .int .i64 after, .int .u64 (keep : Int)] w fun e w' => e = .returned (.tuple #[]) ∧ Lv w0 w' b m S (armD d after keep) ∧ St w S w' S := by
  obtain ⟨sl, hd⟩ := h.dk
  refine (arm_any hd after ha keep hk).mono ?_
  rintro e w' ⟨rfl, h1, h2⟩
  exact ⟨rfl, didL h ⟨⟨sl, h1⟩, h2⟩⟩
theorem readL {w0 w : World} {b m : Nat} {S : Nat → Prop} {d : Dk} (h : Lv w0 w b m S d) (n : Nm) (hn : n.length ≤ 140737488355328) :
    Calls Tryz.prog 26 #[dptr b, strN n] w fun e w' => ∃ a c, e = .returned (.tuple #[.slice a (theF d n).bs.length c, .int .i64 (findV d n : Int)]) ∧ Kp w' S (.slice a (theF d n).bs.length c) (theF d n).bs ∧ Lv w0 w' b m S d ∧ St w S w' S := by
  obtain ⟨sl, hd⟩ := h.dk
  refine (read_any hd n hn).mono ?_
  rintro e w' ⟨v, rfl, h1, h2⟩
  obtain ⟨a, c, rfl⟩ := own_slice h1
  exact ⟨a, c, rfl, Kp.new h1 hd.lt, h.same h2, Fr.of_below S h2, fun k hk => .inl hk⟩
theorem upL {w0 w : World} {b m : Nat} {S : Nat → Prop} {d : Dk} (h : Lv w0 w b m S d) : Calls Tryz.prog 20 #[dptr b] w fun e w' => e = .returned (.bool d.up) ∧ w' = w := by
  obtain ⟨sl, hd⟩ := h.dk
  exact up_any hd
theorem Lv.alloc {w0 w : World} {b m : Nat} {S : Nat → Prop} {d : Dk} (h : Lv w0 w b m S d) (o : Obj) : Lv w0 (w.alloc o) b m S d := h.same ((Below.refl _ _).alloc (Nat.le_refl _) _)

theorem conv_mark (w : World) (C : Array Value) (n c : Nat) : (convert 34 34 (.slice (some ⟨w.heap.size, 0, none⟩) n c)).run Tryz.prog (w.alloc (.cells C 5)) = .ok (.slice (some ⟨w.heap.size, 0, none⟩) n c) (w.alloc (.cells C 5 (C.size, C.size + 1))) :=
  Lib.run_convert_bytes_const w 34 5 C n c Tryz.underlying34 Tryz.underlying5
theorem brow_mark (w : World) (l : List UInt8) (C : Array Value) (mk : Nat × Nat) (hc : C = (Lib.byteCells l).toArray) (n c : Nat) (hn : l.length = n) : BRow (w.alloc (.cells C 5 mk)) (some ⟨w.heap.size, 0, none⟩) n c l := by
  refine ⟨hn, .inr ⟨_, rfl, fun j hj => ?_⟩⟩
  have hadd : (⟨w.heap.size, 0, none⟩ : Addr).add j = ⟨w.heap.size, j, none⟩ := by unfold Addr.add; split <;> simp_all
  rw [hadd, hc]
  simp [World.cell?, World.alloc, Lib.byteCells, hj, -World.alloc_eq]

def sD1 : Dk := (appendP (newD 10) [97] [120, 121, 122]).2
def sD2 : Dk := (syncP sD1 [97]).2
def sD3 : Dk := (appendP sD2 [97] [117, 118, 119]).2
def sD4 : Dk := crashD sD3 2
def sD5 : Dk := startD sD4

end Go.Proofs.YtoaabghignilfaaGreatDoor
