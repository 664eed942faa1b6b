/- shown, walked. -/
import Derived.Test.YtmkgaegodemglaaDApp
import Derived.Lib.SlBytesConst
set_option linter.unusedVariables false
namespace Go.Proofs.Ytmkgaegodemglaa
open Go.RowKit

/-- A disk of a law's own: what lies below is as it was. -/
structure Lv (w0 w : World) (b m : Nat) (S : Nat → Prop) (d : Dk) : Prop where
  dk : ∃ sl, DkW w b m S sl none d
  ge : ∀ k, S k → w0.heap.size ≤ k
  below : Below w0.heap.size w0 w

theorem Lv.step {w0 w w' : World} {b m : Nat} {S : Nat → Prop} {d d' : Dk} (h : Lv w0 w b m S d) (hd : DidS w b m S d' w') : ∃ S', Lv w0 w' b m S' d' ∧ Fr S w w' ∧ ∀ k, S' k → S k ∨ w.heap.size ≤ k := by
  obtain ⟨S', sl, h1, h2, h3⟩ := hd
  refine ⟨S', ⟨⟨sl, h1⟩, fun k hk => ?_, h.below.trans (h2.below h.ge h.below.size)⟩, h2, h3⟩
  rcases h3 k hk with hk | hk
  · exact h.ge k hk
  · exact Nat.le_trans h.below.size hk
theorem Lv.same {w0 w w' : World} {b m : Nat} {S : Nat → Prop} {d : Dk} (h : Lv w0 w b m S d) (hb : Below w.heap.size w w') : Lv w0 w' b m S d := by
  obtain ⟨sl, h1⟩ := h.dk
  exact ⟨⟨sl, h1.below hb⟩, h.ge, h.below.trans (hb.mono h.below.size)⟩
theorem Lv.new {w0 w w' : World} {d : Dk} (hb0 : Below w0.heap.size w0 w) (h : DkW w' (w.heap.size + 1) w.heap.size (fun k => k = w.heap.size ∨ k = w.heap.size + 1) (fun _ => .slice none 0 0) none d) (hb : Below w.heap.size w w') : Lv w0 w' (w.heap.size + 1) w.heap.size (fun k => k = w.heap.size ∨ k = w.heap.size + 1) d :=
  ⟨⟨_, h⟩, fun k hk => by have := hb0.size; rcases hk with rfl | rfl <;> omega, hb0.trans (hb.mono hb0.size)⟩

/-- A row that is no file's stays. -/
structure Kp (w : World) (S : Nat → Prop) (v : Value) (l : List UInt8) : Prop where
  own : OwnB w 0 v l
  out : ∀ g, v.ownBlock = some g → ¬ S g
theorem Kp.step {w w' : World} {S S' : Nat → Prop} {v : Value} {l : List UInt8} (h : Kp w S v l) (hf : Fr S w w') (hs : ∀ k, S' k → S k ∨ w.heap.size ≤ k) : Kp w' S' v l := by
  refine ⟨ownB_keep h.own (fun g hg => ?_), fun g hg hS => ?_⟩
  · obtain ⟨cur, hc⟩ := ownB_block h.own hg
    exact hf.block g (lt_blk hc) (h.out g hg)
  · obtain ⟨cur, hc⟩ := ownB_block h.own hg
    have := lt_blk hc
    rcases hs g hS with h1 | h1
    · exact h.out g hg h1
    · omega
theorem Kp.same {w w' : World} {S : Nat → Prop} {v : Value} {l : List UInt8} (h : Kp w S v l) (hb : Below w.heap.size w w') : Kp w' S v l := ⟨own_below2 h.own hb, h.out⟩
theorem Kp.new {w w' : World} {S : Nat → Prop} {v : Value} {l : List UInt8} (h : OwnB w' w.heap.size v l) (hS : ∀ k, S k → k < w.heap.size) : Kp w' S v l := by
  refine ⟨ownB_lower h, fun g hg hs => ?_⟩
  rcases h.2 with ⟨rfl, _⟩ | ⟨g', cap, cur, rfl, hB, _⟩
  · cases hg
  · simp [Value.ownBlock] at hg
    subst hg
    have := hS _ hs
    omega

/-- Bytes that a literal has just laid. -/
theorem brow_lit (w : World) (l : List UInt8) (cs : List Value) (hc : cs = Lib.byteCells l) (n c : Nat) (hn : l.length = n) : BRow (w.alloc (.cells cs.toArray 5)) (some ⟨w.heap.size, 0, none⟩) n c l := by
  refine ⟨hn, .inr ⟨_, rfl, fun j hj => ?_⟩⟩
  refine lit_cells w cs 5 j _ ?_
  rw [hc]
  simp [Lib.byteCells, hj]

/-- From one world to the next. -/
def St (w : World) (S : Nat → Prop) (w' : World) (S' : Nat → Prop) : Prop := Fr S w w' ∧ ∀ k, S' k → S k ∨ w.heap.size ≤ k
theorem Kp.st {w w' : World} {S S' : Nat → Prop} {v : Value} {l : List UInt8} (h : Kp w S v l) (hs : St w S w' S') : Kp w' S' v l := h.step hs.1 hs.2

theorem newL {w0 w : World} (hb : Below w0.heap.size w0 w) (room : Int) (hr : room ≤ 9223372036854775807) :
    Calls Try.prog 10 #[.int .i64 room] w fun e w' => ∃ b m S, e = .returned (dptr b) ∧ Lv w0 w' b m S (newD room) := by
  refine (new_any room hr w).mono ?_
  rintro e w' ⟨rfl, h1, h2⟩
  exact ⟨_, _, _, rfl, Lv.new hb h1 h2⟩
theorem appendL {w0 w : World} {b m : Nat} {S : Nat → Prop} {d : Dk} (h : Lv w0 w b m S d) (n : Nm) (hn : n.length ≤ 140737488355328) {a : Option Addr} {len cap : Nat} {l : List UInt8} (hrow : BRow w a len cap l) (hsm : usedL d.files + l.length ≤ 1099511627776) (hfew : d.files.length + 1 ≤ 1048576) :
    Calls Try.prog 14 #[dptr b, strN n, .slice a len cap] w fun e w' => e = .returned (.int .i64 ((appendP d n l).1 : Int)) ∧ ∃ S', Lv w0 w' b m S' (appendP d n l).2 ∧ St w S w' S' := by
  obtain ⟨sl, hd⟩ := h.dk
  refine (append_any hd n hn hrow hsm hfew).mono ?_
  rintro e w' ⟨rfl, h1⟩
  obtain ⟨S', h2, h3, h4⟩ := h.step h1
  exact ⟨rfl, S', h2, h3, h4⟩
theorem didL {w0 w w' : World} {b m : Nat} {S : Nat → Prop} {d d' : Dk} (h : Lv w0 w b m S d) (h1 : Did w b m S d' w') : Lv w0 w' b m S d' ∧ St w S w' S := by
  obtain ⟨⟨sl, h2⟩, h3⟩ := h1
  exact ⟨⟨⟨sl, h2⟩, h.ge, h.below.trans (h3.below h.ge h.below.size)⟩, h3, fun k hk => .inl hk⟩
theorem syncL {w0 w : World} {b m : Nat} {S : Nat → Prop} {d : Dk} (h : Lv w0 w b m S d) (n : Nm) (hn : n.length ≤ 140737488355328) :
    Calls Try.prog 15 #[dptr b, strN n] w fun e w' => e = .returned (.int .i64 ((syncP d n).1 : Int)) ∧ Lv w0 w' b m S (syncP d n).2 ∧ St w S w' S := by
  obtain ⟨sl, hd⟩ := h.dk
  refine (sync_any hd n hn).mono ?_
  rintro e w' ⟨rfl, h1⟩
  exact ⟨rfl, didL h h1⟩
theorem removeL {w0 w : World} {b m : Nat} {S : Nat → Prop} {d : Dk} (h : Lv w0 w b m S d) (n : Nm) (hn : n.length ≤ 140737488355328) :
    Calls Try.prog 25 #[dptr b, strN n] w fun e w' => e = .returned (.int .i64 ((removeP d n).1 : Int)) ∧ Lv w0 w' b m S (removeP d n).2 ∧ St w S w' S := by
  obtain ⟨sl, hd⟩ := h.dk
  refine (remove_any hd n hn).mono ?_
  rintro e w' ⟨rfl, h1⟩
  exact ⟨rfl, didL h h1⟩
theorem cutL {w0 w : World} {b m : Nat} {S : Nat → Prop} {d : Dk} (h : Lv w0 w b m S d) (n : Nm) (hn : n.length ≤ 140737488355328) (k : Int) (hk : -9223372036854775808 ≤ k ∧ k ≤ 9223372036854775807) :
    Calls Try.prog 23 #[dptr b, strN n, .int .i64 k] w fun e w' => e = .returned (.int .i64 ((cutP d n k).1 : Int)) ∧ Lv w0 w' b m S (cutP d n k).2 ∧ St w S w' S := by
  obtain ⟨sl, hd⟩ := h.dk
  refine (cut_any hd n hn k hk).mono ?_
  rintro e w' ⟨rfl, h1⟩
  exact ⟨rfl, didL h h1⟩
theorem renameL {w0 w : World} {b m : Nat} {S : Nat → Prop} {d : Dk} (h : Lv w0 w b m S d) (n : Nm) (hn : n.length ≤ 140737488355328) (to : Nm) (hto : to.length ≤ 140737488355328) :
    Calls Try.prog 22 #[dptr b, strN n, strN to] w fun e w' => e = .returned (.int .i64 ((renameP d n to).1 : Int)) ∧ Lv w0 w' b m S (renameP d n to).2 ∧ St w S w' S := by
  obtain ⟨sl, hd⟩ := h.dk
  refine (rename_any hd n hn to hto).mono ?_
  rintro e w' ⟨rfl, h1⟩
  exact ⟨rfl, didL h h1⟩
theorem crashL {w0 w : World} {b m : Nat} {S : Nat → Prop} {d : Dk} (h : Lv w0 w b m S d) (keep : Nat) (hk : keep < 18446744073709551616) :
    Calls Try.prog 16 #[dptr b, .int .u64 (keep : Int)] w fun e w' => e = .returned (.tuple #[]) ∧ Lv w0 w' b m S (crashD d keep) ∧ St w S w' S := by
  obtain ⟨sl, hd⟩ := h.dk
  refine (crash_any hd keep hk).mono ?_
  rintro e w' ⟨rfl, h1⟩
  exact ⟨rfl, didL h h1⟩
theorem startL {w0 w : World} {b m : Nat} {S : Nat → Prop} {d : Dk} (h : Lv w0 w b m S d) :
    Calls Try.prog 18 #[dptr b] w fun e w' => e = .returned (.tuple #[]) ∧ Lv w0 w' b m S (startD d) ∧ St w S w' S := by
  obtain ⟨sl, hd⟩ := h.dk
  refine (start_any hd).mono ?_
  rintro e w' ⟨rfl, h1, h2⟩
  exact ⟨rfl, didL h ⟨⟨sl, h1⟩, h2⟩⟩
theorem armL {w0 w : World} {b m : Nat} {S : Nat → Prop} {d : Dk} (h : Lv w0 w b m S d) (after : Int) (ha : -9223372036854775808 ≤ after ∧ after ≤ 9223372036854775807) (keep : Nat) (hk : keep < 18446744073709551616) :
    Calls Try.prog 21 #[dptr b, .int .i64 after, .int .u64 (keep : Int)] w fun e w' => e = .returned (.tuple #[]) ∧ Lv w0 w' b m S (armD d after keep) ∧ St w S w' S := by
  obtain ⟨sl, hd⟩ := h.dk
  refine (arm_any hd after ha keep hk).mono ?_
  rintro e w' ⟨rfl, h1, h2⟩
  exact ⟨rfl, didL h ⟨⟨sl, h1⟩, h2⟩⟩
theorem readL {w0 w : World} {b m : Nat} {S : Nat → Prop} {d : Dk} (h : Lv w0 w b m S d) (n : Nm) (hn : n.length ≤ 140737488355328) :
    Calls Try.prog 17 #[dptr b, strN n] w fun e w' => ∃ a c, e = .returned (.tuple #[.slice a (theF d n).bs.length c, .int .i64 (findV d n : Int)]) ∧ Kp w' S (.slice a (theF d n).bs.length c) (theF d n).bs ∧ Lv w0 w' b m S d ∧ St w S w' S := by
  obtain ⟨sl, hd⟩ := h.dk
  refine (read_any hd n hn).mono ?_
  rintro e w' ⟨v, rfl, h1, h2⟩
  obtain ⟨a, c, rfl⟩ := own_slice h1
  exact ⟨a, c, rfl, Kp.new h1 hd.lt, h.same h2, Fr.of_below S h2, fun k hk => .inl hk⟩
theorem upL {w0 w : World} {b m : Nat} {S : Nat → Prop} {d : Dk} (h : Lv w0 w b m S d) : Calls Try.prog 26 #[dptr b] w fun e w' => e = .returned (.bool d.up) ∧ w' = w := by
  obtain ⟨sl, hd⟩ := h.dk
  exact up_any hd
theorem fallsL {w0 w : World} {b m : Nat} {S : Nat → Prop} {d : Dk} (h : Lv w0 w b m S d) : Calls Try.prog 20 #[dptr b] w fun e w' => e = .returned (.int .i64 d.falls) ∧ w' = w := by
  obtain ⟨sl, hd⟩ := h.dk
  exact falls_any hd
theorem usedLv {w0 w : World} {b m : Nat} {S : Nat → Prop} {d : Dk} (h : Lv w0 w b m S d) : Calls Try.prog 24 #[dptr b] w fun e w' => e = .returned (.int .i64 (if d.up = true then (usedL d.files : Int) else 0)) ∧ w' = w := by
  obtain ⟨sl, hd⟩ := h.dk
  exact used_any hd
theorem Lv.alloc {w0 w : World} {b m : Nat} {S : Nat → Prop} {d : Dk} (h : Lv w0 w b m S d) (o : Obj) : Lv w0 (w.alloc o) b m S d := h.same ((Below.refl _ _).alloc (Nat.le_refl _) _)

theorem conv_mark (w : World) (C : Array Value) (n c : Nat) : (convert 29 29 (.slice (some ⟨w.heap.size, 0, none⟩) n c)).run Try.prog (w.alloc (.cells C 5)) = .ok (.slice (some ⟨w.heap.size, 0, none⟩) n c) (w.alloc (.cells C 5 (C.size, C.size + 1))) :=
  Lib.run_convert_bytes_const w 29 5 C n c Try.underlying29 Try.underlying5
theorem brow_mark (w : World) (l : List UInt8) (C : Array Value) (mk : Nat × Nat) (hc : C = (Lib.byteCells l).toArray) (n c : Nat) (hn : l.length = n) : BRow (w.alloc (.cells C 5 mk)) (some ⟨w.heap.size, 0, none⟩) n c l := by
  refine ⟨hn, .inr ⟨_, rfl, fun j hj => ?_⟩⟩
  have hadd : (⟨w.heap.size, 0, none⟩ : Addr).add j = ⟨w.heap.size, j, none⟩ := by unfold Addr.add; split <;> simp_all
  rw [hadd, hc]
  simp [World.cell?, World.alloc, Lib.byteCells, hj, -World.alloc_eq]

def sD1 : Dk := (appendP (newD 10) [97] [120, 121, 122]).2
def sD2 : Dk := (syncP sD1 [97]).2
def sD3 : Dk := (appendP sD2 [97] [117, 118, 119]).2
def sD4 : Dk := crashD sD3 2
def sD5 : Dk := startD sD4

set_option maxHeartbeats 4000000 in
set_option maxRecDepth 20000 in
theorem shown_any (w : World) : Calls Try.prog 9 #[] w fun e w' => e = .returned (.bool true) ∧ Below w.heap.size w w' := by
  have cv := conv_mark
  have q1 : Hid ((appendP (newD 10) [97] [120, 121, 122]).1 = 0) := by show _ = _; decide
  have q2 : Hid ((syncP sD1 [97]).1 = 0) := by show _ = _; decide
  have q3 : Hid ((appendP sD2 [97] [117, 118, 119]).1 = 0) := by show _ = _; decide
  have q4 : Hid (sD4.up = false) := by show _ = _; decide
  have q5 : Hid (findV sD5 [97] = 0 ∧ (theF sD5 [97]).bs = [120, 121, 122, 117, 118]) := by constructor <;> decide
  have q6 : Hid ((appendP sD5 [98] [49, 50, 51, 52, 53, 54]).1 = 14) := by show _ = _; decide
  go_enter Try.func9, Try.ntmps9
  go_wp2_with (fail)
  refine (newL (Below.refl _ w) 10 (by omega)).mono ?_
  rintro e w1 ⟨b, m, S1, rfl, hL⟩
  have L1 : Hid (Lv w w1 b m S1 (newD 10)) := hL
  clear hL
  go_wp2_with (fail)
  refine (appendL (L1.out.alloc _) [97] (by decide) (brow_mark w1 [120, 121, 122] _ _ rfl 3 3 rfl) (by decide) (by decide)).mono ?_
  rintro e w2 ⟨rfl, S2, hL, _⟩
  have L2 : Hid (Lv w w2 b m S2 sD1) := hL
  rw [q1.out]
  clear hL
  go_wp2_with (fail)
  refine (syncL L2.out [97] (by decide)).mono ?_
  rintro e w3 ⟨rfl, hL, _⟩
  have L3 : Hid (Lv w w3 b m S2 sD2) := hL
  rw [q2.out]
  clear hL
  go_wp2_with (fail)
  refine (appendL (L3.out.alloc _) [97] (by decide) (brow_mark w3 [117, 118, 119] _ _ rfl 3 3 rfl) (by decide) (by decide)).mono ?_
  rintro e w4 ⟨rfl, S4, hL, _⟩
  have L4 : Hid (Lv w w4 b m S4 sD3) := hL
  rw [q3.out]
  clear hL
  go_wp2_with (fail)
  refine (crashL L4.out 2 (by decide)).mono ?_
  rintro e w5 ⟨rfl, hL, _⟩
  have L5 : Hid (Lv w w5 b m S4 sD4) := hL
  clear hL
  go_wp2_with (fail)
  refine (upL L5.out).mono ?_
  rintro e w6 ⟨rfl, hw⟩
  subst w6
  rw [q4.out]
  go_wp2_with (fail)
  refine (startL L5.out).mono ?_
  rintro e w7 ⟨rfl, hL, _⟩
  have L7 : Hid (Lv w w7 b m S4 sD5) := hL
  clear hL
  go_wp2_with (fail)
  refine (readL L7.out [97] (by decide)).mono ?_
  rintro e w8 ⟨a8, c8, rfl, hK, hL, _⟩
  rw [q5.out.2] at hK
  rw [q5.out.1, q5.out.2]
  have L8 : Hid (Lv w w8 b m S4 sD5) := hL
  have e8 : (convert 29 9 (.slice a8 5 c8)).run Try.prog w8 = .ok (.string ⟨#[120, 121, 122, 117, 118]⟩) w8 := own_string hK.own
  clear hL hK
  go_wp2_with (fail)
  refine (appendL (L8.out.alloc _) [98] (by decide) (brow_mark w8 [49, 50, 51, 52, 53, 54] _ _ rfl 6 6 rfl) (by decide) (by decide)).mono ?_
  rintro e w9 ⟨rfl, S9, hL, _⟩
  have L9 : Hid (Below w.heap.size w w9) := hL.below
  rw [q6.out]
  clear hL
  go_wp2_with (fail)
  go_ret
  exact ⟨rfl, L9.out⟩
end Go.Proofs.Ytmkgaegodemglaa
