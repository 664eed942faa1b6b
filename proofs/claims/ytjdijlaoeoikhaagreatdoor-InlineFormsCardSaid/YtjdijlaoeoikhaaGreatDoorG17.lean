/- Several texts in one. -/
import Derived.Test.YtjdijlaoeoikhaaGreatDoorQFAppend
import Derived.Test.YtjdijlaoeoikhaaGreatDoorG02
import Derived.Laws.IdiomStrings
import Derived.Laws.BytesArg
import Derived.Lib.AppendStr
import Derived.Lib.ConvBytes
set_option linter.unusedVariables false
/- Laws on worlds: a row of bytes that a call owns beside a string's iterator; a row of bytes made into a string. -/
namespace Go.Proofs.YtjdijlaoeoikhaaGreatDoor.run
open Go.RowKit

theorem own_block {w : World} {B : Nat} {e : TypeId} {v : Value} {n : Nat} {xs : List Value} (h : w.ownsRow B e 1 v n xs) : ∀ g, v.ownBlock = some g → ∃ c fz, w.heap[g]? = some (.cells c e fz) := by
  intro g hg
  rcases h.2 with ⟨rfl, _⟩ | ⟨g', cap, cur, rfl, _, hgg, _⟩
  · simp [Value.ownBlock] at hg
  · simp [Value.ownBlock] at hg
    subst hg
    exact ⟨cur, _, hgg⟩

/-- A row stays owned while an iterator moves on. -/
theorem own_iterAt {w : World} {B : Nat} {e : TypeId} {v : Value} {n : Nat} {xs : List Value} (h : w.ownsRow B e 1 v n xs) {K : Nat} {s : ByteArray} {p : Nat} (hK : w.heap[K]? = some (.stringIter s p)) (p' : Nat) : (w.iterAt K s p').ownsRow B e 1 v n xs := by
  refine ⟨h.1, ?_⟩
  rcases h.2 with hn | ⟨g, cap, cur, hv, hb, hgg, rest⟩
  · exact .inl hn
  · have hne : g ≠ K := by
      intro e1; subst e1; rw [hK] at hgg; cases hgg
    exact .inr ⟨g, cap, cur, hv, hb, (Lib.iterAt_other w K g s p' hne).trans hgg, rest⟩

/-- An iterator stands where it stood while a row that a call owns grows. -/
theorem iter_grown {w w' : World} {B : Nat} {e : TypeId} {v : Value} {n : Nat} {xs : List Value} (h : w.ownsRow B e 1 v n xs) {o : Obj} (hg : (w.alloc o).grownBy w' v.ownBlock) {K : Nat} {s : ByteArray} {p : Nat} (hK : w.heap[K]? = some (.stringIter s p)) : w'.heap[K]? = some (.stringIter s p) := by
  have hlt : K < w.heap.size := (Array.getElem?_eq_some_iff.1 hK).1
  rw [hg.block K (by simp; omega) ?_]
  · rw [Below.heap_alloc w o K hlt]; exact hK
  · intro e1
    obtain ⟨c, fz, hc⟩ := own_block h K e1.symm
    rw [hK] at hc; cases hc

/-- What lies below stays while a row that a call owns grows. -/
theorem below_grown {w0 w w' : World} {B : Nat} {e : TypeId} {v : Value} {n : Nat} {xs : List Value} (hb : Below B w0 w) (hB : B ≤ w.heap.size) (h : w.ownsRow B e 1 v n xs) {o : Obj} (hg : (w.alloc o).grownBy w' v.ownBlock) : Below B w0 w' :=
  (hb.alloc hB o).grown hg (by simp; omega) (fun k hk => (h.lt k hk).1)

/-- Bytes that a call owns, made into a string. -/
theorem own_string {w : World} {B : Nat} {v : Value} {l : List UInt8} (h : w.ownsRow B 5 1 v l.length (Lib.byteCells l)) : (convert 47 9 v).run Tryz.prog w = .ok (.string ⟨l.toArray⟩) w := by
  rcases h.2 with ⟨rfl, hn⟩ | ⟨g, cap, cur, rfl, _, hgg, _⟩
  · have : l = [] := List.eq_nil_of_length_eq_zero hn
    subst this
    exact run_convert_bytes_nil w 47 5 Tryz.underlying47 Tryz.underlying5 0 0 9 Tryz.underlying9
  · refine run_convert_bytes_back w 47 9 5 ⟨g, 0, none⟩ cap l Tryz.underlying47 Tryz.underlying5 Tryz.underlying9 ?_
    intro j hj
    refine h.cells (g := g) rfl j _ ?_
    simp [Lib.byteCells, hj]

/-- WHAT IS TOLD OF BYTES THAT COME IN: in every later world they make this string. -/
def BytesIn (w : World) (ao : Option Addr) (len cap : Nat) (l : List UInt8) : Prop :=
  l.length = len ∧ ∀ w1, Below w.heap.size w w1 → (convert 47 9 (.slice ao len cap)).run Tryz.prog w1 = .ok (.string ⟨l.toArray⟩) w1

theorem size_list (l : List UInt8) : (ByteArray.mk l.toArray).size = l.length := by show l.toArray.size = _; simp
theorem list_data (l : List UInt8) : (ByteArray.mk l.toArray).data.toList = l := by simp

end Go.Proofs.YtjdijlaoeoikhaaGreatDoor.run

/- What runes.Clean answers, of any bytes. -/
namespace Go.Proofs.YtjdijlaoeoikhaaGreatDoor.run
open Go.RowKit

theorem drop_ne {l : List UInt8} {p : Nat} (h : p < l.length) : l.drop p ≠ [] := by
  intro e
  have := congrArg List.length e
  simp at this
  omega

theorem enc_cells (r : Nat) : Lib.runeCells (r : Int) = Lib.byteCells (enc r) := (Lib.byteCells_encodeRune (r : Int)).symm

end Go.Proofs.YtjdijlaoeoikhaaGreatDoor.run

/- What appendSmall does: a character's small letter goes in behind what the row holds. -/
namespace Go.Proofs.YtjdijlaoeoikhaaGreatDoor.run
open Go.RowKit

set_option maxHeartbeats 1000000 in
theorem small_a (B : Nat) (v : Value) (n : Nat) (xs : List Value) (r : Int) (h0 : 65 ≤ r) (h1 : r ≤ 90) (w : World) (hown : w.ownsRow B 5 1 v n xs) (hlen : n + 4 ≤ 140737488355328) (hB : B ≤ w.heap.size) :
    Calls Tryz.prog 133 #[v, .int .i32 r] w fun e w' => ∃ v', e = .returned v' ∧ w'.ownsRow B 5 1 v' (n + (Lib.runeCells (r + 32)).length) (xs ++ Lib.runeCells (r + 32)) ∧ ∃ o, (w.alloc o).grownBy w' v.ownBlock := by
  have q1 : (r == 223) = false := by simp; omega
  have q2 : (r == 7838) = false := by simp; omega
  have e0 : inB r 65 90 = true := by simp [inB]; omega
  have e1 : inB r 192 222 = false := by simp [inB]; omega
  have e2 : inB r 913 937 = false := by simp [inB]; omega
  have e3 : inB r 1040 1071 = false := by simp [inB]; omega
  have e4 : inB r 1024 1039 = false := by simp [inB]; omega
  go_enter Tryz.func133, Tryz.ntmps133
  go_wp2_with (first | (go_at_call 96; refine (within_any _ _ _ _).mono ?_; rintro e w' ⟨rfl, rfl⟩) | (go_at_call 148; refine (append_rune B v n xs (r + 32) (by omega) (by omega) _ hown hlen hB).mono ?_))
  rintro e w1 ⟨v', rfl, g1, o, g2⟩
  go_wp2
  go_ret
  exact ⟨_, rfl, g1, o, g2⟩

set_option maxHeartbeats 1000000 in
theorem small_b (B : Nat) (v : Value) (n : Nat) (xs : List Value) (r : Int) (h0 : 192 ≤ r) (h1 : r ≤ 222) (h2 : r ≠ 215) (w : World) (hown : w.ownsRow B 5 1 v n xs) (hlen : n + 4 ≤ 140737488355328) (hB : B ≤ w.heap.size) :
    Calls Tryz.prog 133 #[v, .int .i32 r] w fun e w' => ∃ v', e = .returned v' ∧ w'.ownsRow B 5 1 v' (n + (Lib.runeCells (r + 32)).length) (xs ++ Lib.runeCells (r + 32)) ∧ ∃ o, (w.alloc o).grownBy w' v.ownBlock := by
  have q1 : (r == 223) = false := by simp; omega
  have q2 : (r == 7838) = false := by simp; omega
  have q3 : (r != 215) = true := by simp; omega
  have e0 : inB r 65 90 = false := by simp [inB]; omega
  have e1 : inB r 192 222 = true := by simp [inB]; omega
  have e2 : inB r 913 937 = false := by simp [inB]; omega
  have e3 : inB r 1040 1071 = false := by simp [inB]; omega
  have e4 : inB r 1024 1039 = false := by simp [inB]; omega
  go_enter Tryz.func133, Tryz.ntmps133
  go_wp2_with (first | (go_at_call 96; refine (within_any _ _ _ _).mono ?_; rintro e w' ⟨rfl, rfl⟩) | (go_at_call 148; refine (append_rune B v n xs (r + 32) (by omega) (by omega) _ hown hlen hB).mono ?_))
  rintro e w1 ⟨v', rfl, g1, o, g2⟩
  go_wp2
  go_ret
  exact ⟨_, rfl, g1, o, g2⟩

set_option maxHeartbeats 1000000 in
theorem small_c (B : Nat) (v : Value) (n : Nat) (xs : List Value) (r : Int) (h0 : 913 ≤ r) (h1 : r ≤ 937) (w : World) (hown : w.ownsRow B 5 1 v n xs) (hlen : n + 4 ≤ 140737488355328) (hB : B ≤ w.heap.size) :
    Calls Tryz.prog 133 #[v, .int .i32 r] w fun e w' => ∃ v', e = .returned v' ∧ w'.ownsRow B 5 1 v' (n + (Lib.runeCells (r + 32)).length) (xs ++ Lib.runeCells (r + 32)) ∧ ∃ o, (w.alloc o).grownBy w' v.ownBlock := by
  have q1 : (r == 223) = false := by simp; omega
  have q2 : (r == 7838) = false := by simp; omega
  have e0 : inB r 65 90 = false := by simp [inB]; omega
  have e1 : inB r 192 222 = false := by simp [inB]; omega
  have e2 : inB r 913 937 = true := by simp [inB]; omega
  have e3 : inB r 1040 1071 = false := by simp [inB]; omega
  have e4 : inB r 1024 1039 = false := by simp [inB]; omega
  go_enter Tryz.func133, Tryz.ntmps133
  go_wp2_with (first | (go_at_call 96; refine (within_any _ _ _ _).mono ?_; rintro e w' ⟨rfl, rfl⟩) | (go_at_call 148; refine (append_rune B v n xs (r + 32) (by omega) (by omega) _ hown hlen hB).mono ?_))
  rintro e w1 ⟨v', rfl, g1, o, g2⟩
  go_wp2
  go_ret
  exact ⟨_, rfl, g1, o, g2⟩

set_option maxHeartbeats 1000000 in
theorem small_d (B : Nat) (v : Value) (n : Nat) (xs : List Value) (r : Int) (h0 : 1040 ≤ r) (h1 : r ≤ 1071) (w : World) (hown : w.ownsRow B 5 1 v n xs) (hlen : n + 4 ≤ 140737488355328) (hB : B ≤ w.heap.size) :
    Calls Tryz.prog 133 #[v, .int .i32 r] w fun e w' => ∃ v', e = .returned v' ∧ w'.ownsRow B 5 1 v' (n + (Lib.runeCells (r + 32)).length) (xs ++ Lib.runeCells (r + 32)) ∧ ∃ o, (w.alloc o).grownBy w' v.ownBlock := by
  have q1 : (r == 223) = false := by simp; omega
  have q2 : (r == 7838) = false := by simp; omega
  have e0 : inB r 65 90 = false := by simp [inB]; omega
  have e1 : inB r 192 222 = false := by simp [inB]; omega
  have e2 : inB r 913 937 = false := by simp [inB]; omega
  have e3 : inB r 1040 1071 = true := by simp [inB]; omega
  have e4 : inB r 1024 1039 = false := by simp [inB]; omega
  go_enter Tryz.func133, Tryz.ntmps133
  go_wp2_with (first | (go_at_call 96; refine (within_any _ _ _ _).mono ?_; rintro e w' ⟨rfl, rfl⟩) | (go_at_call 148; refine (append_rune B v n xs (r + 32) (by omega) (by omega) _ hown hlen hB).mono ?_))
  rintro e w1 ⟨v', rfl, g1, o, g2⟩
  go_wp2
  go_ret
  exact ⟨_, rfl, g1, o, g2⟩

set_option maxHeartbeats 1000000 in
theorem small_e (B : Nat) (v : Value) (n : Nat) (xs : List Value) (r : Int) (h0 : 1024 ≤ r) (h1 : r ≤ 1039) (w : World) (hown : w.ownsRow B 5 1 v n xs) (hlen : n + 4 ≤ 140737488355328) (hB : B ≤ w.heap.size) :
    Calls Tryz.prog 133 #[v, .int .i32 r] w fun e w' => ∃ v', e = .returned v' ∧ w'.ownsRow B 5 1 v' (n + (Lib.runeCells (r + 80)).length) (xs ++ Lib.runeCells (r + 80)) ∧ ∃ o, (w.alloc o).grownBy w' v.ownBlock := by
  have q1 : (r == 223) = false := by simp; omega
  have q2 : (r == 7838) = false := by simp; omega
  have e0 : inB r 65 90 = false := by simp [inB]; omega
  have e1 : inB r 192 222 = false := by simp [inB]; omega
  have e2 : inB r 913 937 = false := by simp [inB]; omega
  have e3 : inB r 1040 1071 = false := by simp [inB]; omega
  have e4 : inB r 1024 1039 = true := by simp [inB]; omega
  go_enter Tryz.func133, Tryz.ntmps133
  go_wp2_with (first | (go_at_call 96; refine (within_any _ _ _ _).mono ?_; rintro e w' ⟨rfl, rfl⟩) | (go_at_call 148; refine (append_rune B v n xs (r + 80) (by omega) (by omega) _ hown hlen hB).mono ?_))
  rintro e w1 ⟨v', rfl, g1, o, g2⟩
  go_wp2
  go_ret
  exact ⟨_, rfl, g1, o, g2⟩

set_option maxHeartbeats 1000000 in
theorem small_f (B : Nat) (v : Value) (n : Nat) (xs : List Value) (r : Int) (h0 : 215 ≤ r) (h1 : r ≤ 215) (w : World) (hown : w.ownsRow B 5 1 v n xs) (hlen : n + 4 ≤ 140737488355328) (hB : B ≤ w.heap.size) :
    Calls Tryz.prog 133 #[v, .int .i32 r] w fun e w' => ∃ v', e = .returned v' ∧ w'.ownsRow B 5 1 v' (n + (Lib.runeCells (r)).length) (xs ++ Lib.runeCells (r)) ∧ ∃ o, (w.alloc o).grownBy w' v.ownBlock := by
  have q1 : (r == 223) = false := by simp; omega
  have q2 : (r == 7838) = false := by simp; omega
  have q3 : (r != 215) = false := by simp; omega
  have e0 : inB r 65 90 = false := by simp [inB]; omega
  have e1 : inB r 192 222 = true := by simp [inB]; omega
  have e2 : inB r 913 937 = false := by simp [inB]; omega
  have e3 : inB r 1040 1071 = false := by simp [inB]; omega
  have e4 : inB r 1024 1039 = false := by simp [inB]; omega
  go_enter Tryz.func133, Tryz.ntmps133
  go_wp2_with (first | (go_at_call 96; refine (within_any _ _ _ _).mono ?_; rintro e w' ⟨rfl, rfl⟩) | (go_at_call 148; refine (append_rune B v n xs (r) (by omega) (by omega) _ hown hlen hB).mono ?_))
  rintro e w1 ⟨v', rfl, g1, o, g2⟩
  go_wp2
  go_ret
  exact ⟨_, rfl, g1, o, g2⟩

set_option maxHeartbeats 1000000 in
theorem small_g (B : Nat) (v : Value) (n : Nat) (xs : List Value) (r : Int) (h0 : 0 ≤ r) (hok : r < 55296 ∨ (57343 < r ∧ r ≤ 1114111)) (h1 : ¬ (65 ≤ r ∧ r ≤ 90)) (h2 : ¬ (192 ≤ r ∧ r ≤ 222)) (h3 : ¬ (913 ≤ r ∧ r ≤ 937)) (h4 : ¬ (1024 ≤ r ∧ r ≤ 1071)) (h5 : r ≠ 223) (h6 : r ≠ 7838) (w : World) (hown : w.ownsRow B 5 1 v n xs) (hlen : n + 4 ≤ 140737488355328) (hB : B ≤ w.heap.size) :
    Calls Tryz.prog 133 #[v, .int .i32 r] w fun e w' => ∃ v', e = .returned v' ∧ w'.ownsRow B 5 1 v' (n + (Lib.runeCells (r)).length) (xs ++ Lib.runeCells (r)) ∧ ∃ o, (w.alloc o).grownBy w' v.ownBlock := by
  have q1 : (r == 223) = false := by simp; omega
  have q2 : (r == 7838) = false := by simp; omega
  have e0 : inB r 65 90 = false := by simp [inB]; omega
  have e1 : inB r 192 222 = false := by simp [inB]; omega
  have e2 : inB r 913 937 = false := by simp [inB]; omega
  have e3 : inB r 1040 1071 = false := by simp [inB]; omega
  have e4 : inB r 1024 1039 = false := by simp [inB]; omega
  go_enter Tryz.func133, Tryz.ntmps133
  go_wp2_with (first | (go_at_call 96; refine (within_any _ _ _ _).mono ?_; rintro e w' ⟨rfl, rfl⟩) | (go_at_call 148; refine (append_rune B v n xs (r) (by omega) (by omega) _ hown hlen hB).mono ?_))
  rintro e w1 ⟨v', rfl, g1, o, g2⟩
  go_wp2
  go_ret
  exact ⟨_, rfl, g1, o, g2⟩

set_option maxHeartbeats 1000000 in
theorem small_ss (B : Nat) (v : Value) (n : Nat) (xs : List Value) (r : Int) (h : r = 223 ∨ r = 7838) (w : World) (hown : w.ownsRow B 5 1 v n xs) (hlen : n + 4 ≤ 140737488355328) (hB : B ≤ w.heap.size) :
    Calls Tryz.prog 133 #[v, .int .i32 r] w fun e w' => ∃ v', e = .returned v' ∧ w'.ownsRow B 5 1 v' (n + 2) (xs ++ [.int .u8 115, .int .u8 115]) ∧ ∃ o, (w.alloc o).grownBy w' v.ownBlock := by
  obtain ⟨i0, hi, hz0, hz1, hz2⟩ := info_parts info5
  rcases h with rfl | rfl
  all_goals
    go_enter Tryz.func133, Tryz.ntmps133
    go_wp2_with (at_builtin; refine wpList_append_own _ rfl _ _ 47 rfl B 5 i0 (.int .u8 0) 1 1 Tryz.underlying47 hi hz0 hz1 hz2 rfl (by decide) _ _ _ rfl (hown.alloc _) ⟨w.heap.size, 0, none⟩ 2 2 [.int .u8 115, .int .u8 115] rfl rfl ?c1 ?c2 ?c3 ?c4 ?c5 ?_)
    case c1 => exact lit_cells w [.int .u8 115, .int .u8 115] _
    case c2 => intro u hu; simp at hu; subst hu; rfl
    case c3 => unfold maxLen; omega
    case c4 => omega
    case c5 => simp; omega
    intro v' w2 hown' hgrow _
    go_wp2
    go_ret
    exact ⟨_, rfl, hown', _, hgrow⟩

/-- appendSmall, of every right character. -/
theorem small_any (B : Nat) (v : Value) (n : Nat) (xs : List Value) (r : Nat) (hr : Ok r) (w : World) (hown : w.ownsRow B 5 1 v n xs) (hlen : n + 4 ≤ 140737488355328) (hB : B ≤ w.heap.size) :
    Calls Tryz.prog 133 #[v, .int .i32 (r : Int)] w fun e w' => ∃ v', e = .returned v' ∧ w'.ownsRow B 5 1 v' (n + (encAll (smallR r)).length) (xs ++ Lib.byteCells (encAll (smallR r))) ∧ ∃ o, (w.alloc o).grownBy w' v.ownBlock := by
  by_cases hs : r = 223 ∨ r = 7838
  · have e1 : encAll (smallR r) = [115, 115] := by unfold smallR; rw [if_pos hs]; decide
    rw [e1]
    exact small_ss B v n xs r (by omega) w hown hlen hB
  · have e1 : encAll (smallR r) = enc (lower r) := by unfold smallR; rw [if_neg hs, encAll_cons, encAll_nil, List.append_nil]
    have e2 : (enc (lower r)).length = (Lib.runeCells ((lower r : Nat) : Int)).length := by rw [enc_cells, Lib.byteCells_length]
    rw [e1, e2, ← enc_cells]
    by_cases c1 : (65 ≤ r ∧ r ≤ 90) ∨ (192 ≤ r ∧ r ≤ 222 ∧ r ≠ 215) ∨ (913 ≤ r ∧ r ≤ 937) ∨ (1040 ≤ r ∧ r ≤ 1071)
    · have e3 : ((lower r : Nat) : Int) = (r : Int) + 32 := by unfold lower; rw [if_pos c1]; omega
      rw [e3]
      rcases c1 with c | c | c | c
      · exact small_a B v n xs r (by omega) (by omega) w hown hlen hB
      · exact small_b B v n xs r (by omega) (by omega) (by omega) w hown hlen hB
      · exact small_c B v n xs r (by omega) (by omega) w hown hlen hB
      · exact small_d B v n xs r (by omega) (by omega) w hown hlen hB
    · by_cases c2 : 1024 ≤ r ∧ r ≤ 1039
      · have e3 : ((lower r : Nat) : Int) = (r : Int) + 80 := by unfold lower; rw [if_neg c1, if_pos c2]; omega
        rw [e3]
        exact small_e B v n xs r (by omega) (by omega) w hown hlen hB
      · have e3 : ((lower r : Nat) : Int) = (r : Int) := by unfold lower; rw [if_neg c1, if_neg c2]
        rw [e3]
        by_cases c3 : r = 215
        · exact small_f B v n xs r (by omega) (by omega) w hown hlen hB
        · exact small_g B v n xs r (by omega) (by omega) (by omega) (by omega) (by omega) (by omega) (by omega) (by omega) w hown hlen hB

end Go.Proofs.YtjdijlaoeoikhaaGreatDoor.run

/- What runes.Fold answers, of any text. -/
namespace Go.Proofs.YtjdijlaoeoikhaaGreatDoor.run
open Go.RowKit

theorem space_nat (r : Nat) : spaceB (r : Int) = spaceN r := by
  rw [Bool.eq_iff_iff]; simp only [spaceB, spaceN, decide_eq_true_eq]; omega

theorem own_slice {w : World} {B : Nat} {e : TypeId} {v : Value} {n : Nat} {xs : List Value} (h : w.ownsRow B e 1 v n xs) : ∃ ao cap, v = .slice ao n cap := by
  rcases h.2 with ⟨rfl, rfl⟩ | ⟨g, cap, cur, rfl, _⟩
  · exact ⟨none, 0, rfl⟩
  · exact ⟨_, cap, rfl⟩

theorem encAll_zero (rs : List Nat) (h : (encAll rs).length = 0) : rs.length = 0 := by
  have := (encAll_le rs).1; omega

/-- One blank behind a row of bytes that the call owns. -/
theorem bytes_push (acc : List UInt8) : Lib.byteCells (acc ++ [32]) = Lib.byteCells acc ++ [.int .u8 32] := by simp [Lib.byteCells]

theorem foldS_space (out : List Nat) (gap : Bool) (r : Nat) (rs : List Nat) (h : spaceN r = true) : foldS out gap (r :: rs) = foldS out true rs := by simp [foldS, h]
theorem foldS_char (out : List Nat) (gap : Bool) (r : Nat) (rs : List Nat) (h : spaceN r = false) : foldS out gap (r :: rs) = foldS (out ++ gapR gap out ++ smallR r) false rs := by simp [foldS, h]

set_option maxHeartbeats 4000000 in
set_option maxRecDepth 100000 in
theorem fold_any (l : List UInt8) (w : World) (hsm : l.length ≤ 1073741824) :
    Calls Tryz.prog 102 #[.string ⟨l.toArray⟩] w fun e w' => e = .returned (.string ⟨(fold l).toArray⟩) ∧ Below w.heap.size w w' := by
  obtain ⟨i0, hi, hz0, hz1, hz2⟩ := info_parts info5
  have hm : l.length ≤ maxLen := by unfold maxLen; omega
  have hsl := size_list l
  go_enter Tryz.func102, Tryz.ntmps102
  go_wp2_with (at_make; refine wpList_make_own _ rfl _ _ 47 rfl w.heap.size 5 i0 (.int .u8 0) 1 Tryz.underlying47 hi hz0 hz1 _ _ _ l.length rfl rfl (by simp) ?b1 hm (Nat.le_refl _) ?_)
  case b1 => rw [hz2]; omega
  intro w1 hown0 hgr0
  have hb1 : Below w.heap.size w w1 := (Below.refl _ _).grown hgr0 (Nat.le_refl _) (fun k hk => by cases hk)
  have hs1 : w.heap.size < w1.heap.size := (hown0.lt w.heap.size rfl).2
  clear hgr0 hsl
  go_wp2
  go_loopw [3, 4] (fun v t wr => ∃ (pos : Nat) (acc : List Nat) (gap : Bool), wr.ownsRow w.heap.size 5 1 v (encAll acc).length (Lib.byteCells (encAll acc)) ∧ t = .bool gap ∧ wr.heap[w1.heap.size]? = some (.stringIter ⟨l.toArray⟩ pos) ∧ Below w.heap.size w wr ∧ encAll (foldS acc gap (runes (l.drop pos))) = fold l ∧ (encAll acc).length ≤ 5 * pos) (fun _ _ wr => l.length - wr.iterPos w1.heap.size)
  case atStart =>
    refine ⟨0, [], false, ?_, rfl, ?_, hb1.alloc (by omega) _, rfl, by simp [encAll_nil]⟩
    · exact hown0.alloc _
    · exact World.iter_heap w1 _ 0
  case round =>
    obtain ⟨pos, acc, gap, hown, rfl, hit, hbw, hacc, hal⟩ := hrel
    have hsz : w1.heap.size < wr.heap.size := (Array.getElem?_eq_some_iff.1 hit).1
    by_cases hp : pos < l.length
    · have hok := dc_ok (l.drop pos) (drop_ne hp)
      have hst := runes_cons (l.drop pos) (drop_ne hp)
      have hnx : ∀ ty, (Instr.next (.pointer (some ⟨w1.heap.size, 0, none⟩)) true ty).run Tryz.prog wr = _ := fun ty => Lib.run_next_any_at wr w1.heap.size ⟨l.toArray⟩ pos ty hit (by rw [size_list]; exact hp)
      rw [decode_at, list_data] at hnx
      generalize hr : (dc (l.drop pos)).1 = r at *
      generalize hn : (dc (l.drop pos)).2 = n at *
      have hown2 := own_iterAt hown hit (pos + n)
      have hit2 := Lib.iterAt_heap wr w1.heap.size ⟨l.toArray⟩ pos (pos + n) hit
      have hbw2 := Lib.below_iterAt hbw (k := w1.heap.size) (by omega) ⟨l.toArray⟩ (pos + n)
      have hsz2 : w.heap.size ≤ (wr.iterAt w1.heap.size ⟨l.toArray⟩ (pos + n)).heap.size := by rw [Lib.iterAt_size]; omega
      obtain ⟨hr1, hn1, hn2⟩ := hok
      rw [List.length_drop] at hn2
      rw [List.drop_drop] at hst
      rw [hst] at hacc
      have hsb := space_nat r
      obtain ⟨ao, cap, hv⟩ := own_slice hown
      subst hv
      clear hst hr hn hown hbw hb1 hown0
      have Hit : Hid (wr.heap[w1.heap.size]? = some (.stringIter ⟨l.toArray⟩ pos)) := hit
      cases hsp : spaceN r with
      | true =>
        rw [foldS_space _ _ _ _ hsp] at hacc
        rw [hsp] at hsb
        have HA : Hid (encAll (foldS acc true (runes (l.drop (pos + n)))) = fold l) := hacc
        clear hacc hsp hit
        go_wp2_with (go_at_call 95; refine (space_any _ _).mono ?_; rintro e w' ⟨rfl, rfl⟩)
        go_roundw
        case rel => exact ⟨pos + n, acc, true, hown2, rfl, hit2, hbw2, HA.out, by omega⟩
        case measure => rw [iterPos_of Hit.out, iterPos_of hit2]; omega
      | false =>
        rw [foldS_char _ _ _ _ hsp] at hacc
        rw [hsp] at hsb
        by_cases hgp : gap = true ∧ acc.length ≠ 0
        · have hgr : gapR gap acc = [32] := by unfold gapR; rw [if_pos hgp]
          rw [hgr] at hacc
          have hlen : 0 < (encAll acc).length := by have := (encAll_le acc).1; omega
          have hlt : (0 : Int) < ((encAll acc).length : Int) := by omega
          obtain ⟨rfl, hg2⟩ := hgp
          have HA : Hid (encAll (foldS (acc ++ [32] ++ smallR r) false (runes (l.drop (pos + n)))) = fold l) := hacc
          clear hacc hsp hgr hg2 hit
          go_wp2_with (first | (go_at_call 95; refine (space_any _ _).mono ?_; rintro e w' ⟨rfl, rfl⟩) | (at_builtin; refine wpList_append_own _ rfl _ _ 47 rfl w.heap.size 5 i0 (.int .u8 0) 1 1 Tryz.underlying47 hi hz0 hz1 hz2 rfl (by decide) _ _ _ rfl (hown2.alloc _) ⟨(wr.iterAt w1.heap.size ⟨l.toArray⟩ (pos + n)).heap.size, 0, none⟩ 1 1 [.int .u8 32] rfl rfl ?c1 ?c2 ?c3 ?c4 ?c5 ?_))
          case c1 => exact lit_cells _ [.int .u8 32] _
          case c2 => intro u hu; simp at hu; subst hu; rfl
          case c3 => unfold maxLen; omega
          case c4 => omega
          case c5 => simp; omega
          intro v2 w2 hown3 hgrow _
          have hit3 := iter_grown hown2 hgrow hit2
          have hbw3 := below_grown hbw2 hsz2 hown2 hgrow
          have hsz3 : w.heap.size ≤ w2.heap.size := by have := hgrow.size; simp at this; omega
          have hown4 : w2.ownsRow w.heap.size 5 1 v2 ((encAll acc).length + 1) (Lib.byteCells (encAll acc) ++ [.int .u8 32]) := hown3
          clear hown3 hgrow hown2 hit2 hbw2 hsz2
          go_wp2_with (go_at_call 133; refine (small_any w.heap.size _ _ _ r hr1 _ hown4 (by omega) hsz3).mono ?_)
          rintro e W1 ⟨v', rfl, ho, o, hg⟩
          go_wp2
          go_roundw
          case rel =>
            have hl4 := smallR_len r
            have ea : encAll (acc ++ [32] ++ smallR r) = (encAll acc ++ [32]) ++ encAll (smallR r) := by rw [encAll_append, encAll_append]; rfl
            refine ⟨pos + n, acc ++ [32] ++ smallR r, false, ?_, rfl, iter_grown hown4 hg hit3, below_grown hbw3 hsz3 hown4 hg, HA.out, ?_⟩
            · rw [ea, Lib.byteCells_append, bytes_push, List.length_append, List.length_append]; exact ho
            · rw [ea, List.length_append, List.length_append]; simp only [List.length_cons, List.length_nil]; omega
          case measure =>
            rw [iterPos_of Hit.out, iterPos_of (iter_grown hown4 hg hit3)]
            omega
        · have hgr : gapR gap acc = [] := by unfold gapR; rw [if_neg hgp]
          rw [hgr, List.append_nil] at hacc
          have HA : Hid (encAll (foldS (acc ++ smallR r) false (runes (l.drop (pos + n)))) = fold l) := hacc
          have hdec : gap = false ∨ (encAll acc).length = 0 := by
            cases gap with
            | false => exact .inl rfl
            | true =>
              right
              have h0 : acc.length = 0 := by
                by_cases h : acc.length = 0
                · exact h
                · exact absurd ⟨rfl, h⟩ hgp
              have := (encAll_le acc).2
              omega
          clear hacc hsp hgr hgp hit
          rcases hdec with rfl | hz
          · go_wp2_with (first | (go_at_call 95; refine (space_any _ _).mono ?_; rintro e w' ⟨rfl, rfl⟩) | (go_at_call 133; refine (small_any w.heap.size _ _ _ r hr1 _ hown2 (by omega) hsz2).mono ?_))
            rintro e W1 ⟨v', rfl, ho, o, hg⟩
            go_wp2
            go_roundw
            case rel =>
              have hl4 := smallR_len r
              refine ⟨pos + n, acc ++ smallR r, false, ?_, rfl, iter_grown hown2 hg hit2, below_grown hbw2 hsz2 hown2 hg, HA.out, ?_⟩
              · rw [encAll_append, Lib.byteCells_append, List.length_append]; exact ho
              · rw [encAll_append, List.length_append]; omega
            case measure =>
              rw [iterPos_of Hit.out, iterPos_of (iter_grown hown2 hg hit2)]
              omega
          · have hnl : ¬ (0 : Int) < ((encAll acc).length : Int) := by omega
            have hdd : decide ((0 : Int) < ((encAll acc).length : Int)) = false := decide_eq_false hnl
            have HZ : Hid ((encAll acc).length = 0) := hz
            clear hz
            go_wp2_with (first | (go_at_call 95; refine (space_any _ _).mono ?_; rintro e w' ⟨rfl, rfl⟩) | (go_at_call 133; refine (small_any w.heap.size _ _ _ r hr1 _ hown2 (by omega) hsz2).mono ?_))
            all_goals
              rintro e W1 ⟨v', rfl, ho, o, hg⟩
              go_wp2
              go_roundw
              case rel =>
                have hl4 := smallR_len r
                refine ⟨pos + n, acc ++ smallR r, false, ?_, rfl, iter_grown hown2 hg hit2, below_grown hbw2 hsz2 hown2 hg, HA.out, ?_⟩
                · rw [encAll_append, Lib.byteCells_append, List.length_append]; exact ho
                · rw [encAll_append, List.length_append]; omega
              case measure =>
                rw [iterPos_of Hit.out, iterPos_of (iter_grown hown2 hg hit2)]
                omega
    · have hnx : ∀ ty, (Instr.next (.pointer (some ⟨w1.heap.size, 0, none⟩)) true ty).run Tryz.prog wr = _ := fun ty => Lib.run_next_end_at wr w1.heap.size ⟨l.toArray⟩ pos ty hit (by rw [size_list]; exact hp)
      have hcv := own_string hown
      rw [List.drop_eq_nil_of_le (by omega), runes_nil] at hacc
      have hacc' : encAll acc = fold l := hacc
      rw [hacc'] at hcv
      clear hown hown0 hb1 hacc hacc'
      go_wp2
      go_ret
      exact ⟨rfl, hbw⟩

end Go.Proofs.YtjdijlaoeoikhaaGreatDoor.run
