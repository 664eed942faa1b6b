/- Package disk: mayName, find, Up, Falls, Used, Start, Arm, New; slices.Clone; walked. -/
import Derived.Test.YtkbmblmnhhlicaaGreatDoorDPut
import Derived.Laws.ResultCell
import Derived.Carry
import Derived.Laws.AppendOwnNone
set_option linter.unusedVariables false
namespace Go.Proofs.YtkbmblmnhhlicaaGreatDoor
open Go.RowKit

def mayN (n : Nm) : Bool := decide (1 ≤ n.length ∧ n.length ≤ 32)

set_option maxHeartbeats 400000 in
theorem mayName_any (n : Nm) (hn : n.length ≤ 140737488355328) (w : World) : Calls Tryz.prog 112 #[strN n] w fun e w' => e = .returned (.bool (mayN n)) ∧ w' = w := by
  have hz := size_list n
  have hz2 : ((ByteArray.mk n.toArray).size : Int) = (n.length : Int) := by rw [hz]
  unfold mayN
  by_cases h1 : 1 ≤ n.length
  · by_cases h2 : n.length ≤ 32
    · have q1 : decide ((1 : Int) ≤ (n.length : Int)) = true := by simp; omega
      have q2 : decide ((n.length : Int) ≤ 32) = true := by simp; omega
      have hq : decide (1 ≤ n.length ∧ n.length ≤ 32) = true := by simp; omega
      rw [hq]
      go_enter Tryz.func112, Tryz.ntmps112
      go_wp2
      go_ret
      exact ⟨ret_bool (by first | rfl | simpa using q2), rfl⟩
    · have q1 : decide ((1 : Int) ≤ (n.length : Int)) = true := by simp; omega
      have q2 : decide ((n.length : Int) ≤ 32) = false := by simp; omega
      have hq : decide (1 ≤ n.length ∧ n.length ≤ 32) = false := by simp; omega
      rw [hq]
      go_enter Tryz.func112, Tryz.ntmps112
      go_wp2
      go_ret
      exact ⟨ret_bool (by first | rfl | simpa using q2), rfl⟩
  · have q1 : decide ((1 : Int) ≤ (n.length : Int)) = false := by simp; omega
    have hq : decide (1 ≤ n.length ∧ n.length ≤ 32) = false := by simp; omega
    rw [hq]
    go_enter Tryz.func112, Tryz.ntmps112
    go_wp2
    go_ret
    exact ⟨ret_bool (by first | rfl | simpa using q1), rfl⟩

set_option maxHeartbeats 400000 in
theorem up_any {w : World} {b m : Nat} {S : Nat → Prop} {sl : Nm → Value} {ex : Option Nm} {d : Dk} (h : DkW w b m S sl ex d) : Calls Tryz.prog 31 #[dptr b] w fun e w' => e = .returned (.bool d.up) ∧ w' = w := by
  have c3 := h.c3
  clear h
  go_enter Tryz.func31, Tryz.ntmps31
  go_wp2
  go_ret
  exact ⟨rfl, rfl⟩

def startD (d : Dk) : Dk := { d with up := true, ahead := -1 }
def armD (d : Dk) (after : Int) (keep : Nat) : Dk := if d.up = true then { d with ahead := if after < -1 then -1 else after, keep := keep } else d

set_option maxHeartbeats 400000 in
theorem start_any {w : World} {b m : Nat} {S : Nat → Prop} {sl : Nm → Value} {ex : Option Nm} {d : Dk} (h : DkW w b m S sl ex d) : Calls Tryz.prog 33 #[dptr b] w fun e w' => e = .returned (.tuple #[]) ∧ DkW w' b m S sl ex (startD d) ∧ Fr S w w' := by
  have c3 := h.c3
  have c4 := h.c4
  have f3 := h.fz 3
  have f4 := h.fz 4
  have HD : Hid (DkW w b m S sl ex d) := h
  have HB : Hid (((w.setCell ⟨b, 3, none⟩ (.bool true)).setCell ⟨b, 4, none⟩ (.int .i64 (-1))).heap[b]? = some (.cells (dkCells (startD d) m) 87 (0, 0))) := set_blk (set_blk h.blk 3 _) 4 _
  clear h
  go_enter Tryz.func33, Tryz.ntmps33
  go_wp2
  go_end0
  refine ⟨rfl, ?_, ?_⟩
  · exact HD.out.struct (by rw [set_size, set_size]) (fun k hk => by rw [set_other _ hk, set_other _ hk]) HB.out rfl { HD.out.ok with ahead := by show (-1 : Int) ≤ -1 ∧ (-1 : Int) ≤ _; omega }
  · exact ((Fr.refl S w).set HD.out.sb _).set HD.out.sb _

set_option maxHeartbeats 400000 in
theorem arm_any {w : World} {b m : Nat} {S : Nat → Prop} {sl : Nm → Value} {ex : Option Nm} {d : Dk} (h : DkW w b m S sl ex d) (after : Int) (ha : -9223372036854775808 ≤ after ∧ after ≤ 9223372036854775807) (keep : Nat) (hk : keep < 18446744073709551616) :
    Calls Tryz.prog 29 #[dptr b, .int .i64 after, .int .u64 (keep : Int)] w fun e w' => e = .returned (.tuple #[]) ∧ DkW w' b m S sl ex (armD d after keep) ∧ Fr S w w' := by
  have c3 := h.c3
  have c4 := h.c4
  have c6 := h.c6
  have f4 := h.fz 4
  have f6 := h.fz 6
  have HD : Hid (DkW w b m S sl ex d) := h
  have HB : Hid (∀ x : Int, ((w.setCell ⟨b, 4, none⟩ (.int .i64 x)).setCell ⟨b, 6, none⟩ (.int .u64 (keep : Int))).heap[b]? = some (.cells (dkCells { d with ahead := x, keep := keep } m) 87 (0, 0))) := fun x => set_blk (set_blk h.blk 4 _) 6 _
  clear h
  unfold armD
  cases hu : d.up with
  | true =>
    rw [hu] at c3
    rw [if_pos rfl]
    by_cases hlt : after < -1
    · rw [if_pos hlt]
      go_enter Tryz.func29, Tryz.ntmps29
      go_wp2
      go_end0
      refine ⟨rfl, ?_, ?_⟩
      · exact HD.out.struct (by rw [set_size, set_size]) (fun k hk => by rw [set_other _ hk, set_other _ hk]) (by have := HB.out (-1); rw [hu] at this; exact this) rfl { HD.out.ok with ahead := by show (-1 : Int) ≤ -1 ∧ (-1 : Int) ≤ _; omega, keep := hk }
      · exact ((Fr.refl S w).set HD.out.sb _).set HD.out.sb _
    · rw [if_neg hlt]
      go_enter Tryz.func29, Tryz.ntmps29
      go_wp2
      go_end0
      refine ⟨rfl, ?_, ?_⟩
      · exact HD.out.struct (by rw [set_size, set_size]) (fun k hk => by rw [set_other _ hk, set_other _ hk]) (by have := HB.out after; rw [hu] at this; exact this) rfl { HD.out.ok with ahead := by show (-1 : Int) ≤ after ∧ after ≤ _; omega, keep := hk }
      · exact ((Fr.refl S w).set HD.out.sb _).set HD.out.sb _
  | false =>
    rw [hu] at c3
    rw [if_neg (by decide)]
    go_enter Tryz.func29, Tryz.ntmps29
    go_wp2
    go_end0
    exact ⟨rfl, HD.out, Fr.refl S w⟩

def newD (room : Int) : Dk := ⟨room.toNat, [], true, -1, 0, 0⟩

set_option maxHeartbeats 400000 in
theorem new_any (room : Int) (hr : room ≤ 9223372036854775807) (w : World) : Calls Tryz.prog 10 #[.int .i64 room] w fun e w' => e = .returned (dptr (w.heap.size + 1)) ∧ DkW w' (w.heap.size + 1) w.heap.size (fun k => k = w.heap.size ∨ k = w.heap.size + 1) (fun _ => .slice none 0 0) none (newD room) ∧ Below w.heap.size w w' := by
  have e0 : (room.toNat : Int) = if room < 0 then 0 else room := by split <;> omega
  have hok : DkOk (newD room) := ⟨List.Pairwise.nil, fun p hp => (by cases hp), Nat.zero_le _, by show room.toNat ≤ _; omega, by show (-1 : Int) ≤ -1 ∧ (-1 : Int) ≤ _; omega, by show 0 < _; omega, Nat.zero_le _, Nat.zero_le _⟩
  have fin : ∀ x : Int, x = (room.toNat : Int) → DkW ((w.alloc (.map #[] 0)).alloc (.cells #[.int .i64 x, .int .i64 0, .map (some w.heap.size), .bool true, .int .i64 (-1), .int .i64 0, .int .u64 0] 87)) (w.heap.size + 1) w.heap.size (fun k => k = w.heap.size ∨ k = w.heap.size + 1) (fun _ => .slice none 0 0) none (newD room) := by
    intro x hx
    subst hx
    refine { blk := ?_, map := ?_, rows := fun p hp => (by cases hp), apart := fun p hp => (by cases hp), sb := .inr rfl, sm := .inl rfl, sr := fun p hp => (by cases hp), lt := fun k hk => ?_, ok := hok, names := fun p hp => (by cases hp), shape := fun p hp => (by cases hp) }
    · show ((w.heap.push _).push _)[w.heap.size + 1]? = _
      have : w.heap.size + 1 = (w.heap.push (Obj.map #[] 0)).size := by simp
      rw [this]
      exact Array.getElem?_push_size
    · refine mapv_keep (mapv_made w) ?_
      exact Below.heap_alloc _ _ _ (by simp)
    · show k < ((w.heap.push _).push _).size
      simp
      omega
  have mk : (Instr.makeMap 85 none).run Tryz.prog w = .ok (.map (some w.heap.size)) (w.alloc (.map #[] 0)) := run_makeMap _ _
  by_cases h0 : room < 0
  · have hx := fin 0 (by rw [e0, if_pos h0])
    have HX : Hid (DkW _ _ _ _ _ _ _) := hx
    clear hx fin e0 hok
    go_enter Tryz.func10, Tryz.ntmps10
    go_wp2
    go_ret
    exact ⟨rfl, HX.out, ((Below.refl _ w).alloc (Nat.le_refl _) _).trans (((Below.refl _ _).alloc (Nat.le_refl _) _).mono (by simp))⟩
  · have hx := fin room (by rw [e0, if_neg h0])
    have HX : Hid (DkW _ _ _ _ _ _ _) := hx
    clear hx fin e0 hok
    go_enter Tryz.func10, Tryz.ntmps10
    go_wp2
    go_ret
    exact ⟨rfl, HX.out, ((Below.refl _ w).alloc (Nat.le_refl _) _).trans (((Below.refl _ _).alloc (Nat.le_refl _) _).mono (by simp))⟩

/-! ### find -/
def findV (d : Dk) (n : Nm) : Nat := if d.up = true then (if (getA n d.files).isSome = true then 0 else 15) else 13

def Blk2 (w : World) (b : Nat) (t : TypeId) (x y : Value) : Prop := w.heap[b]? = some (.cells #[x, y] t (0, 0))
theorem Blk2.new (w : World) (t : TypeId) (x y : Value) : Blk2 (w.alloc (.cells #[x, y] t)) w.heap.size t x y := by
  show (w.heap.push _)[w.heap.size]? = _
  exact Array.getElem?_push_size
theorem Blk2.below {w w' : World} {b : Nat} {t : TypeId} {x y : Value} (h : Blk2 w b t x y) (hb : Below w.heap.size w w') : Blk2 w' b t x y := (hb.block b (lt_blk h)).trans h
theorem Blk2.c0 {w : World} {b : Nat} {t : TypeId} {x y : Value} (h : Blk2 w b t x y) : w.cell? ⟨b, 0, none⟩ = some x := cell_blk h rfl
theorem Blk2.c1 {w : World} {b : Nat} {t : TypeId} {x y : Value} (h : Blk2 w b t x y) : w.cell? ⟨b, 1, none⟩ = some y := cell_blk h rfl
theorem Blk2.f {w : World} {b : Nat} {t : TypeId} {x y : Value} (h : Blk2 w b t x y) (i : Nat) : w.frozen? ⟨b, i, none⟩ = false := free_blk h i
theorem Blk2.s {w : World} {b : Nat} {t : TypeId} {x y : Value} (h : Blk2 w b t x y) (x' y' : Value) : Blk2 ((w.setCell ⟨b, 0, none⟩ x').setCell ⟨b, 1, none⟩ y') b t x' y' := set_blk (set_blk h 0 x') 1 y'

set_option maxHeartbeats 1000000 in
set_option maxRecDepth 20000 in
theorem find_any {w : World} {b m : Nat} {S : Nat → Prop} {sl : Nm → Value} {ex : Option Nm} {d : Dk} (h : DkW w b m S sl ex d) (n : Nm) (hn : n.length ≤ 140737488355328) (v : Value) (hv : v = if findV d n = 0 then (getA n (filesV sl d.files)).getD zFile else zFile) :
    Calls Tryz.prog 108 #[dptr b, strN n] w fun e w' => e = .returned (.tuple #[v, .int .i64 (findV d n : Int)]) ∧ Below w.heap.size w w' := by
  unfold findV at *
  have D1 := h.alloc (.cells #[.slice none 0 0, .int .i64 0] 125)
  have hB := Blk2.new w 125 (.slice none 0 0) (.int .i64 0)
  have c3 := D1.c3
  have c2 := D1.c2
  have f0 := hB.f 0
  have f1 := hB.f 1
  have g0 := hB.c0
  have g1 := hB.c1
  cases hu : d.up with
  | false =>
    rw [hu] at c3 hv
    have hv' : v = zFile := hv
    subst hv'
    clear hv h D1
    go_enter Tryz.func108, Tryz.ntmps108
    go_wp2
    (try simp only [Exit.inBlock, Exit.then])
    have d0 := (hB.s (.slice none 0 0) (.int .i64 0)).c0
    have d1 := (hB.s (.slice none 0 0) (.int .i64 0)).c1
    refine bodyPost_ret (v := .tuple #[zFile, .int .i64 13]) ?_ rfl ⟨rfl, ?_⟩
    · rw [results_cell_tmp rfl]
      go_simp
    · exact (Below.refl _ _).alloc (Nat.le_refl _) _
  | true =>
    rw [hu] at c3 hv
    rw [if_pos rfl] at hv ⊢
    obtain ⟨oa, oc, hlook, hsome, _⟩ := h.look n
    have l1 := mapv_look_ok D1.map n hn
    rw [hlook, hsome] at l1
    rw [hlook] at hv
    generalize ((getA n d.files).getD ⟨[], 0⟩).bs.length = O at *
    generalize ((getA n d.files).getD ⟨[], 0⟩).la = OL at *
    cases hs : (getA n d.files).isSome with
    | false =>
      rw [hs] at l1 hv
      have hv' : v = zFile := hv
      subst hv'
      clear hv h D1 hlook hsome
      go_enter Tryz.func108, Tryz.ntmps108
      go_wp2
      (try simp only [Exit.inBlock, Exit.then])
      refine bodyPost_ret (v := .tuple #[zFile, .int .i64 15]) ?_ rfl ⟨rfl, ?_⟩
      · rw [results_cell_tmp rfl]
        go_simp
      · exact ((Below.refl _ _).alloc (Nat.le_refl _) _).trans (((Below.refl _ _).alloc (Nat.le_refl _) _).mono (by simp))
    | true =>
      rw [hs] at l1 hv
      have hv' : v = .agg #[.slice oa O oc, .int .i64 (OL : Int)] := hv
      subst hv'
      clear hv h D1 hlook hsome
      go_enter Tryz.func108, Tryz.ntmps108
      go_wp2
      (try simp only [Exit.inBlock, Exit.then])
      refine bodyPost_ret (v := .tuple #[.agg #[.slice oa O oc, .int .i64 (OL : Int)], .int .i64 0]) ?_ rfl ⟨rfl, ?_⟩
      · rw [results_cell_tmp rfl]
        go_simp
      · exact ((Below.refl _ _).alloc (Nat.le_refl _) _).trans (((Below.refl _ _).alloc (Nat.le_refl _) _).mono (by simp))

end Go.Proofs.YtkbmblmnhhlicaaGreatDoor
