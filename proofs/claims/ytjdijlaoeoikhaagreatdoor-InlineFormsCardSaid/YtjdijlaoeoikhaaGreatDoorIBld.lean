/- strings.Builder: copyCheck, WriteString, Reset; walked. -/
import Derived.Test.YtjdijlaoeoikhaaGreatDoorG08
import Derived.Lib.OthersKept
import Derived.Lib.AppendStr
import Derived.Test.YtjdijlaoeoikhaaGreatDoorShelf
set_option linter.unusedVariables false
namespace Go.Proofs.YtjdijlaoeoikhaaGreatDoor
open Go.RowKit

abbrev ptrB (b : Nat) : Value := .pointer (some ⟨b, 0, none⟩)
theorem sizeBd : (Tryz.prog.info? 79).map (·.size) = some 2 := by kernel_rfl
theorem liesBd : liesAt Tryz.prog Tryz.prog.depth 79 (2 / Tryz.prog.cellsOf 79) 0 79 1 = true := by kernel_rfl
theorem infoU8 : (Tryz.prog.info? 5).map (fun i => (i.zero, i.size, i.bytes)) = some (some (.int .u8 0), 1, 1) := by kernel_rfl

set_option maxHeartbeats 2000000 in
set_option maxRecDepth 100000 in
theorem ick_used (b : Nat) (w : World) (h0 : w.cell? ⟨b, 0, none⟩ = some (ptrB b)) :
    Calls Tryz.prog 65 #[ptrB b] w fun e w' => e = .returned (.tuple #[]) ∧ w' = w := by
  obtain ⟨j, hj, _⟩ := Option.map_eq_some_iff.1 sizeBd
  go_enter Tryz.func65, Tryz.ntmps65
  go_wp2
  rw [Lib.run_neq_ptr_same w _ Tryz.underlying77 hj]
  go_wp2
  go_end0
  exact ⟨rfl, rfl⟩

set_option maxHeartbeats 2000000 in
set_option maxRecDepth 100000 in
theorem ick_fresh (b : Nat) (v : Value) (w : World) (hb : w.heap[b]? = some (.cells #[.pointer none, v] 79 (0, 0))) :
    Calls Tryz.prog 65 #[ptrB b] w fun e w' => e = .returned (.tuple #[]) ∧ w' = w.setCell ⟨b, 0, none⟩ (ptrB b) := by
  obtain ⟨j, hj, hjs⟩ := Option.map_eq_some_iff.1 sizeBd
  have h0 : w.cell? ⟨b, 0, none⟩ = some (.pointer none) := blk.cell_blk hb rfl
  have hfz : w.frozen? ⟨b, 0, none⟩ = false := blk.free_blk hb 0
  have hsh : w.shape? b = some (79, 2) := by simp [World.shape?, hb]
  have hlies := liesBd
  go_enter Tryz.func65, Tryz.ntmps65
  go_wp2
  rw [Lib.run_to_unsafe w ⟨b, 0, none⟩ Tryz.underlying77 Tryz.underlying117 hj (by rw [hjs]; decide) hsh (Nat.zero_lt_succ 1)]
  simp only [Result.andThen]
  rw [Oper.upon_value]
  go_wp2
  rw [run_callFunc_extern Tryz.func103 (by kernel_rfl) (by kernel_rfl) (by kernel_rfl) (e := Extern.AbiNoEscape.same) (by kernel_rfl)]
  rw [Lib.run_noEscape]
  simp only [Result.andThen]
  rw [Oper.upon_value]
  go_wp2
  rw [Lib.run_from_unsafe w ⟨b, 0, none⟩ Tryz.underlying117 Tryz.underlying77 hj hsh hlies]
  simp only [Result.andThen]
  rw [Oper.upon_value]
  go_wp2
  go_end0
  exact ⟨rfl, rfl⟩

theorem ick_any (B b : Nat) (bs : List Value) (w : World) (h : Lib.IsBuilder 79 5 B b bs w) :
    Calls Tryz.prog 65 #[ptrB b] w fun e w' => e = .returned (.tuple #[]) ∧ Lib.BuilderAt 79 5 B b (ptrB b) bs w' ∧ Below B w w' ∧ Lib.OthersKept 5 (some b) w w' := by
  rcases h with h | h
  · have h' := h
    obtain ⟨hB, v, hb, _⟩ := h'
    refine (ick_fresh b v w hb).mono ?_
    rintro e w' ⟨rfl, rfl⟩
    exact ⟨rfl, h.used _, (Below.refl B w).setCell (p := ⟨b, 0, none⟩) hB _, (Lib.OthersKept.refl 5 (some b) w).setCell ⟨b, 0, none⟩ rfl _⟩
  · refine (ick_used b w h.cell0).mono ?_
    rintro e w' ⟨rfl, rfl⟩
    exact ⟨rfl, h, Below.refl B _, Lib.OthersKept.refl _ _ _⟩

theorem neB : (79 : TypeId) ≠ 5 := by decide

set_option maxHeartbeats 2000000 in
set_option maxRecDepth 100000 in
theorem iws_any (B b : Nat) (bs : List Value) (s : ByteArray) (w : World) (h : Lib.IsBuilder 79 5 B b bs w) (hlen : bs.length + s.size ≤ 140737488355328) (hBw : B ≤ w.heap.size) :
    Calls Tryz.prog 42 #[ptrB b, .string s] w fun e w' => e = .returned (.tuple #[.int .i64 s.size, .nilIface]) ∧ Lib.BuilderAt 79 5 B b (ptrB b) (bs ++ Lib.strCells s) w' ∧ Below B w w' ∧ Lib.OthersKept 5 (some b) w w' := by
  obtain ⟨i0, hi, hz⟩ := Option.map_eq_some_iff.1 infoU8
  have hz0 : i0.zero = some (.int .u8 0) := congrArg (·.1) hz
  have hz1 : i0.size = 1 := congrArg (·.2.1) hz
  have hz2 : i0.bytes = 1 := congrArg (·.2.2) hz
  go_enter Tryz.func42, Tryz.ntmps42
  go_wp2_with (go_at_call 65; refine (ick_any B b bs _ h).mono ?_)
  rintro e w1 ⟨rfl, ⟨hB, v, hbk, hown, hne⟩, hb1, hk1⟩
  have c0 : w1.cell? ⟨b, 0, none⟩ = some (ptrB b) := blk.cell_blk hbk rfl
  have c1 : w1.cell? ⟨b, 1, none⟩ = some v := blk.cell_blk hbk rfl
  go_wp2_with (at_builtin; refine Lib.wpList_append_own_string _ rfl _ _ 47 9 rfl B 5 i0 Tryz.underlying47 Tryz.underlying9 hi hz0 hz1 hz2 _ _ _ rfl hown s rfl ?c3 ?c4 ?c5 ?_)
  case c3 => unfold maxLen; omega
  case c4 => omega
  case c5 => have := hb1.size; omega
  intro v' w2 hown' hgrow _
  have hb2 : w2.heap[b]? = some (.cells #[ptrB b, v] 79 (0, 0)) := by
    rw [hgrow.block b (blk.lt_of_block hbk) (fun e => hne e.symm)]
    exact hbk
  have d0 : w2.cell? ⟨b, 0, none⟩ = some (ptrB b) := blk.cell_blk hb2 rfl
  have d1 : w2.cell? ⟨b, 1, none⟩ = some v := blk.cell_blk hb2 rfl
  have f1 : w2.frozen? ⟨b, 1, none⟩ = false := blk.free_blk hb2 1
  obtain ⟨ao, n', cap, rfl⟩ : ∃ ao n' cap, v' = .slice ao n' cap := by
    rcases hown'.2 with ⟨hv, _⟩ | ⟨g, cap, cur, hv, _⟩
    · exact ⟨_, _, _, hv⟩
    · exact ⟨_, _, _, hv⟩
  have hk2 : Lib.OthersKept 5 (some b) w w2 := hk1.grown hgrow (fun g hg => by
    rcases hown.2 with ⟨hv, _⟩ | ⟨g', cap', cur', hv, _, hg', _⟩
    · rw [hv] at hg; cases hg
    · rw [hv] at hg; cases hg; exact ⟨_, _, hg'⟩)
  go_wp2
  go_ret2
  refine ⟨rfl, ?_, ?_, ?_⟩
  · exact Lib.BuilderAt.put (T := 79) (e := 5) hB hb2 (bs' := bs ++ Lib.strCells s) (by simpa [Lib.strCells_length] using hown') neB
  · exact (hb1.grown hgrow (by have := hb1.size; omega) (fun k hk => (hown.lt k hk).1)).setCell (p := ⟨b, 1, none⟩) hB _
  · exact hk2.setCell ⟨b, 1, none⟩ rfl _

set_option maxHeartbeats 2000000 in
theorem irs_any (b : Nat) (p v : Value) (w : World) (hb : w.heap[b]? = some (.cells #[p, v] 79 (0, 0))) (hp : ∃ a, p = .pointer a) (hv : ∃ a n c, v = .slice a n c) :
    Calls Tryz.prog 68 #[ptrB b] w fun e w' => e = .returned (.tuple #[]) ∧ w' = (w.setCell ⟨b, 0, none⟩ (.pointer none)).setCell ⟨b, 1, none⟩ (.slice none 0 0) := by
  obtain ⟨a, rfl⟩ := hp
  obtain ⟨a1, n1, k1, rfl⟩ := hv
  have c0 := blk.cell_blk hb (i := 0) rfl
  have f0 := blk.free_blk hb 0
  have hb1 := blk.set_blk hb 0 (.pointer none)
  have c1 := blk.cell_blk hb1 (i := 1) rfl
  have f1 := blk.free_blk hb1 1
  have e1 := blk.cell_blk hb (i := 1) rfl
  have e0 := blk.free_blk hb 1
  go_enter Tryz.func68, Tryz.ntmps68
  go_wp2
  go_end0
  exact ⟨rfl, rfl⟩

end Go.Proofs.YtjdijlaoeoikhaaGreatDoor
