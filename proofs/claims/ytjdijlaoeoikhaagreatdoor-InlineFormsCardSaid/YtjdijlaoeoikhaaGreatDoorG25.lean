/- Several texts in one. -/
import Derived.Test.YtjdijlaoeoikhaaGreatDoorG05
import Derived.Test.YtjdijlaoeoikhaaGreatDoorQKGap
import Derived.Test.YtjdijlaoeoikhaaGreatDoorG11
import Derived.Test.YtjdijlaoeoikhaaGreatDoorShelf
set_option linter.unusedVariables false
/- Package inline: row, gap, firstOf, lastOf, flanks, fit; walked. -/
namespace Go.Proofs.YtjdijlaoeoikhaaGreatDoor
open Go.RowKit

abbrev strI (l : Str8) : Value := .string ⟨l.toArray⟩

theorem irow_any (l : Str8) (hl : l.length ≤ 140737488351232) (cs : Str8) (hcs : cs.length < 100) (ha : cs.all (fun b => decide (b.toNat < 128)) = true) (p : UInt8 → Bool) (hp : (fun b => cs.contains b) = p) (w : World) :
    Calls Tryz.prog 31 #[strI l, strI cs] w fun e w' => e = .returned (.int .i64 (rowI p l : Int)) ∧ Below w.heap.size w w' := by
  obtain ⟨r, hr⟩ : ∃ r : ByteArray, r = ⟨(l.dropWhile p).toArray⟩ := ⟨_, rfl⟩
  have HT : Hid (∀ w, Calls Tryz.prog 45 #[strI l, strI cs] w fun e w' => e = .returned (.string r) ∧ Below w.heap.size w w') := fun w => lnk.ktl_at ⟨l.toArray⟩ ⟨cs.toArray⟩ (by rw [size_list]; exact hcs) (by rw [list_data]; exact ha) r (by rw [hr, list_data, list_data]; subst hp; rfl) w
  have hz : r.size = (l.dropWhile p).length := by rw [hr, size_list]
  have hsum : (l.takeWhile p).length + (l.dropWhile p).length = l.length := by rw [← List.length_append, List.takeWhile_append_dropWhile]
  have HP : Hid ((rowI p l : Int) = (l.length : Int) - (r.size : Int)) := by show _ = _; unfold rowI; omega
  have hz3 : (r.size : Int) ≤ (l.length : Int) := by omega
  clear hr hz hsum
  go_enter Tryz.func31, Tryz.ntmps31
  go_wp2_with (go_at_call 45; refine (HT.out _).mono ?_; rintro e w1 ⟨rfl, hb1⟩)
  go_ret
  exact ⟨ret_int HP.out.symm, hb1⟩

end Go.Proofs.YtjdijlaoeoikhaaGreatDoor

/- Package inline: flanks, firstOf, lastOf; walked. -/
namespace Go.Proofs.YtjdijlaoeoikhaaGreatDoor
open Go.RowKit

theorem space_is (r : Nat) : run.spaceB (r : Int) = spaceN r := by
  rw [Bool.eq_iff_iff]
  simp [run.spaceB, spaceN]
  omega
theorem punct_is (r : Nat) : run.punctB (r : Int) = punctN r := by
  rw [Bool.eq_iff_iff]
  simp [run.punctB, run.markB, punctN, markN]
  omega

theorem iflanks_any (far near : Nat) (w : World) : Calls Tryz.prog 59 #[.int .i32 (far : Int), .int .i32 (near : Int)] w fun e w' => e = .returned (.bool (flanksI far near)) ∧ w' = w := by
  have HS : Hid (∀ (r : Nat) w, Calls Tryz.prog 95 #[.int .i32 (r : Int)] w fun e w' => e = .returned (.bool (spaceN r)) ∧ w' = w) := fun r w => by rw [← space_is]; exact run.space_any _ w
  have HP : Hid (∀ (r : Nat) w, Calls Tryz.prog 60 #[.int .i32 (r : Int)] w fun e w' => e = .returned (.bool (punctN r)) ∧ w' = w) := fun r w => by rw [← punct_is]; exact run.punct_any _ w
  have hv : flanksI far near = (!spaceN near && (!punctN near || spaceN far || punctN far)) := rfl
  rw [hv]
  clear hv
  cases h1 : spaceN near <;> cases h2 : punctN near <;> cases h3 : spaceN far <;> cases h4 : punctN far
  all_goals
    go_enter Tryz.func59, Tryz.ntmps59
    go_wp2_with (first
      | (go_at_call 95; refine (HS.out _ _).mono ?_; rintro e w1 ⟨rfl, hw⟩; subst w1)
      | (go_at_call 60; refine (HP.out _ _).mono ?_; rintro e w1 ⟨rfl, hw⟩; subst w1))
    go_ret
    exact ⟨rfl, rfl⟩

theorem ifirst_any (l : Str8) (w : World) (hT : Lib.Utf8Tabs 1 2 w) : Calls Tryz.prog 58 #[strI l] w fun e w' => e = .returned (.int .i32 (firstI l : Int)) ∧ Below w.heap.size w w' := by
  cases l with
  | nil =>
    go_enter Tryz.func58, Tryz.ntmps58
    go_wp2
    go_ret
    exact ⟨rfl, Below.refl _ _⟩
  | cons b t =>
    have HD : Hid (Calls Tryz.prog 94 #[strI (b :: t)] w fun e w' => e = .returned (.tuple #[.int .i32 (firstI (b :: t) : Int), .int .i64 ((dc (b :: t)).2 : Int)]) ∧ Below w.heap.size w w') := (Tryz.utf8_DecodeRuneInString ⟨(b :: t).toArray⟩ w hT).mono fun e w' q => by
      have hg : Lib.decodeGo ⟨(b :: t).toArray⟩ = ((firstI (b :: t) : Nat), (dc (b :: t)).2) := rfl
      rw [hg] at q
      exact q
    have hne : (b :: t).isEmpty = false := rfl
    generalize b :: t = L at *
    go_enter Tryz.func58, Tryz.ntmps58
    go_wp2_with (go_at_call 94; refine Calls.mono HD.out ?_; rintro e w1 ⟨rfl, hb1⟩)
    go_ret
    exact ⟨rfl, hb1⟩

theorem ilast_any (l : Str8) (hl : l.length ≤ 140737488351232) (w : World) (hT : Lib.Utf8Tabs 1 2 w) : Calls Tryz.prog 57 #[strI l] w fun e w' => e = .returned (.int .i32 (lastI l : Int)) ∧ Below w.heap.size w w' := by
  cases l with
  | nil =>
    go_enter Tryz.func57, Tryz.ntmps57
    go_wp2
    go_ret
    exact ⟨rfl, Below.refl _ _⟩
  | cons b t =>
    have HD : Hid (Calls Tryz.prog 93 #[strI (b :: t)] w fun e w' => e = .returned (.tuple #[.int .i32 (lastI (b :: t) : Int), .int .i64 ((Lib.decodeLastL (b :: t)).2 : Int)]) ∧ Below w.heap.size w w') := (Tryz.utf8_DecodeLastRuneInString ⟨(b :: t).toArray⟩ w (by rw [size_list]; omega) hT).mono fun e w' q => by
      rw [list_data] at q
      exact q
    have hne : (b :: t).isEmpty = false := rfl
    generalize b :: t = L at *
    go_enter Tryz.func57, Tryz.ntmps57
    go_wp2_with (go_at_call 93; refine Calls.mono HD.out ?_; rintro e w1 ⟨rfl, hb1⟩)
    go_ret
    exact ⟨rfl, hb1⟩

theorem u8_below {w w' : World} {B : Nat} (h : Lib.Utf8Tabs 1 2 w) (hb : Below B w w') (hB : 3 ≤ B) : Lib.Utf8Tabs 1 2 w' :=
  ⟨fun c hc => (hb.cell (p := ⟨1, c, none⟩) (by show 1 < B; omega)).trans (h.1 c hc), fun i hi => ⟨(hb.cell (p := ⟨2, 2 * i, none⟩) (by show 2 < B; omega)).trans (h.2 i hi).1, (hb.cell (p := ⟨2, 2 * i + 1, none⟩) (by show 2 < B; omega)).trans (h.2 i hi).2⟩⟩

end Go.Proofs.YtjdijlaoeoikhaaGreatDoor
