/- What must be in any case: shown answers true. -/
import Derived.Test.YtnpboadefhannaaFold
import Derived.Test.YtnpboadefhannaaLines
import Derived.Lib.SlBytesConst
set_option linter.unusedVariables false
namespace Go.Proofs.Ytnpboadefhannaa
open Go.RowKit

theorem lines_shown : lines [97, 13, 10, 98, 10, 10, 99, 13] = [[97], [98], [], [99]] := by kernel_rfl
theorem clean_shown : clean [97, 0, 228, 195, 164] = [97, 239, 191, 189, 239, 191, 189, 195, 164] := by kernel_rfl
theorem fold_shown : fold [32, 65, 9, 10, 66, 32] = [97, 32, 98] := by kernel_rfl
theorem space_shown : spaceB 12288 = true := by decide
theorem mark_shown : markB 126 = true := by decide

/-- The bytes of a literal that has just been laid, in every later world. -/
theorem bytes_lit (w : World) (l : List UInt8) (fz : Nat × Nat) : BytesIn (w.alloc (.cells (Lib.byteCells l).toArray 5 fz)) (some ⟨w.heap.size, 0, none⟩) l.length l.length l := by
  refine ⟨rfl, fun w1 hb => ?_⟩
  refine run_convert_bytes_back w1 22 9 5 ⟨w.heap.size, 0, none⟩ l.length l Try.underlying22 Try.underlying5 Try.underlying9 ?_
  intro j hj
  have hadd : (⟨w.heap.size, 0, none⟩ : Addr).add j = ⟨w.heap.size, j, none⟩ := by unfold Addr.add; split <;> simp_all
  rw [hadd, hb.cell (p := ⟨w.heap.size, j, none⟩) (by simp)]
  simp [World.cell?, World.alloc, -World.alloc_eq, Lib.byteCells, hj]

/-- The row of four lines that the example has. -/
theorem lines_call (w : World) :
    Calls Try.prog 14 #[.string ⟨#[97, 13, 10, 98, 10, 10, 99, 13]⟩] w fun e w' => ∃ g cap, e = .returned (.slice (some ⟨g, 0, none⟩) 4 cap) ∧ w'.cell? ⟨g, 2, none⟩ = some (.string ⟨#[]⟩) ∧ w'.cell? ⟨g, 3, none⟩ = some (.string ⟨#[99]⟩) ∧ g < w'.heap.size ∧ Below w.heap.size w w' := by
  refine (lines_any ⟨#[97, 13, 10, 98, 10, 10, 99, 13]⟩ w (by decide)).mono ?_
  rintro e w1 ⟨v, rfl, hown, hb1⟩
  rw [show lines (ByteArray.mk #[97, 13, 10, 98, 10, 10, 99, 13]).data.toList = [[97], [98], [], [99]] from lines_shown] at hown
  rcases hown.2 with ⟨_, h4⟩ | ⟨g, cap, cur, hv, _, hgg, hrest⟩
  · cases h4
  subst hv
  have hcell : ∀ j u, (strVs [[97], [98], [], [99]])[j]? = some u → w1.cell? ⟨g, j, none⟩ = some u := by
    intro j u hj
    have := hown.cells (g := g) rfl j u hj
    have hadd : (⟨g, 0, none⟩ : Addr).add j = ⟨g, j, none⟩ := by unfold Addr.add; split <;> simp_all
    rwa [hadd] at this
  exact ⟨g, cap, rfl, hcell 2 _ rfl, hcell 3 _ rfl, (Array.getElem?_eq_some_iff.1 hgg).1, hb1⟩

theorem clean_call (w : World) :
    Calls Try.prog 10 #[.slice (some ⟨w.heap.size, 0, none⟩) 5 5] (w.alloc (.cells #[.int .u8 97, .int .u8 0, .int .u8 228, .int .u8 195, .int .u8 164] 5 (5, 6))) fun e w' => e = .returned (.string ⟨#[97, 239, 191, 189, 239, 191, 189, 195, 164]⟩) ∧ Below (w.heap.size + 1) (w.alloc (.cells #[.int .u8 97, .int .u8 0, .int .u8 228, .int .u8 195, .int .u8 164] 5 (5, 6))) w' := by
  have hbi := bytes_lit w [97, 0, 228, 195, 164] (5, 6)
  refine (clean_any _ _ _ _ _ (by decide) hbi).mono ?_
  rintro e w1 ⟨rfl, hb⟩
  rw [clean_shown]
  exact ⟨rfl, by simp only [World.size_alloc] at hb; exact hb⟩

theorem fold_call (w : World) :
    Calls Try.prog 21 #[.string ⟨#[32, 65, 9, 10, 66, 32]⟩] w fun e w' => e = .returned (.string ⟨#[97, 32, 98]⟩) ∧ Below w.heap.size w w' := by
  refine (fold_any [32, 65, 9, 10, 66, 32] w (by decide)).mono ?_
  rintro e w1 ⟨rfl, hb⟩
  rw [fold_shown]
  exact ⟨rfl, hb⟩

set_option maxHeartbeats 2000000 in
set_option maxRecDepth 100000 in
theorem shown_any (w : World) :
    Calls Try.prog 9 #[] w fun e w' => e = .returned (.bool true) ∧ Below w.heap.size w w' := by
  have kc := fun (w : World) (C : Array Value) (n c : Nat) => Lib.run_convert_bytes_const (P := Try.prog) w 22 5 C n c Try.underlying22 Try.underlying5
  go_enter Try.func9, Try.ntmps9
  go_wp2_with (go_at_call 14; refine (lines_call _).mono ?_)
  rintro e w1 ⟨g, cap, rfl, c2, c3, hg1, hb1⟩
  go_wp2_with (go_at_call 10; refine (clean_call _).mono ?_)
  rintro e w2 ⟨rfl, hb2⟩
  have hs2 : w1.heap.size + 1 ≤ w2.heap.size := by have := hb2.size; simp at this; exact this
  have d2 : w2.cell? ⟨g, 2, none⟩ = some (.string ⟨#[]⟩) := by
    rw [hb2.cell (p := ⟨g, 2, none⟩) (by show g < w1.heap.size + 1; omega), World.cell?_alloc_past _ _ _ hg1]; exact c2
  have d3 : w2.cell? ⟨g, 3, none⟩ = some (.string ⟨#[99]⟩) := by
    rw [hb2.cell (p := ⟨g, 3, none⟩) (by show g < w1.heap.size + 1; omega), World.cell?_alloc_past _ _ _ hg1]; exact c3
  have hb3 : Below w.heap.size w w2 := (hb1.alloc hb1.size _).trans (hb2.mono (by have := hb1.size; omega))
  clear c2 c3 hb1 hb2 kc
  go_wp2_with (go_at_call 21; refine (fold_call _).mono ?_)
  rintro e w3 ⟨rfl, hb4⟩
  have hb5 : Below w.heap.size w w3 := hb3.trans (hb4.mono hb3.size)
  have hsp := space_shown
  have hmk := mark_shown
  clear hb3 hb4 d2 d3
  go_wp2_with (first | (go_at_call 16; refine (space_any _ _).mono ?_; rintro e w' ⟨rfl, rfl⟩) | (go_at_call 20; refine (mark_any _ _).mono ?_; rintro e w' ⟨rfl, rfl⟩))
  go_ret
  exact ⟨rfl, hb5⟩

end Go.Proofs.Ytnpboadefhannaa
