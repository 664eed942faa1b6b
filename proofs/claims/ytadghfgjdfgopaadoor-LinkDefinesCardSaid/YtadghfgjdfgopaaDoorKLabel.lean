/- Package link: spaces, Label; walked. -/
import Derived.Test.YtadghfgjdfgopaaDoorKEncl
set_option linter.unusedVariables false
namespace Go.Proofs.YtadghfgjdfgopaaDoor
open Go.RowKit

theorem nil_text (x : ByteArray) (b : Bool) (h : x.data.toList.isEmpty = b) : x.toList.isEmpty = b := by rw [ByteArray.toList_eq]; exact h

theorem iterPos_of {w : World} {k : Nat} {s : ByteArray} {pos : Nat} (h : w.heap[k]? = some (.stringIter s pos)) : w.iterPos k = pos := by simp [World.iterPos, h]

set_option maxHeartbeats 2000000 in
set_option maxRecDepth 8000 in
theorem kidx_any (l : List UInt8) (b : Bool) (hb : Hid ((runes l).all spaceN = b)) (w : World) :
    Calls Tryd.prog 56 #[.string ⟨l.toArray⟩, .func (.func 43) #[] #[], .bool false] w fun e w' => (∃ k : Int, e = .returned (.int .i64 k) ∧ Hid (b = true → k = -1) ∧ Hid (b = false → 0 ≤ k ∧ k < (l.length : Int))) ∧ Below w.heap.size w w' := by
  go_enter Tryd.func56, Tryd.ntmps56
  go_wp2
  go_loopw [] (fun wr => ∃ pos : Nat, Hid (wr.heap[w.heap.size]? = some (.stringIter ⟨l.toArray⟩ pos)) ∧ Hid (Below w.heap.size w wr) ∧ Hid ((runes (l.drop pos)).all spaceN = b)) (fun wr => l.length - wr.iterPos w.heap.size)
  case atStart => exact ⟨0, World.iter_heap w _ 0, (Below.refl _ _).alloc (Nat.le_refl _) _, hb⟩
  case round =>
    obtain ⟨pos, hit, hbw, hal⟩ := hrel
    have hsz : w.heap.size < wr.heap.size := (Array.getElem?_eq_some_iff.1 hit.out).1
    by_cases hp : pos < l.length
    · have hok := dc_ok (l.drop pos) (run.drop_ne hp)
      have hst := runes_cons (l.drop pos) (run.drop_ne hp)
      have hnx : ∀ ty, (Instr.next (.pointer (some ⟨w.heap.size, 0, none⟩)) true ty).run Tryd.prog wr = _ := fun ty => Lib.run_next_any_at wr w.heap.size ⟨l.toArray⟩ pos ty hit.out (by rw [size_list]; exact hp)
      rw [decode_at, list_data] at hnx
      generalize hr : (dc (l.drop pos)).1 = r at *
      generalize hn : (dc (l.drop pos)).2 = n at *
      have HI := (show Hid _ from Lib.iterAt_heap wr w.heap.size ⟨l.toArray⟩ pos (pos + n) hit.out)
      have HW := (show Hid _ from Lib.below_iterAt hbw.out (k := w.heap.size) (Nat.le_refl _) ⟨l.toArray⟩ (pos + n))
      obtain ⟨hr1, hn1, hn2⟩ := hok
      rw [List.length_drop] at hn2
      rw [List.drop_drop] at hst
      have HA := hal.out
      rw [hst, List.all_cons] at HA
      have HS := (show Hid _ from fun w => run.space_any (r : Int) w)
      rw [run.space_nat r] at HS
      clear hst hr hn
      cases hsp : spaceN r
      · rw [hsp] at HS HA
        have HF : Hid (b = false) := HA.symm
        clear HA hsp
        go_wp2_with (go_at_call 43; refine (HS.out _).mono ?_; rintro e w' ⟨rfl, hw'⟩; subst w')
        go_ret
        exact ⟨⟨_, rfl, (fun h => absurd (HF.out.symm.trans h) (by decide)), (fun _ => ⟨by omega, by omega⟩)⟩, HW.out⟩
      · rw [hsp, Bool.true_and] at HA
        rw [hsp] at HS
        have HF : Hid ((runes (l.drop (pos + n))).all spaceN = b) := HA
        clear HA hsp
        go_wp2_with (go_at_call 43; refine (HS.out _).mono ?_; rintro e w' ⟨rfl, hw'⟩; subst w')
        go_roundw
        case rel => exact ⟨pos + n, HI.out, HW.out, HF.out⟩
        case measure => rw [iterPos_of hit.out, iterPos_of HI.out]; omega
    · have hnx : ∀ ty, (Instr.next (.pointer (some ⟨w.heap.size, 0, none⟩)) true ty).run Tryd.prog wr = _ := fun ty => Lib.run_next_end_at wr w.heap.size ⟨l.toArray⟩ pos ty hit.out (by rw [size_list]; exact hp)
      have HF : Hid (b = true) := by
        have := hal.out
        rw [List.drop_eq_nil_of_le (by omega), runes_nil] at this
        exact this.symm
      go_wp2
      go_ret
      exact ⟨⟨_, rfl, (fun _ => rfl), (fun h => absurd (HF.out.symm.trans h) (by decide))⟩, hbw.out⟩

theorem ktrimf_any (l : List UInt8) (b : Bool) (hb : Hid ((runes l).all spaceN = b)) (hs : l.length ≤ 9223372036854775000) (w : World) :
    Calls Tryd.prog 42 #[.string ⟨l.toArray⟩, .func (.func 43) #[] #[]] w fun e w' => (∃ x : ByteArray, e = .returned (.string x) ∧ Hid (x.toList.isEmpty = b)) ∧ Below w.heap.size w w' := by
  have HX := (show Hid _ from fun w => kidx_any l b hb w)
  have hz : (ByteArray.mk l.toArray).size = l.length := size_list l
  cases b
  · go_enter Tryd.func42, Tryd.ntmps42
    go_wp2_with (go_at_call 56; refine (HX.out _).mono ?_; rintro e w' ⟨⟨k, rfl, _, hk⟩, hbw⟩; obtain ⟨hk1, hk2⟩ := hk.out rfl; obtain ⟨j, rfl⟩ := Int.eq_ofNat_of_zero_le hk1; have hk3 : j < l.length := by omega)
    go_ret
    refine ⟨⟨_, rfl, nil_text _ _ ?_⟩, hbw⟩
    rw [extract_eq]
    cases hl : List.take (l.length - j) (List.drop j (ByteArray.mk l.toArray).data.toList) with
    | nil =>
      have := congrArg List.length hl
      simp at this
      omega
    | cons a t => rfl
  · go_enter Tryd.func42, Tryd.ntmps42
    go_wp2_with (go_at_call 56; refine (HX.out _).mono ?_; rintro e w' ⟨⟨k, rfl, hk, _⟩, hbw⟩; have hk1 := hk.out rfl; subst hk1)
    go_ret
    exact ⟨⟨_, rfl, nil_text _ _ rfl⟩, hbw⟩

theorem kspaces_any (l : List UInt8) (b : Bool) (hb : Hid ((runes l).all spaceN = b)) (hs : l.length ≤ 9223372036854775000) (w : World) :
    Calls Tryd.prog 22 #[.string ⟨l.toArray⟩] w fun e w' => e = .returned (.bool b) ∧ Below w.heap.size w w' := by
  have HX := (show Hid _ from fun w => ktrimf_any l b hb hs w)
  cases b
  all_goals
    go_enter Tryd.func22, Tryd.ntmps22
    go_wp2_with (go_at_call 42; refine (HX.out _).mono ?_; rintro e w' ⟨⟨x, rfl, hx⟩, hbw⟩; have hx1 := hx.out)
    go_ret
    exact ⟨rfl, hbw⟩

end Go.Proofs.YtadghfgjdfgopaaDoor
