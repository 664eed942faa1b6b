/- Package disk: names: a map's keys, sorted. -/
import Derived.Test.YtkbmblmnhhlicaaGreatDoorDMem
import Derived.Test.YtkbmblmnhhlicaaGreatDoorIterL
import Derived.Shelf.SlIter.Nil
import Derived.Shelf.SortM.Plain
import Derived.Shelf.SortM.SortNone
set_option linter.unusedVariables false
namespace Go.Proofs.YtkbmblmnhhlicaaGreatDoor
open Go.RowKit Go.Maps Go.Sort Go.Shelf

theorem sortsL (m : Nat) : AnyZ.SortsIn Tryz.prog Tryz.sortedL_ren Fence.wide m :=
  ⟨fun blk off cap ss W hH hblk hsz => callsIn_wide.2 (AnyM.slices_Sort_string Tryz.sortL blk off cap ss W hH hblk hsz),
   fun p cap W => callsIn_wide.2 (AnyM.slices_Sort_string_none Tryz.sortL p cap W)⟩

theorem keys_at (mb : Option Nat) (W : World) : CallsIn Fence.wide 5 Tryz.prog 161 #[.map mb] W fun e w' => e = .returned (.func (.func 181) #[] #[.pointer (some ⟨W.heap.size, 0, none⟩)]) ∧ w' = W.alloc (.cells #[.map mb] 85) :=
  AnyZ.keys_in Tryz.keysL Fence.wide 5 trivial rfl mb W

set_option maxHeartbeats 1000000 in
theorem sorted_at {H : Type} (b nn : Nat) (D0 : DataW H) (R : Value → Option (DataW H × List MemPlace)) (w : World) (hown : w.ownsMap Tryz.prog 9 R b nn D0) (hmax : Maps.size D0 ≤ maxLen) (hbytes : Maps.size D0 * 16 ≤ 140737488355328) :
    CallsIn Fence.wide 5 Tryz.prog 160 #[.func (.func 181) #[] #[.pointer (some ⟨w.heap.size, 0, none⟩)]] (w.alloc (.cells #[.map (some b)] 85)) fun e w' => ∃ (v : Value) (ss : List (List UInt8)), e = .returned v ∧ ss.Perm (strKeys D0) ∧
      w'.ownsRow (w.alloc (.cells #[.map (some b)] 85)).heap.size 9 1 v ss.length ((ss.mergeSort (fun x y => decide (x ≤ y))).map encStr) ∧ (v = .slice none 0 0 ↔ ss = []) ∧ Below (w.alloc (.cells #[.map (some b)] 85)).heap.size (w.alloc (.cells #[.map (some b)] 85)) w' := by
  have hbl := hown.lt
  have hseq : SeqGives Fence.wide 2 Tryz.prog 181 #[.pointer (some ⟨w.heap.size, 0, none⟩)] encStr (fun ss => ss.Perm (strKeys D0)) (Maps.size D0) (w.alloc (.cells #[.map (some b)] 85)) :=
    AnyZ.keys_gives (ρ := Tryz.keysL_ren) { Tryz.keysL with } Fence.wide _ trivial rfl (by omega) w.heap.size b nn D0 _ (by simp) (by simp) (by
      obtain ⟨es, clock, hb, Ft, hs, hD⟩ := hown
      exact ⟨es, clock, (Below.heap_alloc _ _ b hbl).trans hb, Ft, hs, hD⟩)
  exact AnyZ.sorted_in Tryz.sortedL Fence.wide 5 trivial trivial trivial trivial rfl (by omega) (sortsL _) (enters_of Tryz.func180 (by kernel_rfl) rfl) 181 #[.pointer (some ⟨w.heap.size, 0, none⟩)] trivial (enters_of Tryz.func181 (by kernel_rfl) rfl) _ _ hmax hbytes _ hseq

abbrev nmCells (l : List Nm) : List Value := l.map encStr

theorem strKeys_ent (l : List (Nm × Value)) : strKeys (DataW.map (l.map entV)) = l.map (·.1) := by
  show (l.map entV).map _ = _
  rw [List.map_map]
  rfl

set_option maxHeartbeats 1000000 in
/-- The names, rising, in a row of their own. -/
theorem names_any {w : World} {b m : Nat} {S : Nat → Prop} {sl : Nm → Value} {ex : Option Nm} {d : Dk} (h : DkW w b m S sl ex d) :
    Calls Tryz.prog 127 #[dptr b] w fun e w' => ∃ v, e = .returned v ∧ w'.ownsRow w.heap.size 9 1 v d.files.length (nmCells (d.files.map (·.1))) ∧ Below w.heap.size w w' := by
  have c2 := h.c2
  have hm := h.map
  have hfew := h.ok.few
  have hs : Maps.size (DataW.map ((filesV sl d.files).map entV)) ≤ 1048576 := by rw [Maps.size_eq, List.length_map, List.length_map]; exact hfew
  have hR := h.ok.rises
  have hmax : Maps.size (DataW.map ((filesV sl d.files).map entV)) ≤ maxLen := by unfold maxLen; omega
  have hby : Maps.size (DataW.map ((filesV sl d.files).map entV)) * 16 ≤ 140737488355328 := by omega
  have HE : Hid (∀ ss : List Nm, ss.Perm (strKeys (DataW.map ((filesV sl d.files).map entV))) → ss.mergeSort (fun x y => decide (x ≤ y)) = d.files.map (·.1) ∧ ss.length = d.files.length) := by
    intro ss hp
    rw [strKeys_ent] at hp
    have e1 : (filesV sl d.files).map (·.1) = d.files.map (·.1) := by rw [List.map_map]; rfl
    rw [e1] at hp
    exact ⟨names_sorted hR hp, by rw [hp.length_eq, List.length_map]⟩
  clear hR hs hfew h
  refine (callsIn_wide (n := 6)).1 ?_
  have hfK : Fence.wide.fn 161 := trivial
  have hfS : Fence.wide.fn 160 := trivial
  refine callsIn_of_wp Tryz.func127 rfl trivial ?_ rfl
  simp only [Tryz.ntmps127, List.size_toArray, List.length_cons, List.length_nil, Nat.reduceAdd, Nat.reduceSub, Array.replicate_succ, Array.replicate_zero, List.push_toArray, List.append_toArray, List.nil_append, List.cons_append]
  gi_wp2_with (first
    | (gi_at_call 161; refine (keys_at _ _).mono ?_; rintro e w' ⟨rfl, rfl⟩)
    | (gi_at_call 160; refine (sorted_at m _ _ heldR w hm hmax hby).mono ?_; rintro e w' ⟨v, ss, rfl, hS, hrow, hnil, hb⟩))
  go_ret
  refine ⟨v, rfl, ?_, ((Below.refl _ w).alloc (Nat.le_refl _) _).trans (hb.mono (by simp))⟩
  have := ownsRow_base_a (base' := w.heap.size) hrow (by simp)
  obtain ⟨q1, q2⟩ := HE.out ss hS
  rw [q1, q2] at this
  exact this
end Go.Proofs.YtkbmblmnhhlicaaGreatDoor
