/- Files: the names of a disk, walked. -/
import Derived.Test.YtkbmblmnhhlicaaGreatDoorD03
set_option linter.unusedVariables false
namespace Go.Proofs.YtkbmblmnhhlicaaGreatDoor
open Go.RowKit

abbrev upNames (d : Dk) : List Nm := if d.up = true then d.files.map (·.1) else []
abbrev OwnS (w : World) (B : Nat) (v : Value) (l : List Nm) : Prop := w.ownsRow B 9 1 v l.length (nmCells l)

set_option maxHeartbeats 1000000 in
theorem files_any {w : World} {b m : Nat} {S : Nat → Prop} {sl : Nm → Value} {ex : Option Nm} {d : Dk} (h : DkW w b m S sl ex d) :
    Calls Tryz.prog 57 #[dptr b] w fun e w' => ∃ v, e = .returned v ∧ OwnS w' w.heap.size v (upNames d) ∧ Below w.heap.size w w' := by
  have c3 := h.c3
  have hN := names_any h
  clear h
  unfold upNames
  cases hu : d.up with
  | false =>
    rw [hu] at c3
    rw [if_neg (by decide)]
    clear hN
    go_enter Tryz.func57, Tryz.ntmps57
    go_wp2
    go_ret
    exact ⟨_, rfl, ⟨rfl, .inl ⟨rfl, rfl⟩⟩, Below.refl _ _⟩
  | true =>
    rw [hu] at c3
    rw [if_pos rfl]
    have HN : Hid (Calls Tryz.prog 127 #[dptr b] w fun e w' => ∃ v, e = .returned v ∧ OwnS w' w.heap.size v (d.files.map (·.1)) ∧ Below w.heap.size w w') := hN.mono fun e w' ⟨v, h1, h2, h3⟩ => ⟨v, h1, by show w'.ownsRow _ _ _ _ (d.files.map (·.1)).length _; rw [List.length_map]; exact h2, h3⟩
    clear hN
    go_enter Tryz.func57, Tryz.ntmps57
    go_wp2_with (fail)
    refine HN.out.mono ?_
    intro e w1 hq
    obtain ⟨v, rfl, h1, h2⟩ := hq
    have H1 : Hid (OwnS w1 w.heap.size v (d.files.map (·.1))) := h1
    clear h1
    go_wp2_with (fail)
    go_ret
    refine ⟨_, rfl, ?_, h2⟩
    have := H1.out
    simpa [nmCells] using this

theorem OwnS.shape {w : World} {B : Nat} {v : Value} {l : List Nm} (h : OwnS w B v l) : ∃ a c, v = .slice a l.length c := by
  rcases h.2 with ⟨rfl, h0⟩ | ⟨g, cap, cur, rfl, _⟩
  · exact ⟨none, 0, by rw [h0]⟩
  · exact ⟨_, _, rfl⟩
theorem OwnS.at {w : World} {B : Nat} {a : Option Addr} {n c : Nat} {l : List Nm} (h : OwnS w B (.slice a n c) l) {i : Nat} {x : Nm} (hi : l[i]? = some x) : ∃ g, a = some ⟨g, 0, none⟩ ∧ B ≤ g ∧ w.cell? ⟨g, i, none⟩ = some (strN x) ∧ w.frozen? ⟨g, i, none⟩ = false := by
  have hlt := (List.getElem?_eq_some_iff.1 hi).1
  rcases h.2 with ⟨h1, h0⟩ | ⟨g, cap, cur, h1, hB, hg, hnc, hcm, hcs, hx⟩
  · omega
  · have e3 : a = some ⟨g, 0, none⟩ := congrArg (fun v => match v with | Value.slice a _ _ => a | _ => none) h1
    refine ⟨g, e3, hB, ?_, free_blk hg i⟩
    have e1 : n = l.length := congrArg (fun v => match v with | Value.slice _ n _ => n | _ => 0) h1
    subst e3 e1
    have := h.cells (g := g) rfl i (strN x) (by simp [nmCells, encStr, hi])
    rwa [show (⟨g, 0, none⟩ : Addr).add i = ⟨g, i, none⟩ from by unfold Addr.add; split <;> simp_all] at this
theorem OwnS.keep {w w' : World} {B : Nat} {v : Value} {l : List Nm} (h : OwnS w B v l) (hk : ∀ g, v.ownBlock = some g → w'.heap[g]? = w.heap[g]?) : OwnS w' B v l := ⟨h.1, by
  rcases h.2 with hn | ⟨g, cap, cur, hv, hB, hgg, rest⟩
  · exact .inl hn
  · exact .inr ⟨g, cap, cur, hv, hB, (hk g (by rw [hv]; rfl)).trans hgg, rest⟩⟩
theorem OwnS.below {w w' : World} {B : Nat} {v : Value} {l : List Nm} (h : OwnS w B v l) (hb : Below w.heap.size w w') : OwnS w' B v l := own_below h hb
theorem OwnS.lt {w : World} {B : Nat} {v : Value} {l : List Nm} (h : OwnS w B v l) {g : Nat} (hg : v.ownBlock = some g) : B ≤ g ∧ g < w.heap.size := by
  rcases h.2 with ⟨rfl, _⟩ | ⟨g', cap, cur, rfl, hB, hgg, _⟩
  · cases hg
  · simp [Value.ownBlock] at hg
    subst hg
    exact ⟨hB, lt_blk hgg⟩

end Go.Proofs.YtkbmblmnhhlicaaGreatDoor
