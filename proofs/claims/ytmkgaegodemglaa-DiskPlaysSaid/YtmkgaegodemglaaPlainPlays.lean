/- How much a step of a script may add. -/
import Derived.Test.YtmkgaegodemglaaDDoes
set_option linter.unusedVariables false
namespace Go.Proofs.Ytmkgaegodemglaa

def Bd (U N : Nat) (l : Fls) : Prop := usedL l ≤ U ∧ l.length ≤ N
theorem bd_fall {U N keep : Nat} {l : Fls} (h : Bd U N l) (hl : ∀ p ∈ l, p.2.la ≤ p.2.bs.length) : Bd U N (fallL keep 0 l) := ⟨Nat.le_trans (fallL_used hl) h.1, by rw [fallL_length]; exact h.2⟩
theorem bd_fail {U N : Nat} {d : Dk} (h : Bd U N d.files) (hl : ∀ p ∈ d.files, p.2.la ≤ p.2.bs.length) : Bd U N (failD d).files := by
  unfold failD
  split
  · exact bd_fall h hl
  · unfold doneD
    split <;> exact h
theorem Bd.more {U N U' N' : Nat} {l : Fls} (h : Bd U N l) (h1 : U ≤ U') (h2 : N ≤ N') : Bd U' N' l := ⟨Nat.le_trans h.1 h1, Nat.le_trans h.2 h2⟩
theorem bd_del {U N : Nat} {l : Fls} (h : Bd U N l) (hr : Rises l) (n : Nm) : Bd U N (delA n l) := by
  have := usedL_del n l hr
  have hl : (delA n l).length ≤ l.length := List.length_filter_le _ _
  exact ⟨by have := h.1; omega, by have := h.2; omega⟩
theorem bd_reput {U N : Nat} {l : Fls} (h : Bd U N l) (hr : Rises l) {n : Nm} {f : Fl} (hg : getA n l = some f) {bs : List UInt8} {la : Nat} (hb : bs.length ≤ f.bs.length) : Bd U N (putA n ⟨bs, la⟩ l) :=
  ⟨Nat.le_trans (putA_used hr hg bs la hb) h.1, by rw [putA_len hr hg]; exact h.2⟩

theorem bd_step {U N : Nat} {d : Dk} (hd : DkOk d) (h : Bd U N d.files) (kind : Int) (n tn : Nm) {l : List UInt8} (hl : l.length ≤ 3000) (k : Int) (keep : Nat) : Bd (U + 3000) (N + 1) (stepD d kind n tn l k keep).files := by
  have hm : Bd (U + 3000) (N + 1) d.files := h.more (by omega) (by omega)
  have hff : ∀ h0 : d.ahead ≠ 0, (failD d).files = d.files := fun h0 => failD_files h0
  have hfl := bd_fail hm hd.lasts
  unfold stepD
  split
  · unfold appendP
    split
    · exact hm
    · split
      · exact hm
      · split
        · exact hm
        · have hg := usedL_put n ⟨(oldF d n).bs ++ l, (oldF d n).la⟩ d.files hd.rises
          have e : (oldF d n).bs.length = ((getA n d.files).getD ⟨[], 0⟩).bs.length := rfl
          simp only [List.length_append] at hg
          refine bd_fail (d := addD d n l) ⟨?_, ?_⟩ ?_
          · show usedL (putA n ⟨(oldF d n).bs ++ l, (oldF d n).la⟩ d.files) ≤ _
            have := h.1
            omega
          · show (putA n (⟨(oldF d n).bs ++ l, (oldF d n).la⟩ : Fl) d.files).length ≤ _
            have := putA_length n (⟨(oldF d n).bs ++ l, (oldF d n).la⟩ : Fl) d.files
            have := h.2
            omega
          · intro p hp
            rcases mem_putA.1 hp with rfl | ⟨hp, _⟩
            · show (oldF d n).la ≤ ((oldF d n).bs ++ l).length
              rw [List.length_append]
              cases hgn : getA n d.files with
              | none => show ((getA n d.files).getD ⟨[], 0⟩).la ≤ _; rw [hgn]; exact Nat.zero_le _
              | some f => show ((getA n d.files).getD ⟨[], 0⟩).la ≤ ((getA n d.files).getD ⟨[], 0⟩).bs.length + _; rw [hgn]; exact Nat.le_trans (hd.lasts _ (getA_mem hgn)) (Nat.le_add_right _ _)
            · exact hd.lasts p hp
  · split
    · unfold syncP
      split
      · exact hm
      · rename_i hfv
        have hfv0 : findV d n = 0 := Decidable.of_not_not hfv
        split
        · exact hfl
        · rename_i h0
          show Bd _ _ (putA n _ (failD d).files)
          rw [hff h0]
          exact bd_reput hm hd.rises (findV_get hfv0) (Nat.le_refl _)
    · split
      · unfold cutP
        split
        · exact hm
        · rename_i hfv
          have hfv0 : findV d n = 0 := Decidable.of_not_not hfv
          split
          · exact hm
          · split
            · exact hfl
            · rename_i h0
              show Bd _ _ (putA n _ (failD d).files)
              rw [hff h0]
              exact bd_reput hm hd.rises (findV_get hfv0) (by rw [List.length_take]; exact Nat.min_le_right _ _)
      · split
        · unfold renameP
          split
          · exact hm
          · rename_i hfv
            have hfv0 : findV d n = 0 := Decidable.of_not_not hfv
            split
            · exact hm
            · split
              · exact hfl
              · rename_i h0
                show Bd _ _ (putA tn (theF d n) (delA n (failD d).files))
                rw [hff h0]
                have h1 := usedL_del n d.files hd.rises
                rw [findV_get hfv0] at h1
                simp only [Option.getD_some] at h1
                have h2 := usedL_put tn (theF d n) (delA n d.files) (rises_delA hd.rises)
                have h3 := putA_length tn (theF d n) (delA n d.files)
                have h4 : (delA n d.files).length ≤ d.files.length := List.length_filter_le _ _
                have := h.1
                have := h.2
                exact ⟨by omega, by omega⟩
        · split
          · unfold removeP
            split
            · exact hm
            · split
              · exact hfl
              · rename_i h0
                show Bd _ _ (delA n (failD d).files)
                rw [hff h0]
                exact bd_del hm hd.rises n
          · split
            · unfold armD
              split <;> exact hm
            · split
              · unfold crashD
                split
                · exact bd_fall hm hd.lasts
                · exact hm
              · split
                · exact hm
                · exact hm
end Go.Proofs.Ytmkgaegodemglaa
