/- Two equal rows of texts; walked. -/
import Derived.Test.YtocfdpjclmieiaaATen
set_option linter.unusedVariables false
namespace Go.Proofs.Ytocfdpjclmieiaa
open Go.RowKit

theorem strs_row {w : World} {B : Nat} {v : Value} {l : List StrA} (h : w.ownsRow B 9 1 v l.length (l.map strA)) : StrsAt w v l := by
  obtain ⟨a, c, rfl⟩ := arow_len h
  refine ⟨a, c, rfl, fun i q hq => ?_⟩
  have hq2 : (l.map strA)[i]? = some (strA q) := by rw [List.getElem?_map, hq]; rfl
  obtain ⟨g, e, hg, q1⟩ := arow_cell h hq2
  exact ⟨g, 0, e, hg, by rw [Nat.zero_add]; exact q1⟩
theorem StrsAt.below {w w' : World} {v : Value} {l : List StrA} (h : StrsAt w v l) (hb : Below w.heap.size w w') : StrsAt w' v l := by
  obtain ⟨a, cap, rfl, hc⟩ := h
  refine ⟨a, cap, rfl, fun i s hs => ?_⟩
  obtain ⟨b, o, e, hbw, q⟩ := hc i s hs
  exact ⟨b, o, e, Nat.lt_of_lt_of_le hbw hb.size, (hb.cell (p := ⟨b, o + i, none⟩) hbw).trans q⟩
set_option maxHeartbeats 4000000 in
set_option maxRecDepth 8000 in
theorem atexts_any (l : List StrA) (hl : l.length ≤ 100) (v1 v2 : Value) (w : World) (h1 : StrsAt w v1 l) (h2 : StrsAt w v2 l) : Calls Try.prog 9 #[v1, v2] w fun e w' => e = .returned (.bool true) ∧ Below w.heap.size w w' := by
  obtain ⟨a1, c1, rfl, hc1⟩ := h1
  obtain ⟨a2, c2, rfl, hc2⟩ := h2
  have H1 := (show Hid (∀ i s, l[i]? = some s → ∃ b o, a1 = some ⟨b, o, none⟩ ∧ b < w.heap.size ∧ w.cell? ⟨b, o + i, none⟩ = some (strA s)) from hc1)
  have H2 := (show Hid (∀ i s, l[i]? = some s → ∃ b o, a2 = some ⟨b, o, none⟩ ∧ b < w.heap.size ∧ w.cell? ⟨b, o + i, none⟩ = some (strA s)) from hc2)
  have hll : (l.length : Int) ≤ 100 := by omega
  clear hc1 hc2
  go_enter Try.func9, Try.ntmps9
  go_wp2
  go_loopw [5] (fun i wr => ∃ k : Nat, i = .int .i64 (k : Int) ∧ k ≤ l.length ∧ Hid (Below w.heap.size w wr)) (fun i _ => l.length - (intOf i).toNat)
  case atStart => exact ⟨0, rfl, Nat.zero_le _, Below.refl _ _⟩
  case round =>
    obtain ⟨k, rfl, hk, HB⟩ := hrel
    by_cases hlt : k < l.length
    · have hlt1 : (k : Int) < (l.length : Int) := by omega
      obtain ⟨g, hg⟩ : ∃ g, l[k]? = some g := ⟨_, List.getElem?_eq_getElem hlt⟩
      obtain ⟨b, o, ha, hb, p0⟩ := H1.out k g hg
      obtain ⟨b', o', ha', hb', q0⟩ := H2.out k g hg
      have d0 : wr.drew.cell? ⟨b, o + k, none⟩ = some (strA g) := (HB.out.cell (p := ⟨b, o + k, none⟩) hb).trans p0
      have f0 : wr.drew.cell? ⟨b', o' + k, none⟩ = some (strA g) := (HB.out.cell (p := ⟨b', o' + k, none⟩) hb').trans q0
      clear p0 q0
      subst ha
      subst ha'
      clear H1 H2 hg
      have e0 : (g == g) = true := by simp
      have e1 : (g != g) = false := by simp
      go_wp2
      go_region
      all_goals (go_wp2_with fail)
      all_goals exact ⟨⟨k + 1, by go_num, by omega, below_drewA HB.out⟩, by (simp [intOf]) <;> omega⟩
    · have hlt1 : ¬ (k : Int) < (l.length : Int) := by omega
      clear H1 H2
      go_wp2
      go_ret
      exact ⟨rfl, HB.out⟩
end Go.Proofs.Ytocfdpjclmieiaa
