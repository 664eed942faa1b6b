/- Same, of the document's answer: a row of grants and itself; walked. -/
import Derived.Test.YtocfdpjclmieiaaAShown
set_option linter.unusedVariables false
namespace Go.Proofs.Ytocfdpjclmieiaa
open Go.RowKit

set_option maxHeartbeats 4000000 in
set_option maxRecDepth 8000 in
theorem asame_any (l : List GrA) (hl : l.length ≤ 9223372036854775000) (v1 v2 : Value) (w : World) (h1 : GrsAt w v1 l) (h2 : GrsAt w v2 l) : Calls Try.prog 17 #[v1, v2] w fun e w' => e = .returned (.bool true) ∧ Below w.heap.size w w' := by
  obtain ⟨a1, c1, rfl, hc1⟩ := h1
  obtain ⟨a2, c2, rfl, hc2⟩ := h2
  have H1 := (show Hid (∀ i g, l[i]? = some g → ∃ b o, a1 = some ⟨b, o, none⟩ ∧ b < w.heap.size ∧ w.cell? ⟨b, o + i * 3, none⟩ = some (strA g.tenant) ∧ w.cell? ⟨b, o + i * 3 + 1, none⟩ = some (strA g.who) ∧ w.cell? ⟨b, o + i * 3 + 2, none⟩ = some (.int .i64 g.right)) from hc1)
  have H2 := (show Hid (∀ i g, l[i]? = some g → ∃ b o, a2 = some ⟨b, o, none⟩ ∧ b < w.heap.size ∧ w.cell? ⟨b, o + i * 3, none⟩ = some (strA g.tenant) ∧ w.cell? ⟨b, o + i * 3 + 1, none⟩ = some (strA g.who) ∧ w.cell? ⟨b, o + i * 3 + 2, none⟩ = some (.int .i64 g.right)) from hc2)
  have hll : (l.length : Int) ≤ 9223372036854775000 := by omega
  clear hc1 hc2
  go_enter Try.func17, Try.ntmps17
  go_wp2
  go_loopw [5] (fun i wr => ∃ k : Nat, i = .int .i64 (k : Int) ∧ k ≤ l.length ∧ Hid (Below w.heap.size w wr)) (fun i _ => l.length - (intOf i).toNat)
  case atStart => exact ⟨0, rfl, Nat.zero_le _, Below.refl _ _⟩
  case round =>
    obtain ⟨k, rfl, hk, HB⟩ := hrel
    by_cases hlt : k < l.length
    · have hlt1 : (k : Int) < (l.length : Int) := by omega
      obtain ⟨g, hg⟩ : ∃ g, l[k]? = some g := ⟨_, List.getElem?_eq_getElem hlt⟩
      obtain ⟨b, o, ha, hb, p0, p1, p2⟩ := H1.out k g hg
      obtain ⟨b', o', ha', hb', q0, q1, q2⟩ := H2.out k g hg
      have d0 : wr.drew.cell? ⟨b, o + k * 3, none⟩ = some (strA g.tenant) := (HB.out.cell (p := ⟨b, o + k * 3, none⟩) hb).trans p0
      have d1 : wr.drew.cell? ⟨b, o + k * 3 + 1, none⟩ = some (strA g.who) := (HB.out.cell (p := ⟨b, o + k * 3 + 1, none⟩) hb).trans p1
      have d2 : wr.drew.cell? ⟨b, o + k * 3 + 2, none⟩ = some (.int .i64 g.right) := (HB.out.cell (p := ⟨b, o + k * 3 + 2, none⟩) hb).trans p2
      have f0 : wr.drew.cell? ⟨b', o' + k * 3, none⟩ = some (strA g.tenant) := (HB.out.cell (p := ⟨b', o' + k * 3, none⟩) hb').trans q0
      have f1 : wr.drew.cell? ⟨b', o' + k * 3 + 1, none⟩ = some (strA g.who) := (HB.out.cell (p := ⟨b', o' + k * 3 + 1, none⟩) hb').trans q1
      have f2 : wr.drew.cell? ⟨b', o' + k * 3 + 2, none⟩ = some (.int .i64 g.right) := (HB.out.cell (p := ⟨b', o' + k * 3 + 2, none⟩) hb').trans q2
      clear p0 p1 p2 q0 q1 q2
      subst ha
      subst ha'
      clear H1 H2 hg
      obtain ⟨t, h, r⟩ := g
      simp only at d0 d1 d2 f0 f1 f2
      have e0 : (t == t) = true := by simp
      have e1 : (h == h) = true := by simp
      have e2 : (r == r) = true := by simp
      go_wp2
      go_region
      all_goals (go_wp2_with fail)
      all_goals exact ⟨⟨k + 1, by go_num, by omega, below_drewA HB.out⟩, by (simp [intOf]) <;> omega⟩
    · have hlt1 : ¬ (k : Int) < (l.length : Int) := by omega
      clear H1 H2
      go_wp2
      go_ret
      exact ⟨rfl, HB.out⟩
end Go.Proofs.Ytocfdpjclmieiaa
