/- large, and two equal rows of Refs; walked. -/
import Derived.Test.YtkjicdldlnefeaaDoorNShown2
set_option linter.unusedVariables false
namespace Go.Proofs.YtkjicdldlnefeaaDoor
open Go.RowKit

/-- What large answers. -/
def LargeP (l : List PgA) (w : World) (e : Ending) (w' : World) : Prop := (∃ B, e = .returned (.bool B) ∧ (B = false → l.length ≤ 200 ∧ ∀ p ∈ l, p.text.length ≤ 40000)) ∧ w' = w
set_option maxHeartbeats 4000000 in
set_option maxRecDepth 8000 in
theorem nlarge_any (l : List PgA) (hl : l.length ≤ 9223372036854775000) (htx : ∀ p ∈ l, p.text.length ≤ 140737488355328) (v : Value) (w : World) (hv : PgsN w v l) : Calls Tryd.prog 14 #[v] w fun e w' => LargeP l w e w' := by
  obtain ⟨a, cap, rfl, hc⟩ := hv
  have HC := (show Hid (∀ i p, l[i]? = some p → ∃ b o, a = some ⟨b, o, none⟩ ∧ b < w.heap.size ∧ w.cell? ⟨b, o + i * 4, none⟩ = some (strA p.ref.tenant) ∧ w.cell? ⟨b, o + i * 4 + 1, none⟩ = some (strA p.ref.doc) ∧ w.cell? ⟨b, o + i * 4 + 2, none⟩ = some (.int .i64 p.ref.ver) ∧ w.cell? ⟨b, o + i * 4 + 3, none⟩ = some (strA p.text)) from hc)
  have HT := (show Hid (∀ p ∈ l, p.text.length ≤ 140737488355328) from htx)
  have hli : (l.length : Int) ≤ 9223372036854775000 := by omega
  clear hc htx
  go_enter Tryd.func14, Tryd.ntmps14
  go_wp2
  go_loopw [3, 4] (fun n i wr => ∃ (k : Nat) (N : Int), i = .int .i64 (k : Int) ∧ n = .int .i64 N ∧ k ≤ l.length ∧ 0 ≤ N ∧ N ≤ 140737488395528 ∧ Hid (200 * (k : Int) ≤ N ∧ ∀ i p, i < k → l[i]? = some p → (p.text.length : Int) ≤ N) ∧ wr = w) (fun _ i _ => l.length - (intOf i).toNat)
  case atStart => exact ⟨0, 0, rfl, rfl, Nat.zero_le _, by omega, by omega, ⟨by omega, fun i p h => absurd h (Nat.not_lt_zero _)⟩, rfl⟩
  case round =>
    obtain ⟨k, N, rfl, rfl, hk, hN0, hN1, HI, hw⟩ := hrel
    subst hw
    by_cases hlt : k < l.length
    · have hlt1 : (k : Int) < (l.length : Int) := by omega
      by_cases hN : N ≤ 40000
      · obtain ⟨p, hp⟩ : ∃ p, l[k]? = some p := ⟨_, List.getElem?_eq_getElem hlt⟩
        obtain ⟨b, o, ha, hb, p0, p1, p2, p3⟩ := HC.out k p hp
        subst ha
        have htl := HT.out p (List.mem_of_getElem? hp)
        have hti : (p.text.length : Int) ≤ 140737488355328 := by omega
        have HI2 : Hid (200 * ((k + 1 : Nat) : Int) ≤ N + 200 + (p.text.length : Int) ∧ ∀ i q, i < k + 1 → l[i]? = some q → (q.text.length : Int) ≤ N + 200 + (p.text.length : Int)) := by
          refine ⟨by have := HI.out.1; omega, fun i q hi hq => ?_⟩
          rcases Nat.lt_or_ge i k with h2 | h2
          · have := HI.out.2 i q h2 hq
            omega
          · have : i = k := by omega
            subst this
            rw [hp] at hq
            cases hq
            omega
        clear HI htl HC HT hp
        obtain ⟨⟨pt, pd, pv⟩, px⟩ := p
        simp only at p0 p1 p2 p3 HI2 hti
        go_wp2
        exact ⟨⟨k + 1, N + 200 + (px.length : Int), by go_num, by first | rfl | go_num, by omega, by omega, by omega, HI2, by first | rfl | trivial⟩, by (simp [intOf]) <;> omega⟩
      · have hNb : 40000 < N := by omega
        clear HI HC HT hN
        go_wp2
        go_ret
        exact ⟨⟨true, by simp, fun h => by cases h⟩, rfl⟩
    · have hlt1 : ¬ (k : Int) < (l.length : Int) := by omega
      obtain rfl : k = l.length := by omega
      have HF : Hid (N ≤ 40000 → l.length ≤ 200 ∧ ∀ p ∈ l, p.text.length ≤ 40000) := fun q => by
        refine ⟨by have := HI.out.1; omega, fun p hp => ?_⟩
        obtain ⟨i, hi⟩ := List.getElem?_of_mem hp
        have := HI.out.2 i p (List.getElem?_eq_some_iff.1 hi).1 hi
        omega
      clear HI HC HT
      go_wp2
      go_ret
      refine ⟨⟨decide (40000 < N), rfl, fun h => HF.out ?_⟩, rfl⟩
      have := of_decide_eq_false h
      omega

set_option maxHeartbeats 4000000 in
set_option maxRecDepth 8000 in
theorem nrefs_any (l : List RfA) (hl : l.length ≤ 9223372036854775000) (v1 v2 : Value) (w : World) (h1 : RfsN w v1 l) (h2 : RfsN w v2 l) : Calls Tryd.prog 17 #[v1, v2] w fun e w' => e = .returned (.bool true) ∧ Below w.heap.size w w' := by
  obtain ⟨a1, c1, rfl, hc1⟩ := h1
  obtain ⟨a2, c2, rfl, hc2⟩ := h2
  have H1 := (show Hid (∀ i r, l[i]? = some r → ∃ b o, a1 = some ⟨b, o, none⟩ ∧ b < w.heap.size ∧ w.cell? ⟨b, o + i * 3, none⟩ = some (strA r.tenant) ∧ w.cell? ⟨b, o + i * 3 + 1, none⟩ = some (strA r.doc) ∧ w.cell? ⟨b, o + i * 3 + 2, none⟩ = some (.int .i64 r.ver)) from hc1)
  have H2 := (show Hid (∀ i r, l[i]? = some r → ∃ b o, a2 = some ⟨b, o, none⟩ ∧ b < w.heap.size ∧ w.cell? ⟨b, o + i * 3, none⟩ = some (strA r.tenant) ∧ w.cell? ⟨b, o + i * 3 + 1, none⟩ = some (strA r.doc) ∧ w.cell? ⟨b, o + i * 3 + 2, none⟩ = some (.int .i64 r.ver)) from hc2)
  have hll : (l.length : Int) ≤ 9223372036854775000 := by omega
  clear hc1 hc2
  go_enter Tryd.func17, Tryd.ntmps17
  go_wp2
  go_loopw [5] (fun i wr => ∃ k : Nat, i = .int .i64 (k : Int) ∧ k ≤ l.length ∧ Hid (Below w.heap.size w wr)) (fun i _ => l.length - (intOf i).toNat)
  case atStart => exact ⟨0, rfl, Nat.zero_le _, Below.refl _ _⟩
  case round =>
    obtain ⟨k, rfl, hk, HB⟩ := hrel
    by_cases hlt : k < l.length
    · have hlt1 : (k : Int) < (l.length : Int) := by omega
      obtain ⟨g, hg⟩ : ∃ g, l[k]? = some g := ⟨_, List.getElem?_eq_getElem hlt⟩
      obtain ⟨b, o, ha, hb, p0, p1, p2⟩ := H1.out k g hg
      obtain ⟨b', o', ha', hb', q0, q1, q2⟩ := H2.out k g hg
      have d0 : wr.drew.cell? ⟨b, o + k * 3, none⟩ = some (strA g.tenant) := (HB.out.cell (p := ⟨b, o + k * 3, none⟩) hb).trans p0
      have d1 : wr.drew.cell? ⟨b, o + k * 3 + 1, none⟩ = some (strA g.doc) := (HB.out.cell (p := ⟨b, o + k * 3 + 1, none⟩) hb).trans p1
      have d2 : wr.drew.cell? ⟨b, o + k * 3 + 2, none⟩ = some (.int .i64 g.ver) := (HB.out.cell (p := ⟨b, o + k * 3 + 2, none⟩) hb).trans p2
      have f0 : wr.drew.cell? ⟨b', o' + k * 3, none⟩ = some (strA g.tenant) := (HB.out.cell (p := ⟨b', o' + k * 3, none⟩) hb').trans q0
      have f1 : wr.drew.cell? ⟨b', o' + k * 3 + 1, none⟩ = some (strA g.doc) := (HB.out.cell (p := ⟨b', o' + k * 3 + 1, none⟩) hb').trans q1
      have f2 : wr.drew.cell? ⟨b', o' + k * 3 + 2, none⟩ = some (.int .i64 g.ver) := (HB.out.cell (p := ⟨b', o' + k * 3 + 2, none⟩) hb').trans q2
      clear p0 p1 p2 q0 q1 q2
      subst ha
      subst ha'
      clear H1 H2 hg
      obtain ⟨t, h, r⟩ := g
      simp only at d0 d1 d2 f0 f1 f2
      have e0 : (t == t) = true := by simp
      have e1 : (h == h) = true := by simp
      have e2 : (r == r) = true := by simp
      go_wp2
      go_region
      all_goals (go_wp2_with fail)
      all_goals exact ⟨⟨k + 1, by go_num, by omega, below_drewM HB.out⟩, by (simp [intOf]) <;> omega⟩
    · have hlt1 : ¬ (k : Int) < (l.length : Int) := by omega
      clear H1 H2
      go_wp2
      go_ret
      exact ⟨rfl, HB.out⟩
end Go.Proofs.YtkjicdldlnefeaaDoor
