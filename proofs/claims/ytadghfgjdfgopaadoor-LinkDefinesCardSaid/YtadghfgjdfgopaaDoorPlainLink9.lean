/- Plain lists: definitions as LinkDefines writes them. -/
import Derived.Test.YtadghfgjdfgopaaDoorPlainLink6
import Derived.Test.YtadghfgjdfgopaaDoorPlainLink8
set_option linter.unusedVariables false
namespace Go.Proofs.YtadghfgjdfgopaaDoor

def IsInd (p : List UInt8) : Prop := (∀ v, threeL 3 (p ++ 91 :: v) = 91 :: v) ∧ p.length ≤ 3
def IsGap1 (p : List UInt8) : Prop := (∀ b v, b ≠ 32 ∧ b ≠ 9 ∧ b ≠ 10 → gapL 0 (p ++ b :: v) = b :: v) ∧ p.length ≤ 5
def IsQ (D q : List UInt8) : Prop := q = D ∨ q = 60 :: (D ++ [62])
def IsGap2 (p : List UInt8) : Prop := (∀ b v, b ≠ 32 ∧ b ≠ 9 ∧ b ≠ 10 → gapL 0 (p ++ b :: v) = b :: v) ∧ p ≠ [] ∧ (∀ v, endsB (p ++ v)) ∧ p.length ≤ 4
def IsT (t Q : List UInt8) : Prop := ∃ a : UInt8, (a = 34 ∨ a = 39 ∨ a = 40) ∧ Q = a :: (t ++ [if a = 40 then 41 else a])
def IsEnd1 (p : List UInt8) : Prop := (lineL p = some [] ∧ gapL 0 p = [] ∧ endsB p) ∧ (lineL (p ++ [10, 109, 111, 114, 101]) = some [109, 111, 114, 101] ∧ gapL 0 (p ++ [10, 109, 111, 114, 101]) = [109, 111, 114, 101] ∧ endsB (p ++ [10, 109, 111, 114, 101])) ∧ p.length ≤ 2

theorem ind_each (m : Nat) (hm : m < 3) : IsInd (([[], [32], [32, 32, 32]] : List (List UInt8))[m]) := by
  refine ⟨three_each ⟨m, hm⟩, ?_⟩
  match m, hm with
  | 0, _ => simp
  | 1, _ => simp
  | 2, _ => simp
theorem gap1_each (m : Nat) (hm : m < 4) : IsGap1 (([[], [32], [10], [32, 9, 10, 32, 32]] : List (List UInt8))[m]) := by
  refine ⟨fun b v hb => gap_each ⟨m, hm⟩ hb v, ?_⟩
  match m, hm with
  | 0, _ => simp
  | 1, _ => simp
  | 2, _ => simp
  | 3, _ => simp
theorem gap2_is (m : Nat) (hm : m < 3) : IsGap2 (([[32], [10], [9, 32, 10, 32]] : List (List UInt8))[m]) := by
  refine ⟨fun b v hb => (gap2_each ⟨m, hm⟩ hb).1 v, (gap2_each ⟨m, hm⟩ (b := 97) (by decide)).2.1, (gap2_each ⟨m, hm⟩ (b := 97) (by decide)).2.2, ?_⟩
  match m, hm with
  | 0, _ => simp
  | 1, _ => simp
  | 2, _ => simp
theorem end1_each (m : Nat) (hm : m < 3) : IsEnd1 (([[], [32], [32, 9]] : List (List UInt8))[m]) := by
  refine ⟨end_each ⟨m, hm⟩, end_more ⟨m, hm⟩ (b := 109) (by decide) [111, 114, 101], ?_⟩
  match m, hm with
  | 0, _ => simp
  | 1, _ => simp
  | 2, _ => simp

/-- How the text is put together ahead of what stands behind where it leads. -/
def headD (p0 u p1 q y : List UInt8) : List UInt8 := p0 ++ ((91 :: u ++ [93]) ++ (58 :: (p1 ++ (q ++ y))))

theorem q_head {D q : List UInt8} {D1 : List UInt8} (hD : D = 100 :: D1) (hq : IsQ D q) : ∃ b w, q = b :: w ∧ b ≠ 32 ∧ b ≠ 9 ∧ b ≠ 10 := by
  rcases hq with rfl | rfl
  · exact ⟨100, D1, hD, by decide⟩
  · exact ⟨60, _, rfl, by decide⟩
theorem q_dest {D q : List UInt8} {D1 : List UInt8} (hD : D = 100 :: D1) (hp : ∀ x ∈ D, plC x) (hq : IsQ D q) {y : List UInt8} (hy : endsB y) : destL (q ++ y) = some (D, q.length) := by
  rcases hq with rfl | rfl
  · subst hD
    exact dest_plain hp hy
  · exact dest_plain2 hp y

theorem q_len {D q : List UInt8} (hq : IsQ D q) : q.length ≤ D.length + 2 := by
  rcases hq with rfl | rfl <;> simp

section
variable {p0 u U p1 q D D1 : List UInt8}

theorem lab_any (hu : u = 108 :: U) (hU : ∀ x ∈ U, plC x) (hl : U.length ≤ 900) : ∀ v, labelL ((91 :: u ++ [93]) ++ v) = some (u, u.length + 2) := by
  intro v
  subst hu
  exact label_plain hU hl v

theorem defs_bare (h0 : IsInd p0) (hu : u = 108 :: U) (hU : ∀ x ∈ U, plC x) (hl : U.length ≤ 900) (h1 : IsGap1 p1) (hD : D = 100 :: D1) (hp : ∀ x ∈ D, plC x) (hq : IsQ D q) {p5 : List UInt8} (h5 : IsEnd1 p5) :
    defineL (headD p0 u p1 q p5) = some ((fold u, D, []), []) ∧ defineL (headD p0 u p1 q (p5 ++ [10, 109, 111, 114, 101])) = some ((fold u, D, []), [109, 111, 114, 101]) := by
  obtain ⟨b, w, e, hb⟩ := q_head hD hq
  obtain ⟨⟨a1, a2, a3⟩, ⟨b1, b2, b3⟩, _⟩ := h5
  refine ⟨define_bare h0.1 (lab_any hu hU hl) e (fun v => h1.1 b v hb) (q_dest hD hp hq a3) ?_ a1, define_bare h0.1 (lab_any hu hU hl) e (fun v => h1.1 b v hb) (q_dest hD hp hq b3) ?_ b1⟩
  · rw [a2]; rfl
  · rw [b2]; rfl

theorem defs_titled (h0 : IsInd p0) (hu : u = 108 :: U) (hU : ∀ x ∈ U, plC x) (hl : U.length ≤ 900) (h1 : IsGap1 p1) (hD : D = 100 :: D1) (hp : ∀ x ∈ D, plC x) (hq : IsQ D q) {p3 t Q p5 : List UInt8} (h3 : IsGap2 p3) (ht : ∀ x ∈ t, plC x) (hQ : IsT t Q) (h5 : IsEnd1 p5) :
    defineL (headD p0 u p1 q (p3 ++ (Q ++ p5))) = some ((fold u, D, t), []) ∧ defineL (headD p0 u p1 q (p3 ++ (Q ++ (p5 ++ [10, 109, 111, 114, 101])))) = some ((fold u, D, t), [109, 111, 114, 101]) := by
  obtain ⟨b, w, e, hb⟩ := q_head hD hq
  obtain ⟨⟨a1, a2, a3⟩, ⟨b1, b2, b3⟩, _⟩ := h5
  obtain ⟨a, ha, hQe⟩ := hQ
  have hab : a ≠ 32 ∧ a ≠ 9 ∧ a ≠ 10 := by rcases ha with rfl | rfl | rfl <;> decide
  have tt : ∀ z, titleL (Q ++ z) = some (t, Q.length) := by intro z; rw [hQe]; exact title_plain ha ht z
  exact ⟨define_titled h0.1 (lab_any hu hU hl) e (fun v => h1.1 b v hb) hQe h3.2.1 (fun v => h3.1 a v hab) (q_dest hD hp hq (h3.2.2.1 _)) (tt _) a1,
    define_titled h0.1 (lab_any hu hU hl) e (fun v => h1.1 b v hb) hQe h3.2.1 (fun v => h3.1 a v hab) (q_dest hD hp hq (h3.2.2.1 _)) (tt _) b1⟩

end

theorem defR_of {S : List UInt8} {x : List UInt8 × List UInt8 × List UInt8} {r : List UInt8} (h : defineL S = some (x, r)) : defR S = (x, S.length - r.length) := by
  unfold defR
  rw [h]

end Go.Proofs.YtadghfgjdfgopaaDoor
