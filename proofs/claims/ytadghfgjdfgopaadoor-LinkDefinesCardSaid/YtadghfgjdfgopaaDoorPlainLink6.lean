/- A definition of plain bytes, as it is written; over plain lists. -/
import Derived.Test.YtadghfgjdfgopaaDoorPlainLink5
set_option linter.unusedVariables false
namespace Go.Proofs.YtadghfgjdfgopaaDoor

/-- Letters and digits, and what is beyond ASCII. -/
def plC (c : UInt8) : Prop := (97 ≤ c.toNat ∧ c.toNat ≤ 122) ∨ (48 ≤ c.toNat ∧ c.toNat ≤ 57) ∨ 128 ≤ c.toNat

theorem pl_mk {c : UInt8} (h : plC c) : mk c = false := by
  unfold mk markN
  unfold plC at h
  exact decide_eq_false (by omega)
theorem pl_ne {c : UInt8} (h : plC c) {n : Nat} (hn : n < 48 ∨ n = 92 ∨ n = 127 ∨ n = 10) : c.toNat ≠ n := by
  unfold plC at h
  omega
theorem pl_10 {c : UInt8} (h : plC c) : c ≠ 10 := fun e => pl_ne h (n := 10) (by omega) (by rw [e]; rfl)
theorem pl_bare {c : UInt8} (h : plC c) : bareC c = true := by
  unfold bareC
  rw [Bool.and_eq_true]
  unfold plC at h
  refine ⟨decide_eq_true (by omega), ?_⟩
  rw [bne_iff_ne]
  rintro rfl
  have : (127 : UInt8).toNat = 127 := rfl
  omega
theorem pl_marks : ∀ w : List UInt8, (∀ c ∈ w, plC c) → w.flatMap markB' = w
  | [], _ => rfl
  | c :: t, h => by
    rw [List.flatMap_cons, pl_marks t (fun x hx => h x (List.mem_cons_of_mem _ hx))]
    unfold markB'
    rw [if_neg (by intro e; have := pl_mk (h c (by simp)); rw [show mk c = true from e] at this; cases this)]
    rfl
theorem pl_unesc (w : List UInt8) (h : ∀ c ∈ w, plC c) : unesc w = w := by
  have := unesc_marks w
  rwa [pl_marks w h] at this

theorem bare_plain {y : List UInt8} (hy : endsB y) : ∀ w : List UInt8, (∀ c ∈ w, plC c) → bareS 0 (w ++ y) = some (y, 0)
  | [], _ => bare_stop 0 y hy
  | c :: t, h => by
    have hc := h c (by simp)
    have h92 : c ≠ 92 := fun e => pl_ne hc (n := 92) (by omega) (by rw [e]; rfl)
    have h40 : c ≠ 40 := fun e => pl_ne hc (n := 40) (by omega) (by rw [e]; rfl)
    have h41 : c ≠ 41 := fun e => pl_ne hc (n := 41) (by omega) (by rw [e]; rfl)
    show bareS 0 (c :: (t ++ y)) = _
    rw [bare_byte 0 (pl_bare hc) (t ++ y) (fun d u _ hd => h92 hd.1), if_neg h40, if_neg h41]
    exact bare_plain hy t (fun x hx => h x (List.mem_cons_of_mem _ hx))

/-- A bare place of plain bytes. -/
theorem dest_plain {c : UInt8} {w : List UInt8} (h : ∀ x ∈ c :: w, plC x) {y : List UInt8} (hy : endsB y) : destL ((c :: w) ++ y) = some (c :: w, (c :: w).length) := by
  have hc := h c (by simp)
  have h60 : c ≠ 60 := ne_of_mk (pl_mk hc) (by decide)
  have hb := bare_plain hy (c :: w) h
  show destL (c :: (w ++ y)) = _
  simp only [destL]
  rw [if_neg h60]
  rw [show (c :: w) ++ y = c :: (w ++ y) from rfl] at hb
  rw [hb]
  simp only
  rw [if_neg (by rintro (h | h); (· simp at h; omega); (· omega))]
  have hl : (c :: (w ++ y)).length - y.length = (c :: w).length := by simp <;> omega
  have ht : (c :: (w ++ y)).take (c :: w).length = c :: w := by
    show ((c :: w) ++ y).take (c :: w).length = c :: w
    exact List.take_left' rfl
  rw [hl, ht, pl_unesc _ h]
/-- One between signs. -/
theorem dest_plain2 {w : List UInt8} (h : ∀ x ∈ w, plC x) (y : List UInt8) : destL ((60 :: (w ++ [62])) ++ y) = some (w, (60 :: (w ++ [62])).length) := by
  have := dest_esc_is w y (fun c hc => pl_10 (h c hc))
  rw [pl_marks w h] at this
  show destL (60 :: (w ++ [62]) ++ y) = _
  rw [this]
  simp
/-- A title of plain bytes. -/
theorem title_plain {a : UInt8} (ha : a = 34 ∨ a = 39 ∨ a = 40) {w : List UInt8} (h : ∀ x ∈ w, plC x) (y : List UInt8) : titleL ((a :: (w ++ [if a = 40 then 41 else a])) ++ y) = some (w, (a :: (w ++ [if a = 40 then 41 else a])).length) := by
  have := title_esc_is ha w y (fun c hc => pl_10 (h c hc))
  rw [pl_marks w h] at this
  show titleL (a :: (w ++ [if a = 40 then 41 else a]) ++ y) = _
  rw [this]
  simp
/-- A label of plain bytes. -/
theorem label_plain {w : List UInt8} (h : ∀ x ∈ w, plC x) (hl : w.length ≤ 900) (v : List UInt8) : labelL ((91 :: (108 :: w) ++ [93]) ++ v) = some (108 :: w, (108 :: w).length + 2) := by
  have := label_esc_is w v (fun c hc => pl_10 (h c hc)) (by rw [pl_marks w h]; omega)
  rw [pl_marks w h] at this
  exact this

/-! ### Definitions as they are written -/

section
variable {g0 u g q d : List UInt8} {b : UInt8} {w : List UInt8}
theorem define_bare (h0 : ∀ v, threeL 3 (g0 ++ 91 :: v) = 91 :: v) (hl : ∀ v, labelL ((91 :: u ++ [93]) ++ v) = some (u, u.length + 2)) (hq : q = b :: w) (hg : ∀ v, gapL 0 (g ++ b :: v) = b :: v) {y r : List UInt8} (hd : destL (q ++ y) = some (d, q.length)) (ht : titleL (gapL 0 y) = none) (hr : lineL y = some r) :
    defineL (g0 ++ ((91 :: u ++ [93]) ++ (58 :: (g ++ (q ++ y))))) = some ((fold u, d, []), r) := by
  rw [define_of h0 hl hq hg hd, ht]
  show (lineL y).map _ = _
  rw [hr]
  rfl
theorem define_titled (h0 : ∀ v, threeL 3 (g0 ++ 91 :: v) = 91 :: v) (hl : ∀ v, labelL ((91 :: u ++ [93]) ++ v) = some (u, u.length + 2)) (hq : q = b :: w) (hg : ∀ v, gapL 0 (g ++ b :: v) = b :: v) {g2 Q t z r : List UInt8} {a : UInt8} {v : List UInt8} (hQ : Q = a :: v) (hg2 : g2 ≠ []) (hga : ∀ v, gapL 0 (g2 ++ a :: v) = a :: v) (hd : destL (q ++ (g2 ++ (Q ++ z))) = some (d, q.length)) (ht : titleL (Q ++ z) = some (t, Q.length)) (hr : lineL z = some r) :
    defineL (g0 ++ ((91 :: u ++ [93]) ++ (58 :: (g ++ (q ++ (g2 ++ (Q ++ z))))))) = some ((fold u, d, t), r) := by
  have e1 : gapL 0 (g2 ++ (Q ++ z)) = Q ++ z := by rw [hQ]; exact hga (v ++ z)
  rw [define_of h0 hl hq hg hd, e1, ht]
  simp only
  have h3 : 0 < g2.length := List.length_pos_iff.2 hg2
  rw [if_pos (by simp; omega), List.drop_left' rfl, hr]
end

/-- The blanks, gaps and ends that are drawn from. -/
theorem three_each (i : Fin 3) : ∀ v, threeL 3 (([[], [32], [32, 32, 32]] : List (List UInt8))[i] ++ 91 :: v) = 91 :: v := by
  intro v
  match i with
  | 0 => rfl
  | 1 => rfl
  | 2 => rfl
theorem gap_each (i : Fin 4) {b : UInt8} (hb : b ≠ 32 ∧ b ≠ 9 ∧ b ≠ 10) : ∀ v, gapL 0 (([[], [32], [10], [32, 9, 10, 32, 32]] : List (List UInt8))[i] ++ b :: v) = b :: v := by
  intro v
  match i with
  | 0 => simp [gapL, hb]
  | 1 => simp [gapL, hb]
  | 2 => simp [gapL, hb]
  | 3 =>
    show gapL 0 ([32, 9, 10, 32, 32] ++ b :: v) = b :: v
    simp [gapL, hb]
theorem gap2_each (i : Fin 3) {b : UInt8} (hb : b ≠ 32 ∧ b ≠ 9 ∧ b ≠ 10) : (∀ v, gapL 0 (([[32], [10], [9, 32, 10, 32]] : List (List UInt8))[i] ++ b :: v) = b :: v) ∧ ([[32], [10], [9, 32, 10, 32]] : List (List UInt8))[i] ≠ [] ∧ ∀ v, endsB (([[32], [10], [9, 32, 10, 32]] : List (List UInt8))[i] ++ v) := by
  match i with
  | 0 => exact ⟨fun v => by simp [gapL, hb], by simp, fun v => .inr ⟨32, _, rfl, by decide⟩⟩
  | 1 => exact ⟨fun v => by simp [gapL, hb], by simp, fun v => .inr ⟨10, _, rfl, by decide⟩⟩
  | 2 => exact ⟨fun v => by simp [gapL, hb], by simp, fun v => .inr ⟨9, _, rfl, by decide⟩⟩
theorem end_each (i : Fin 3) : lineL ([[], [32], [32, 9]] : List (List UInt8))[i] = some [] ∧ gapL 0 ([[], [32], [32, 9]] : List (List UInt8))[i] = [] ∧ endsB ([[], [32], [32, 9]] : List (List UInt8))[i] := by
  match i with
  | 0 => exact ⟨rfl, rfl, .inl rfl⟩
  | 1 => exact ⟨rfl, rfl, .inr ⟨32, [], rfl, by decide⟩⟩
  | 2 => exact ⟨rfl, rfl, .inr ⟨32, [9], rfl, by decide⟩⟩
theorem end_more (i : Fin 3) {b : UInt8} (hb : b ≠ 32 ∧ b ≠ 9 ∧ b ≠ 10) (v : List UInt8) : lineL (([[], [32], [32, 9]] : List (List UInt8))[i] ++ 10 :: b :: v) = some (b :: v) ∧ gapL 0 (([[], [32], [32, 9]] : List (List UInt8))[i] ++ 10 :: b :: v) = b :: v ∧ endsB (([[], [32], [32, 9]] : List (List UInt8))[i] ++ 10 :: b :: v) := by
  match i with
  | 0 => exact ⟨by simp [lineL], by simp [gapL, hb], .inr ⟨10, _, rfl, by decide⟩⟩
  | 1 => exact ⟨by simp [lineL], by simp [gapL, hb], .inr ⟨32, _, rfl, by decide⟩⟩
  | 2 => exact ⟨by simp [lineL], by simp [gapL, hb], .inr ⟨32, _, rfl, by decide⟩⟩

end Go.Proofs.YtadghfgjdfgopaaDoor
