/- The code's place and the document's, side by side in memory; a region that draws its order, in whatever world in which both stand. -/
import Derived.Test.YtonlkkpoanlcbaaRMove
set_option linter.unusedVariables false
namespace Go.Proofs.Ytonlkkpoanlcbaa
open Go.RowKit

/-- The code's place and the document's. -/
def Pair (w0 w : World) (a b : Nat) (x y : Pl) : Prop := Cur w a x ∧ Ref w b y ∧ a ≠ b ∧ w0.heap.size ≤ a ∧ w0.heap.size ≤ b ∧ Below w0.heap.size w0 w

section
variable {w0 w : World} {a b : Nat} {x y : Pl}
theorem Pair.drewN (h : Pair w0 w a b x y) (m : Nat) : Pair w0 (w.drewN m) a b x y := by
  obtain ⟨h1, h2, h3, h4, h5, h6⟩ := h
  exact ⟨h1, h2, h3, h4, h5, below_drewN h6 m⟩
theorem Pair.ca (h : Pair w0 w a b x y) : Cur w a x := h.1
theorem Pair.cb (h : Pair w0 w a b x y) : Ref w b y := h.2.1
theorem Pair.below (h : Pair w0 w a b x y) : Below w0.heap.size w0 w := h.2.2.2.2.2
theorem Pair.oth_a (h : Pair w0 w a b x y) {w' : World} {x' : Pl} (hc : Cur w' a x') (ho : Oth a w w') : Pair w0 w' a b x' y := by
  obtain ⟨h1, h2, h3, h4, h5, h6⟩ := h
  exact ⟨hc, h2.oth ho (Ne.symm h3), h3, h4, h5, h6.trans (ho.below h4)⟩
theorem Pair.oth_b (h : Pair w0 w a b x y) {w' : World} {y' : Pl} (hc : Ref w' b y') (ho : Oth b w w') : Pair w0 w' a b x y' := by
  obtain ⟨h1, h2, h3, h4, h5, h6⟩ := h
  exact ⟨h1.oth ho h3, hc, h3, h4, h5, h6.trans (ho.below h5)⟩
theorem Pair.more (h : Pair w0 w a b x y) {w' : World} (hb : Below w.heap.size w w') : Pair w0 w' a b x y := by
  obtain ⟨h1, h2, h3, h4, h5, h6⟩ := h
  exact ⟨h1.below hb, h2.below hb, h3, h4, h5, h6.trans (hb.mono h6.size)⟩
/-- At the beginning. -/
theorem Pair.mk {t : ByteArray} (hb0 : Below w0.heap.size w0 w) (ht : t.size ≤ 1099511627776) {w1 : World} (la : w.heap.size ≤ a) (ca : Cur w1 a (t.data.toList, 0, 0)) (hb1 : Below w.heap.size w w1) (hb : w1.heap.size = b) :
    Pair w0 (w1.alloc (.cells #[.string t, .int .i64 0, .int .i64 0] 28)) a b (t.data.toList, 0, 0) (t.data.toList, 0, 0) := by
  have s0 := hb0.size
  have s1 := hb1.size
  have l1 := ca.lt
  refine ⟨ca.below ((Below.refl _ _).alloc (Nat.le_refl _) _), ⟨t, ?_, rfl, by show 0 ≤ 3; omega, ?_⟩, by omega, by omega, by omega, (hb0.trans (hb1.mono s0)).alloc (by omega) _⟩
  · subst hb
    show (w1.heap.push _)[w1.heap.size]? = _
    simp
  · show 0 + 0 + 4 * t.data.toList.length ≤ _
    rw [len_data]; omega
end

/-- The worlds in which both stand at σ. -/
def PairW (w0 : World) (a b : Nat) (σ : Pl) : Type := { u : World // Pair w0 u a b σ σ }
def PairW.of {w0 w : World} {a b : Nat} {σ : Pl} (h : Pair w0 w a b σ σ) : PairW w0 a b σ := ⟨w, h⟩
def PairW.wo {w0 : World} {a b : Nat} {σ : Pl} (u : PairW w0 a b σ) : World := u.1
theorem PairW.is {w0 : World} {a b : Nat} {σ : Pl} (u : PairW w0 a b σ) : Pair w0 u.wo a b σ σ := u.2

/-- A region that draws its order, each of whose operations answers the same in every world of a class and leaves a world of it. -/
theorem region_class {P : Program} {id : Nat} {Q : Exit → Act → World → Prop} {a : Act} {w : World} {l : List Oper} (C : World → Prop) (hm : P.follows .mixedOrders = true) (hB : Region.lexB .any l.toArray = true) (hC : C w.drew)
    (h : wpQuiet P l.toArray C (fun a' => ∀ w', C w' → Q .normal a' w') l a) : (Code.region id l.toArray true).wp P Q a w :=
  wp_region_quiet (C := C) hm hB hC (by simpa using h)

section
variable {w0 : World} {a b : Nat} {σ : Pl}
/-- A callee that only reads. -/
theorem pq_same {f : FuncId} {args : Array Value} {v : Value} {u : PairW w0 a b σ} (h : Calls Try.prog f args u.wo fun e w' => e = .returned v ∧ w' = u.wo) : Calls Try.prog f args u.wo fun e w' => e = .returned v ∧ ∃ u' : PairW w0 a b σ, w' = u'.wo :=
  h.mono fun _ _ ⟨he, hw⟩ => ⟨he, u, hw⟩
/-- .. and draws. -/
theorem pq_drew {f : FuncId} {args : Array Value} {v : Value} {u : PairW w0 a b σ} (h : Calls Try.prog f args u.wo fun e w' => e = .returned v ∧ ∃ m, w' = u.wo.drewN m) : Calls Try.prog f args u.wo fun e w' => e = .returned v ∧ ∃ u' : PairW w0 a b σ, w' = u'.wo :=
  h.mono fun _ _ ⟨he, m, hw⟩ => ⟨he, PairW.of (u.is.drewN m), hw⟩
/-- .. and makes memory of its own. -/
theorem pq_more {f : FuncId} {args : Array Value} {v : Value} {u : PairW w0 a b σ} (h : Calls Try.prog f args u.wo fun e w' => e = .returned v ∧ Below u.wo.heap.size u.wo w') : Calls Try.prog f args u.wo fun e w' => e = .returned v ∧ ∃ u' : PairW w0 a b σ, w' = u'.wo :=
  h.mono fun _ w' ⟨he, hw⟩ => ⟨he, PairW.of (u.is.more hw), rfl⟩
theorem pair_col (u : PairW w0 a b σ) : u.wo.cell? ⟨b, 2, none⟩ = some (.int .i64 (σ.2.2 : Int)) := by
  obtain ⟨s, h1, _⟩ := u.is.cb
  exact cell_blk h1 rfl
end

end Go.Proofs.Ytonlkkpoanlcbaa
