/- Laws on worlds: a row of bytes that a call owns beside a string's iterator; a row of bytes made into a string. -/
import Derived.Test.YtkjicdldlnefeaaDoorQFAppend
import Derived.Test.YtkjicdldlnefeaaDoorPlain
import Derived.Laws.IdiomStrings
import Derived.Laws.BytesArg
import Derived.Lib.AppendStr
import Derived.Lib.ConvBytes
set_option linter.unusedVariables false
namespace Go.Proofs.YtkjicdldlnefeaaDoor.run
open Go.RowKit

theorem own_block {w : World} {B : Nat} {e : TypeId} {v : Value} {n : Nat} {xs : List Value} (h : w.ownsRow B e 1 v n xs) : ∀ g, v.ownBlock = some g → ∃ c fz, w.heap[g]? = some (.cells c e fz) := by
  intro g hg
  rcases h.2 with ⟨rfl, _⟩ | ⟨g', cap, cur, rfl, _, hgg, _⟩
  · simp [Value.ownBlock] at hg
  · simp [Value.ownBlock] at hg
    subst hg
    exact ⟨cur, _, hgg⟩

/-- A row stays owned while an iterator moves on. -/
theorem own_iterAt {w : World} {B : Nat} {e : TypeId} {v : Value} {n : Nat} {xs : List Value} (h : w.ownsRow B e 1 v n xs) {K : Nat} {s : ByteArray} {p : Nat} (hK : w.heap[K]? = some (.stringIter s p)) (p' : Nat) : (w.iterAt K s p').ownsRow B e 1 v n xs := by
  refine ⟨h.1, ?_⟩
  rcases h.2 with hn | ⟨g, cap, cur, hv, hb, hgg, rest⟩
  · exact .inl hn
  · have hne : g ≠ K := by
      intro e1; subst e1; rw [hK] at hgg; cases hgg
    exact .inr ⟨g, cap, cur, hv, hb, (Lib.iterAt_other w K g s p' hne).trans hgg, rest⟩

/-- An iterator stands where it stood while a row that a call owns grows. -/
theorem iter_grown {w w' : World} {B : Nat} {e : TypeId} {v : Value} {n : Nat} {xs : List Value} (h : w.ownsRow B e 1 v n xs) {o : Obj} (hg : (w.alloc o).grownBy w' v.ownBlock) {K : Nat} {s : ByteArray} {p : Nat} (hK : w.heap[K]? = some (.stringIter s p)) : w'.heap[K]? = some (.stringIter s p) := by
  have hlt : K < w.heap.size := (Array.getElem?_eq_some_iff.1 hK).1
  rw [hg.block K (by simp; omega) ?_]
  · rw [Below.heap_alloc w o K hlt]; exact hK
  · intro e1
    obtain ⟨c, fz, hc⟩ := own_block h K e1.symm
    rw [hK] at hc; cases hc

/-- What lies below stays while a row that a call owns grows. -/
theorem below_grown {w0 w w' : World} {B : Nat} {e : TypeId} {v : Value} {n : Nat} {xs : List Value} (hb : Below B w0 w) (hB : B ≤ w.heap.size) (h : w.ownsRow B e 1 v n xs) {o : Obj} (hg : (w.alloc o).grownBy w' v.ownBlock) : Below B w0 w' :=
  (hb.alloc hB o).grown hg (by simp; omega) (fun k hk => (h.lt k hk).1)

/-- Bytes that a call owns, made into a string. -/
theorem own_string {w : World} {B : Nat} {v : Value} {l : List UInt8} (h : w.ownsRow B 5 1 v l.length (Lib.byteCells l)) : (convert 54 9 v).run Tryd.prog w = .ok (.string ⟨l.toArray⟩) w := by
  rcases h.2 with ⟨rfl, hn⟩ | ⟨g, cap, cur, rfl, _, hgg, _⟩
  · have : l = [] := List.eq_nil_of_length_eq_zero hn
    subst this
    exact run_convert_bytes_nil w 54 5 Tryd.underlying54 Tryd.underlying5 0 0 9 Tryd.underlying9
  · refine run_convert_bytes_back w 54 9 5 ⟨g, 0, none⟩ cap l Tryd.underlying54 Tryd.underlying5 Tryd.underlying9 ?_
    intro j hj
    refine h.cells (g := g) rfl j _ ?_
    simp [Lib.byteCells, hj]

/-- WHAT IS TOLD OF BYTES THAT COME IN: in every later world they make this string. -/
def BytesIn (w : World) (ao : Option Addr) (len cap : Nat) (l : List UInt8) : Prop :=
  l.length = len ∧ ∀ w1, Below w.heap.size w w1 → (convert 54 9 (.slice ao len cap)).run Tryd.prog w1 = .ok (.string ⟨l.toArray⟩) w1

theorem size_list (l : List UInt8) : (ByteArray.mk l.toArray).size = l.length := by show l.toArray.size = _; simp
theorem list_data (l : List UInt8) : (ByteArray.mk l.toArray).data.toList = l := by simp

end Go.Proofs.YtkjicdldlnefeaaDoor.run
