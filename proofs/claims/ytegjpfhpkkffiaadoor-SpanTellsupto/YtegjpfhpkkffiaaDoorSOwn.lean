/- Bytes that a call owns, and what the laws of layer 4 put together of them. -/
import Derived.Test.YtegjpfhpkkffiaaDoorSFwd
set_option linter.unusedVariables false
namespace Go.Proofs.YtegjpfhpkkffiaaDoor
open Go.RowKit

/-- Bytes that a call owns. -/
abbrev OwnB (w : World) (B : Nat) (v : Value) (acc : List UInt8) : Prop := w.ownsRow B 5 1 v acc.length (Lib.byteCells acc)

theorem own_push {w : World} {B : Nat} {v : Value} {acc l : List UInt8} {n : Nat} {xs : List Value} (h : w.ownsRow B 5 1 v (acc.length + n) (Lib.byteCells acc ++ xs)) (hn : l.length = n) (hx : Lib.byteCells l = xs) : OwnB w B v (acc ++ l) := by
  subst hn hx
  show w.ownsRow _ _ _ _ (acc ++ l).length _
  rw [List.length_append, Lib.byteCells_append]
  exact h

theorem byteCells_one (c : UInt8) : Lib.byteCells [c] = [.int .u8 (c.toNat : Int)] := by simp [Lib.byteCells]

/-- No byte of a text is one of some. -/
def Lacks (bad : List UInt8) (l : List UInt8) : Prop := ∀ c ∈ l, ∀ b ∈ bad, c ≠ b
theorem Lacks.nil (bad : List UInt8) : Lacks bad [] := fun c hc => by cases hc
theorem Lacks.push {bad l : List UInt8} (h : Lacks bad l) {c : UInt8} (hc : ∀ b ∈ bad, c ≠ b) : Lacks bad (l ++ [c]) := by
  intro x hx
  rcases List.mem_append.1 hx with h1 | h1
  · exact h x h1
  · simp only [List.mem_cons, List.not_mem_nil, or_false] at h1
    rw [h1]; exact hc

theorem Fwd.of {w0 w : World} (hm : ML w0) (hb : Below w0.heap.size w0 w) : Fwd w0 w := ⟨hm.go hb, hb⟩

/-- A text between two runs, a blank at each end or none. -/
theorem ans_between (w0 : World) {k : Nat} (hk : 0 < k) (hk9 : k ≤ 9) {t : List UInt8} (ht : ∀ c ∈ t, c ≠ 96) (h0 : t ≠ []) (hl : t.length ≤ 3000) {X : ByteArray} (hX : X.data.toList = List.replicate k 96 ++ (t ++ List.replicate k 96)) {A : ByteArray} (hA : A.data.toList = innerL t) {z : Int} (hz : z = ((t.length + 2 * k : Nat) : Int)) :
    Ans w0 10 #[.string X] (.tuple #[.string A, .int .i64 z]) := by
  have h1 : X.size < 4294967281 := by
    have := congrArg List.length hX
    rw [len_data] at this
    simp at this
    omega
  have h3 := (congrArg codeL hX).trans (code_between k hk t ht h0)
  have h2 := ans_code w0 h1 h3
  have h4 : A = ⟨(innerL t).toArray⟩ := by rw [← hA, mk_data]
  rw [h4, hz]
  exact h2

end Go.Proofs.YtegjpfhpkkffiaaDoor
