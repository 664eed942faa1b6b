/- Plain mathematics: the first place of a byte, found from behind. -/
import Derived.Test.YtkjicdldlnefeaaDoorPlainScan
set_option linter.unusedVariables false
namespace Go.Proofs.YtkjicdldlnefeaaDoor

def fstI (c : UInt8) (d : Int) : List UInt8 → Nat → Int
  | [], _ => d
  | a :: t, k => if a = c then (k : Int) else fstI c d t (k + 1)
theorem fst_hit {c : UInt8} {d : Int} : ∀ {p t : StrA} (k : Nat), c ∉ p → fstI c d (p ++ c :: t) k = (k : Int) + (p.length : Int)
  | [], t, k, _ => by show (if c = c then (k : Int) else _) = _; rw [if_pos rfl]; simp
  | a :: p, t, k, h => by
    have ha : a ≠ c := fun e => h (by rw [e]; exact List.mem_cons_self)
    show (if a = c then (k : Int) else fstI c d (p ++ c :: t) (k + 1)) = _
    rw [if_neg ha, fst_hit (k + 1) (fun q => h (List.mem_cons_of_mem _ q)), List.length_cons]
    omega
theorem fst_miss {c : UInt8} {d : Int} : ∀ {p : StrA} (k : Nat), c ∉ p → fstI c d p k = d
  | [], k, _ => rfl
  | a :: p, k, h => by
    have ha : a ≠ c := fun e => h (by rw [e]; exact List.mem_cons_self)
    show (if a = c then (k : Int) else fstI c d p (k + 1)) = _
    rw [if_neg ha, fst_miss (k + 1) (fun q => h (List.mem_cons_of_mem _ q))]
theorem fst_step {c : UInt8} {d : Int} {U : StrA} {k : Nat} {z : UInt8} (h : U[k]? = some z) : fstI c d (U.drop k) k = if z = c then (k : Int) else fstI c d (U.drop (k + 1)) (k + 1) := by
  obtain ⟨hk, he⟩ := List.getElem?_eq_some_iff.1 h
  rw [List.drop_eq_getElem_cons hk, he]
  rfl
end Go.Proofs.YtkjicdldlnefeaaDoor
