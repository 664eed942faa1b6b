/- Plain mathematics: a row of documents, each of which includes the next one. -/
import Derived.Test.YtkjicdldlnefeaaDoorPlainInc
set_option linter.unusedVariables false
namespace Go.Proofs.YtkjicdldlnefeaaDoor

def nmN (i : Nat) : StrA := [100, (97 + i).toUInt8]
def chI : StrA := [10, 123, 123, 105, 110, 99, 108, 117, 100, 101, 32, 97, 47]
def chT (n b : Nat) (c : Bool) (i : Nat) : StrA :=
  if i + 1 < n then [108] ++ nmN i ++ chI ++ nmN (i + 1) ++ [125, 125] ++ [10, 114] ++ nmN i
  else if c = true then [108] ++ nmN i ++ chI ++ nmN b ++ [64, 49, 125, 125] ++ [10, 114] ++ nmN i
  else [108] ++ nmN i ++ [10, 114] ++ nmN i
def chP (n b : Nat) (c : Bool) (i : Nat) : PgA := ⟨⟨[97], nmN i, 1⟩, chT n b c i⟩
def chL (n b : Nat) (c : Bool) : Nat → List PgA
  | 0 => []
  | k + 1 => chL n b c k ++ [chP n b c k]
theorem chL_len (n b : Nat) (c : Bool) : ∀ k, (chL n b c k).length = k
  | 0 => rfl
  | k + 1 => by show (chL n b c k ++ [chP n b c k]).length = _; rw [List.length_append, chL_len n b c k]; rfl
theorem chT_len (n b : Nat) (c : Bool) (i : Nat) : (chT n b c i).length ≤ 100 := by
  unfold chT nmN chI
  (repeat' split) <;> simp
theorem chL_txt (n b : Nat) (c : Bool) : ∀ k, ∀ p ∈ chL n b c k, p.text.length ≤ 100
  | 0, p, h => by cases h
  | k + 1, p, h => by
    have h' : p ∈ chL n b c k ++ [chP n b c k] := h
    rcases List.mem_append.1 h' with q | q
    · exact chL_txt n b c k p q
    · rw [List.mem_singleton.1 q]; exact chT_len n b c k
def lwN : Nat → StrA
  | 0 => []
  | j + 1 => lwN j ++ [108] ++ nmN j ++ [10]
def rwN (n : Nat) : Nat → StrA
  | 0 => lwN n
  | m + 1 => rwN n m ++ [114] ++ nmN (n - 1 - m) ++ [10]
theorem lw_len : ∀ j, (lwN j).length = j * 4
  | 0 => rfl
  | j + 1 => by show (lwN j ++ [108] ++ nmN j ++ [10]).length = _; simp only [List.length_append, lw_len j]; show j * 4 + 1 + 2 + 1 = _; omega
theorem rw_len (n : Nat) : ∀ m, (rwN n m).length = n * 4 + m * 4
  | 0 => by show (lwN n).length = _; rw [lw_len]; omega
  | m + 1 => by show (rwN n m ++ [114] ++ nmN (n - 1 - m) ++ [10]).length = _; simp only [List.length_append, rw_len n m]; show n * 4 + m * 4 + 1 + 2 + 1 = _; omega
def chR (n b : Nat) (c : Bool) : StrA × List RfA × Int := expandA (chL n b c n) [[98], [97]] ⟨[97], nmN 0, 0⟩
def chk (r : StrA × List RfA × Int) (s : StrA) (l : Nat) (f : Int) : Bool := r.1 == s && r.2.1.length == l && r.2.2 == f
theorem chk_of {r : StrA × List RfA × Int} {s : StrA} {l : Nat} {f : Int} (h : chk r s l f = true) : r.1 = s ∧ r.2.1.length = l ∧ r.2.2 = f := by
  simpa [chk, and_assoc] using h
theorem ch_ok0 : ∀ n < 9, chk (chR (n + 1) 0 false) (rwN (n + 1) (n + 1)) n 0 = true := by decide +kernel
end Go.Proofs.YtkjicdldlnefeaaDoor
