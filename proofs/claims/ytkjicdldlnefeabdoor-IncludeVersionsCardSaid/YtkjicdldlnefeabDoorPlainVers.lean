/- Plain mathematics: versions of one document. -/
import Derived.Test.YtkjicdldlnefeabDoorPlainInc
set_option linter.unusedVariables false
namespace Go.Proofs.YtkjicdldlnefeabDoor

def digN (n : Nat) : StrA := if 9 < n then [(48 + n / 10).toUInt8, (48 + n % 10).toUInt8] else [(48 + n).toUInt8]
def verPg (n : Nat) : PgA := ⟨⟨[97], [120], (n : Int)⟩, digN n⟩
def verL (ns : List Nat) : List PgA := ns.map verPg
def mostN (ns : List Nat) : Nat := ns.foldl max 0
theorem dig_all : ∀ m < 51, lines (clean (digN m)) = [digN m] ∧ (scanA (digN m)).2 = false ∧ (digN m).length ≤ 2 := by decide +kernel
theorem lat_true : ∀ (ns : List Nat) (v : Nat), latF (verL ns) ⟨[97], [120], (v : Int)⟩ true = ⟨[97], [120], ((ns.foldl max v : Nat) : Int)⟩
  | [], v => rfl
  | n :: t, v => by
    show latF (verPg n :: verL t) _ true = _
    unfold latF
    by_cases h : v < n
    · have hm : max v n = n := Nat.max_eq_right (Nat.le_of_lt h)
      rw [if_pos ⟨rfl, rfl, .inr (by show (v : Int) < (n : Int); omega)⟩, List.foldl_cons, hm]
      exact lat_true t n
    · have hm : max v n = v := Nat.max_eq_left (by omega)
      rw [if_neg (fun e => by rcases e.2.2 with q | q; (· cases q); (· exact h (by have : (v : Int) < (n : Int) := q; omega))), List.foldl_cons, hm]
      exact lat_true t v
theorem lat_none (ns : List Nat) (h : ns ≠ []) : latF (verL ns) ⟨[97], [120], 0⟩ false = ⟨[97], [120], ((mostN ns : Nat) : Int)⟩ := by
  cases ns with
  | nil => exact absurd rfl h
  | cons n t =>
    show latF (verPg n :: verL t) _ false = _
    unfold latF
    rw [if_pos ⟨rfl, rfl, .inl rfl⟩]
    show latF (verL t) ⟨[97], [120], (n : Int)⟩ true = _
    rw [lat_true t n]
    unfold mostN
    rw [List.foldl_cons, Nat.max_eq_right (Nat.zero_le n)]
theorem first_ver : ∀ (ns : List Nat) (m : Nat), firstP (verL ns) ⟨[97], [120], (m : Int)⟩ = if m ∈ ns then (verPg m, true) else ({}, false)
  | [], m => by simp [verL, firstP]
  | n :: t, m => by
    show firstP (verPg n :: verL t) _ = _
    unfold firstP
    by_cases h : n = m
    · subst h
      rw [if_pos (show eqR (verPg n).ref ⟨[97], [120], (n : Int)⟩ = true from eqR_refl _), if_pos List.mem_cons_self]
    · rw [if_neg (fun e => h (by have := congrArg RfA.ver (eqR_iff.1 e); have : (n : Int) = (m : Int) := this; omega)), first_ver t m]
      by_cases q : m ∈ t
      · rw [if_pos q, if_pos (List.mem_cons_of_mem _ q)]
      · rw [if_neg q, if_neg (fun e => by rcases List.mem_cons.1 e with e | e; (· exact h e.symm); (· exact q e))]
theorem max_in : ∀ (ns : List Nat) (v : Nat), ns.foldl max v = v ∨ ns.foldl max v ∈ ns
  | [], v => .inl rfl
  | n :: t, v => by
    rw [List.foldl_cons]
    rcases max_in t (max v n) with e | e
    · rw [e]
      rcases Nat.le_total v n with q | q
      · rw [Nat.max_eq_right q]; exact .inr List.mem_cons_self
      · rw [Nat.max_eq_left q]; exact .inl rfl
    · exact .inr (List.mem_cons_of_mem _ e)
theorem max_ge : ∀ (ns : List Nat) (v : Nat), v ≤ ns.foldl max v
  | [], v => Nat.le_refl _
  | n :: t, v => by
    rw [List.foldl_cons]
    exact Nat.le_trans (Nat.le_max_left v n) (max_ge t _)
theorem most_in {ns : List Nat} (h : ns ≠ []) (h1 : ∀ n ∈ ns, 1 ≤ n) : mostN ns ∈ ns := by
  rcases max_in ns 0 with e | e
  · cases ns with
    | nil => exact absurd rfl h
    | cons n t =>
      have := max_ge t (max 0 n)
      rw [List.foldl_cons] at e
      rw [e] at this
      have := h1 n List.mem_cons_self
      have := Nat.le_max_right 0 n
      omega
  · exact e
theorem most_snoc (ns : List Nat) (n : Nat) : mostN (ns ++ [n]) = max (mostN ns) n := by unfold mostN; rw [List.foldl_append]; rfl
theorem take_ver {ns : List Nat} {r : RfA} {m : Nat} (hr : findR (verL ns) r = ⟨[97], [120], (m : Int)⟩) (ht : r.tenant = [97]) (hm : m < 51) : expandA (verL ns) [[97]] r = if m ∈ ns then (digN m ++ [10], [], 0) else ([], [], 5) := by
  have hf : findA (verL ns) r = if m ∈ ns then (verPg m, true) else ({}, false) := by unfold findA; rw [hr]; exact first_ver ns m
  obtain ⟨d1, d2, d3⟩ := dig_all m hm
  by_cases q : m ∈ ns
  · rw [if_pos q] at hf ⊢
    have ha : admitA (verL ns) [[97]] r [] 0 = (verPg m, 0) := by
      unfold admitA
      rw [hf, ht]
      rfl
    have htk : takeA (verL ns) [[97]] 10 r [] {} = (0, ⟨digN m ++ [10], [], 1⟩) := by
      unfold takeA
      rw [show (({} : ExA).takes) = 0 from rfl, ha]
      show linesA _ (lines (clean (digN m))) _ = _
      rw [d1]
      unfold linesA lineA
      rw [d2]
      simp only [Bool.false_eq_true, if_false]
      have hlen : ¬ 16384 < (metA [] (verPg m).ref {}).out.length + (digN m).length + 1 := by
        show ¬ 16384 < 0 + (digN m).length + 1
        omega
      rw [if_neg hlen]
      rfl
    unfold expandA
    rw [htk]
    rfl
  · rw [if_neg q] at hf ⊢
    have ha : admitA (verL ns) [[97]] r [] 0 = ({}, 5) := by
      unfold admitA
      rw [hf, ht]
      rfl
    have htk : takeA (verL ns) [[97]] 10 r [] {} = (5, {}) := by
      unfold takeA
      rw [show (({} : ExA).takes) = 0 from rfl, ha]
      rfl
    unfold expandA
    rw [htk]
    rfl
theorem ver_latest {ns : List Nat} (h : ns ≠ []) (h1 : ∀ n ∈ ns, 1 ≤ n ∧ n < 51) : expandA (verL ns) [[97]] ⟨[97], [120], 0⟩ = (digN (mostN ns) ++ [10], [], 0) := by
  have hm := most_in h (fun n hn => (h1 n hn).1)
  rw [take_ver (m := mostN ns) (by unfold findR; rw [if_pos rfl]; exact lat_none ns h) rfl (h1 _ hm).2, if_pos hm]
theorem ver_empty : expandA (verL []) [[97]] ⟨[97], [120], 0⟩ = ([], [], 5) := by kernel_rfl
theorem ver_one {ns : List Nat} {a : Nat} (ha : 1 ≤ a) (ha2 : a < 51) : expandA (verL ns) [[97]] ⟨[97], [120], (a : Int)⟩ = if a ∈ ns then (digN a ++ [10], [], 0) else ([], [], 5) :=
  take_ver (m := a) (by unfold findR; rw [if_neg (by show ¬ (a : Int) = 0; omega)]) rfl ha2
end Go.Proofs.YtkjicdldlnefeabDoor
