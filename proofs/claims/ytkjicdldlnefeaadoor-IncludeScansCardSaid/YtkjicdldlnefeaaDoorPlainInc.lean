/- Plain mathematics: documents within documents. -/
import Derived.Test.YtkjicdldlnefeaaDoorPlainAcl
import Derived.Test.YtkjicdldlnefeaaDoorPlain
import Derived.Test.YtkjicdldlnefeaaDoorPlainLines
import Derived.Lib.SlTrimSet
import Derived.Shelf.Small.Wraps
set_option linter.unusedVariables false
namespace Go.Proofs.YtkjicdldlnefeaaDoor

structure RfA where
  tenant : StrA := []
  doc : StrA := []
  ver : Int := 0
structure PgA where
  ref : RfA := {}
  text : StrA := []
def eqR (a b : RfA) : Bool := a.tenant == b.tenant && a.doc == b.doc && a.ver == b.ver
theorem eqR_iff {a b : RfA} : eqR a b = true ↔ a = b := by
  obtain ⟨t, d, v⟩ := a
  obtain ⟨t', d', v'⟩ := b
  unfold eqR
  simp [and_assoc]
theorem eqR_refl (a : RfA) : eqR a a = true := eqR_iff.2 rfl
theorem eqR_not {a b : RfA} (h : a ≠ b) : eqR a b = false := by
  cases q : eqR a b with
  | false => rfl
  | true => exact absurd (eqR_iff.1 q) h
def hasR (l : List RfA) (r : RfA) : Bool := l.any (fun a => eqR a r)
theorem hasR_iff {l : List RfA} {r : RfA} : hasR l r = true ↔ r ∈ l := by
  unfold hasR
  rw [List.any_eq_true]
  constructor
  · rintro ⟨x, hx, h⟩
    rw [eqR_iff] at h
    exact h ▸ hx
  · intro h
    exact ⟨r, h, eqR_refl r⟩
def hasS (l : List StrA) (s : StrA) : Bool := l.any (fun a => a == s)

/-- What stands ahead of the first c, what behind it, and whether there is one. -/
def cutC (c : UInt8) (s : StrA) : StrA × StrA × Bool := (s.takeWhile (· != c), (s.drop (s.takeWhile (· != c)).length).drop 1, s.contains c)
def numV (n : Int) (s : StrA) : Int := s.foldl (fun n c => 10 * n + ((c.toNat : Int) - 48)) n
def numberA (s : StrA) : Int × Bool := if s = [] ∨ 6 < s.length ∨ s.getD 0 0 = 48 then (0, false) else if s.all digA = true then (numV 0 s, true) else (0, false)
def incP : StrA := [123, 123, 105, 110, 99, 108, 117, 100, 101, 32]
def incE : StrA := [125, 125]
def scan1 (line : StrA) : StrA := Lib.trimS line [32, 9]
def scan2 (line : StrA) : StrA := Lib.trimPrefix (scan1 line) incP
def scan3 (line : StrA) : StrA := Lib.trimSuffix (scan2 line) incE
def scan4 (line : StrA) : StrA × StrA × Bool := cutC 47 (scan3 line)
def scan5 (line : StrA) : StrA × StrA × Bool := cutC 64 (scan4 line).2.1
def scanOk (line : StrA) : Bool := Lib.hasPrefix (scan1 line) incP && Lib.hasSuffix (scan2 line) incE && (scan4 line).2.2 && nameA (scan4 line).1 && nameA (scan5 line).1
/-- Scan: what it answers. -/
def scanA (line : StrA) : RfA × Bool :=
  if scanOk line = false then ({}, false)
  else if (scan5 line).2.2 = false then (⟨(scan4 line).1, (scan5 line).1, 0⟩, true)
  else if (numberA (scan5 line).2.1).2 = false then ({}, false)
  else (⟨(scan4 line).1, (scan5 line).1, (numberA (scan5 line).2.1).1⟩, true)

/-- The last one of those of a document. -/
def latF : List PgA → RfA → Bool → RfA
  | [], r, _ => r
  | p :: t, r, f => if p.ref.tenant = r.tenant ∧ p.ref.doc = r.doc ∧ (f = false ∨ r.ver < p.ref.ver) then latF t p.ref true else latF t r f
def findR (pages : List PgA) (r : RfA) : RfA := if r.ver = 0 then latF pages r false else r
def firstP : List PgA → RfA → PgA × Bool
  | [], _ => ({}, false)
  | p :: t, r => if eqR p.ref r = true then (p, true) else firstP t r
def findA (pages : List PgA) (r : RfA) : PgA × Bool := firstP pages (findR pages r)
/-- admit: what it answers. -/
def admitA (pages : List PgA) (may : List StrA) (r : RfA) (chain : List RfA) (takes : Nat) : PgA × Int :=
  if hasS may r.tenant = false then ({}, 6)
  else if (findA pages r).2 = false then ({}, 5)
  else if hasR chain (findA pages r).1.ref = true then ({}, 3)
  else if 8 < chain.length then ({}, 4)
  else if 256 ≤ takes then ({}, 7)
  else ((findA pages r).1, 0)

structure ExA where
  out : StrA := []
  met : List RfA := []
  takes : Nat := 0
def meetA (l : List RfA) (r : RfA) : List RfA := if hasR l r = true then l else l ++ [r]
def lineA (take : RfA → ExA → Int × ExA) (s : StrA) (x : ExA) : Int × ExA :=
  if (scanA s).2 = true then take (scanA s).1 x
  else if 16384 < x.out.length + s.length + 1 then (7, x)
  else (0, ⟨x.out ++ s ++ [10], x.met, x.takes⟩)
def linesA (take : RfA → ExA → Int × ExA) : List StrA → ExA → Int × ExA
  | [], x => (0, x)
  | s :: t, x => if (lineA take s x).1 = 0 then linesA take t (lineA take s x).2 else lineA take s x
/-- A state behind an admit. -/
def metA (chain : List RfA) (r : RfA) (x : ExA) : ExA := ⟨x.out, if 0 < chain.length then meetA x.met r else x.met, x.takes + 1⟩
def takeA (pages : List PgA) (may : List StrA) : Nat → RfA → List RfA → ExA → Int × ExA
  | 0, _, _, x => (4, x)
  | f + 1, r, chain, x =>
    if (admitA pages may r chain x.takes).2 ≠ 0 then ((admitA pages may r chain x.takes).2, x)
    else linesA (fun r' x' => takeA pages may f r' (chain ++ [(admitA pages may r chain x.takes).1.ref]) x') (lines (clean (admitA pages may r chain x.takes).1.text)) (metA chain (admitA pages may r chain x.takes).1.ref x)
def expandA (pages : List PgA) (may : List StrA) (at0 : RfA) : StrA × List RfA × Int :=
  if (takeA pages may 10 at0 [] {}).1 ≠ 0 then ([], [], (takeA pages may 10 at0 [] {}).1) else ((takeA pages may 10 at0 [] {}).2.out, (takeA pages may 10 at0 [] {}).2.met, 0)

/-- States that are within their bounds. -/
def WfX (x : ExA) : Prop := x.out.length ≤ 16384 ∧ x.met.length ≤ x.takes ∧ x.takes ≤ 256
theorem admit_ok {pages : List PgA} {may : List StrA} {r : RfA} {chain : List RfA} {takes : Nat} (h : (admitA pages may r chain takes).2 = 0) : chain.length ≤ 8 ∧ takes < 256 ∧ (findA pages r).2 = true ∧ (admitA pages may r chain takes).1 = (findA pages r).1 ∧ hasR chain (findA pages r).1.ref = false ∧ hasS may r.tenant = true := by
  unfold admitA at h ⊢
  by_cases h1 : hasS may r.tenant = false
  · rw [if_pos h1] at h; simp at h
  · rw [if_neg h1] at h ⊢
    by_cases h2 : (findA pages r).2 = false
    · rw [if_pos h2] at h; simp at h
    · rw [if_neg h2] at h ⊢
      by_cases h3 : hasR chain (findA pages r).1.ref = true
      · rw [if_pos h3] at h; simp at h
      · rw [if_neg h3] at h ⊢
        by_cases h4 : 8 < chain.length
        · rw [if_pos h4] at h; simp at h
        · rw [if_neg h4] at h ⊢
          by_cases h5 : 256 ≤ takes
          · rw [if_pos h5] at h; simp at h
          · rw [if_neg h5]
            exact ⟨by omega, by omega, by simpa using h2, rfl, by simpa using h3, by simpa using h1⟩
theorem first_mem : ∀ {pages : List PgA} {r : RfA}, (firstP pages r).2 = true → (firstP pages r).1 ∈ pages ∧ (firstP pages r).1.ref = r
  | [], _, h => by cases h
  | p :: t, r, h => by
    unfold firstP at h ⊢
    by_cases q : eqR p.ref r = true
    · rw [if_pos q]
      exact ⟨List.mem_cons_self, eqR_iff.1 q⟩
    · rw [if_neg q] at h ⊢
      exact ⟨List.mem_cons_of_mem _ (first_mem h).1, (first_mem h).2⟩
theorem find_mem {pages : List PgA} {r : RfA} (h : (findA pages r).2 = true) : (findA pages r).1 ∈ pages ∧ (findA pages r).1.ref = findR pages r := first_mem h
theorem met_wf {chain : List RfA} {r : RfA} {x : ExA} (h : WfX x) (ht : x.takes < 256) : WfX (metA chain r x) := by
  obtain ⟨h1, h2, h3⟩ := h
  refine ⟨h1, ?_, by show x.takes + 1 ≤ 256; omega⟩
  show (if 0 < chain.length then meetA x.met r else x.met).length ≤ x.takes + 1
  unfold meetA
  split
  · split
    · omega
    · rw [List.length_append]; simp; omega
  · omega
theorem line_wf {take : RfA → ExA → Int × ExA} (ht : ∀ r x, WfX x → WfX (take r x).2) (s : StrA) {x : ExA} (h : WfX x) : WfX (lineA take s x).2 := by
  unfold lineA
  split
  · exact ht _ _ h
  · split
    · exact h
    · refine ⟨?_, h.2⟩
      show (x.out ++ s ++ [10]).length ≤ 16384
      simp only [List.length_append, List.length_singleton]
      omega
theorem lines_wf {take : RfA → ExA → Int × ExA} (ht : ∀ r x, WfX x → WfX (take r x).2) : ∀ (l : List StrA) {x : ExA}, WfX x → WfX (linesA take l x).2
  | [], x, h => h
  | s :: t, x, h => by
    unfold linesA
    split
    · exact lines_wf ht t (line_wf ht s h)
    · exact line_wf ht s h
theorem take_wf (pages : List PgA) (may : List StrA) : ∀ (f : Nat) (r : RfA) (chain : List RfA) (x : ExA), WfX x → WfX (takeA pages may f r chain x).2
  | 0, _, _, x, h => h
  | f + 1, r, chain, x, h => by
    unfold takeA
    split
    · exact h
    · rename_i q
      have q0 : (admitA pages may r chain x.takes).2 = 0 := Classical.not_not.1 q
      exact lines_wf (fun r x hx => take_wf pages may f r _ x hx) _ (met_wf h (admit_ok q0).2.1)
theorem trim_len (l : StrA) : (Lib.trimS l [32, 9]).length ≤ l.length := by
  unfold Lib.trimS Lib.trimLeftS Lib.trimRightS
  refine Nat.le_trans (List.dropWhile_sublist _).length_le ?_
  rw [List.length_reverse]
  refine Nat.le_trans (List.dropWhile_sublist _).length_le ?_
  rw [List.length_reverse]
  exact Nat.le_refl _
theorem suf_len (s p : StrA) : (Lib.trimSuffix s p).length ≤ s.length := by
  unfold Lib.trimSuffix
  split
  · rw [List.length_take]; omega
  · exact Nat.le_refl _
theorem scan3_len (s : StrA) : (scan3 s).length ≤ s.length := Nat.le_trans (suf_len _ _) (Nat.le_trans (Lib.trimPrefix_le _ _) (trim_len s))
theorem scan2_len (s : StrA) : (scan2 s).length ≤ s.length := Nat.le_trans (Lib.trimPrefix_le _ _) (trim_len s)
theorem cutC_len (c : UInt8) (s : StrA) : (cutC c s).1.length ≤ s.length ∧ (cutC c s).2.1.length ≤ s.length := by
  unfold cutC
  refine ⟨(List.takeWhile_sublist _).length_le, ?_⟩
  simp only [List.length_drop]
  omega
end Go.Proofs.YtkjicdldlnefeaaDoor
