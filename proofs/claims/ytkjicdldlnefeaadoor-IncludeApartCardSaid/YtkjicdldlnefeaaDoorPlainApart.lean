/- Plain mathematics: what may not be read does not matter. -/
import Derived.Test.YtkjicdldlnefeaaDoorPlainInc
set_option linter.unusedVariables false
namespace Go.Proofs.YtkjicdldlnefeaaDoor

def outA (may : List StrA) (pages : List PgA) : List PgA := pages.filter (fun p => hasS may p.ref.tenant)
def otherA (may : List StrA) (text : StrA) (pages : List PgA) : List PgA := pages.map (fun p => if hasS may p.ref.tenant = true then p else ⟨p.ref, text⟩)
theorem lat_tenant : ∀ (pages : List PgA) (r : RfA) (f : Bool), (latF pages r f).tenant = r.tenant
  | [], r, f => rfl
  | p :: t, r, f => by
    unfold latF
    split
    · rename_i h
      rw [lat_tenant t p.ref true]
      exact h.1
    · exact lat_tenant t r f
theorem lat_out (may : List StrA) : ∀ (pages : List PgA) (r : RfA) (f : Bool), hasS may r.tenant = true → latF (outA may pages) r f = latF pages r f
  | [], r, f, _ => rfl
  | p :: t, r, f, h => by
    unfold outA
    rw [List.filter_cons]
    split
    · unfold latF
      split
      · rename_i q
        exact lat_out may t p.ref true (by rw [q.1]; exact h)
      · exact lat_out may t r f h
    · rename_i q
      have hne : ¬ (p.ref.tenant = r.tenant ∧ p.ref.doc = r.doc ∧ (f = false ∨ r.ver < p.ref.ver)) := fun e => q (by rw [e.1]; exact h)
      conv => rhs; unfold latF
      rw [if_neg hne]
      exact lat_out may t r f h
theorem lat_other (may : List StrA) (text : StrA) : ∀ (pages : List PgA) (r : RfA) (f : Bool), latF (otherA may text pages) r f = latF pages r f
  | [], r, f => rfl
  | p :: t, r, f => by
    have hr : (if hasS may p.ref.tenant = true then p else (⟨p.ref, text⟩ : PgA)).ref = p.ref := by split <;> rfl
    show latF ((if hasS may p.ref.tenant = true then p else ⟨p.ref, text⟩) :: otherA may text t) r f = _
    unfold latF
    rw [hr]
    split
    · exact lat_other may text t p.ref true
    · exact lat_other may text t r f
theorem first_out (may : List StrA) : ∀ (pages : List PgA) (r : RfA), hasS may r.tenant = true → firstP (outA may pages) r = firstP pages r
  | [], r, _ => rfl
  | p :: t, r, h => by
    unfold outA
    rw [List.filter_cons]
    split
    · unfold firstP
      split
      · rfl
      · exact first_out may t r h
    · rename_i q
      have hne : ¬ eqR p.ref r = true := fun e => q (by rw [eqR_iff.1 e]; exact h)
      conv => rhs; unfold firstP
      rw [if_neg hne]
      exact first_out may t r h
theorem first_other (may : List StrA) (text : StrA) : ∀ (pages : List PgA) (r : RfA), hasS may r.tenant = true → firstP (otherA may text pages) r = firstP pages r
  | [], r, _ => rfl
  | p :: t, r, h => by
    have hr : (if hasS may p.ref.tenant = true then p else (⟨p.ref, text⟩ : PgA)).ref = p.ref := by split <;> rfl
    show firstP ((if hasS may p.ref.tenant = true then p else ⟨p.ref, text⟩) :: otherA may text t) r = _
    unfold firstP
    rw [hr]
    split
    · rename_i q
      rw [if_pos (by rw [eqR_iff.1 q]; exact h)]
    · exact first_other may text t r h
theorem find_out {may : List StrA} {pages : List PgA} {r : RfA} (h : hasS may r.tenant = true) : findA (outA may pages) r = findA pages r := by
  unfold findA findR
  rw [lat_out may pages r false h]
  refine first_out may pages _ ?_
  split
  · rw [lat_tenant]; exact h
  · exact h
theorem find_other {may : List StrA} {text : StrA} {pages : List PgA} {r : RfA} (h : hasS may r.tenant = true) : findA (otherA may text pages) r = findA pages r := by
  unfold findA findR
  rw [lat_other may text pages r false]
  refine first_other may text pages _ ?_
  split
  · rw [lat_tenant]; exact h
  · exact h
theorem admit_same {may : List StrA} {P P' : List PgA} (h : ∀ r, hasS may r.tenant = true → findA P' r = findA P r) (r : RfA) (chain : List RfA) (k : Nat) : admitA P' may r chain k = admitA P may r chain k := by
  unfold admitA
  by_cases q : hasS may r.tenant = true
  · rw [h r q]
  · rw [if_pos (by simpa using q), if_pos (by simpa using q)]
theorem take_same {may : List StrA} {P P' : List PgA} (h : ∀ r, hasS may r.tenant = true → findA P' r = findA P r) : ∀ f, takeA P' may f = takeA P may f
  | 0 => rfl
  | f + 1 => by
    funext r chain x
    unfold takeA
    rw [admit_same h r chain x.takes, take_same h f]
theorem expand_same {may : List StrA} {P P' : List PgA} (h : ∀ r, hasS may r.tenant = true → findA P' r = findA P r) (r : RfA) : expandA P' may r = expandA P may r := by
  unfold expandA
  rw [take_same h 10]
theorem expand_out (may : List StrA) (pages : List PgA) (r : RfA) : expandA (outA may pages) may r = expandA pages may r := expand_same (fun r h => find_out h) r
theorem expand_other (may : List StrA) (text : StrA) (pages : List PgA) (r : RfA) : expandA (otherA may text pages) may r = expandA pages may r := expand_same (fun r h => find_other h) r
theorem out_next {may : List StrA} {pages : List PgA} {k : Nat} {p : PgA} (h : pages[k]? = some p) : outA may (pages.take (k + 1)) = outA may (pages.take k) ++ (if hasS may p.ref.tenant = true then [p] else []) := by
  unfold outA
  rw [List.take_add_one, h, List.filter_append]
  congr 1
  show List.filter _ [p] = _
  rw [List.filter_cons]
  rfl
theorem other_next {may : List StrA} {text : StrA} {pages : List PgA} {k : Nat} {p : PgA} (h : pages[k]? = some p) : otherA may text (pages.take (k + 1)) = otherA may text (pages.take k) ++ [if hasS may p.ref.tenant = true then p else ⟨p.ref, text⟩] := by
  unfold otherA
  rw [List.take_add_one, h, List.map_append]
  rfl
theorem hasS_snoc {l : List StrA} {k : Nat} {s x : StrA} (hs : l[k]? = some s) : hasS (l.take (k + 1)) x = (hasS (l.take k) x || (s == x)) := by
  unfold hasS
  rw [List.take_add_one, hs, List.any_append]
  simp
theorem out_len (may : List StrA) (l : List PgA) : (outA may l).length ≤ l.length := List.length_filter_le _ _
theorem other_len (may : List StrA) (t : StrA) (l : List PgA) : (otherA may t l).length = l.length := List.length_map _
theorem expand_met (pages : List PgA) (may : List StrA) (r : RfA) : (expandA pages may r).2.1.length ≤ 300 := by
  unfold expandA
  split
  · simp
  · have h := take_wf pages may 10 r [] {} ⟨by simp, by simp, by simp⟩
    have h1 := h.2.1
    have h2 := h.2.2
    show (takeA pages may 10 r [] {}).2.met.length ≤ 300
    omega
end Go.Proofs.YtkjicdldlnefeaaDoor
