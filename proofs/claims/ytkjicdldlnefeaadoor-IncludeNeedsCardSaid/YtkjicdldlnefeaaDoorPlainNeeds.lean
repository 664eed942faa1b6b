/- Plain mathematics: what is told hangs on the pages that are told alone. -/
import Derived.Test.YtkjicdldlnefeaaDoorPlainInc
set_option linter.unusedVariables false
namespace Go.Proofs.YtkjicdldlnefeaaDoor

def sameD (p : PgA) (r : RfA) : Prop := p.ref.tenant = r.tenant ∧ p.ref.doc = r.doc
theorem lat_doc : ∀ (P : List PgA) (r : RfA) (f : Bool), (latF P r f).tenant = r.tenant ∧ (latF P r f).doc = r.doc
  | [], r, f => ⟨rfl, rfl⟩
  | p :: t, r, f => by
    unfold latF
    split
    · rename_i h
      obtain ⟨h1, h2⟩ := lat_doc t p.ref true
      exact ⟨h1.trans h.1, h2.trans h.2.1⟩
    · exact lat_doc t r f
theorem lat_most : ∀ (P : List PgA) (r : RfA) (f : Bool), (f = true → r.ver ≤ (latF P r f).ver) ∧ ∀ p ∈ P, sameD p r → p.ref.ver ≤ (latF P r f).ver
  | [], r, f => ⟨fun _ => Int.le_refl _, fun p hp => by cases hp⟩
  | q :: t, r, f => by
    unfold latF
    split
    · rename_i h
      obtain ⟨h1, h2⟩ := lat_most t q.ref true
      have hq := h1 rfl
      refine ⟨fun hf => ?_, fun p hp hs => ?_⟩
      · rcases h.2.2 with e | e
        · rw [hf] at e; cases e
        · omega
      · rcases List.mem_cons.1 hp with rfl | hp
        · exact hq
        · exact h2 p hp ⟨hs.1.trans h.1.symm, hs.2.trans h.2.1.symm⟩
    · rename_i h
      obtain ⟨h1, h2⟩ := lat_most t r f
      refine ⟨h1, fun p hp hs => ?_⟩
      rcases List.mem_cons.1 hp with rfl | hp
      · have hf : f = true := by
          cases f with
          | true => rfl
          | false => exact absurd ⟨hs.1, hs.2, .inl rfl⟩ h
        have hv : ¬ r.ver < p.ref.ver := fun e => h ⟨hs.1, hs.2, .inr e⟩
        have := h1 hf
        omega
      · exact h2 p hp hs
theorem lat_in : ∀ (P : List PgA) (r : RfA) (f : Bool), (latF P r f = r ∧ (f = true ∨ ∀ p ∈ P, ¬ sameD p r)) ∨ ∃ p ∈ P, p.ref = latF P r f
  | [], r, f => .inl ⟨rfl, .inr fun p hp => by cases hp⟩
  | q :: t, r, f => by
    unfold latF
    split
    · rename_i h
      rcases lat_in t q.ref true with ⟨e, _⟩ | ⟨p, hp, e⟩
      · exact .inr ⟨q, List.mem_cons_self, e.symm⟩
      · exact .inr ⟨p, List.mem_cons_of_mem _ hp, e⟩
    · rename_i h
      rcases lat_in t r f with ⟨e, h2⟩ | ⟨p, hp, e⟩
      · refine .inl ⟨e, ?_⟩
        rcases h2 with h2 | h2
        · exact .inl h2
        · cases f with
          | true => exact .inl rfl
          | false =>
            refine .inr fun p hp hs => ?_
            rcases List.mem_cons.1 hp with rfl | hp
            · exact h ⟨hs.1, hs.2, .inl rfl⟩
            · exact h2 p hp hs
      · exact .inr ⟨p, List.mem_cons_of_mem _ hp, e⟩
theorem rf_ext {a b : RfA} (h1 : a.tenant = b.tenant) (h2 : a.doc = b.doc) (h3 : a.ver = b.ver) : a = b := by
  obtain ⟨t, d, v⟩ := a
  obtain ⟨t', d', v'⟩ := b
  simp only at h1 h2 h3
  rw [h1, h2, h3]
theorem first_keep (K : RfA → Bool) : ∀ (P : List PgA) (r : RfA), K r = true → firstP (P.filter (fun p => K p.ref)) r = firstP P r
  | [], r, _ => rfl
  | p :: t, r, h => by
    rw [List.filter_cons]
    split
    · unfold firstP
      split
      · rfl
      · exact first_keep K t r h
    · rename_i q
      have hne : ¬ eqR p.ref r = true := fun e => q (by rw [eqR_iff.1 e]; exact h)
      conv => rhs; unfold firstP
      rw [if_neg hne]
      exact first_keep K t r h
/-- Pages of which those that are found are kept: the same are found. -/
theorem find_keep {K : RfA → Bool} {P : List PgA} {r : RfA} (h : (findA P r).2 = true) (hK : K (findA P r).1.ref = true) : findA (P.filter (fun p => K p.ref)) r = findA P r := by
  obtain ⟨hm, hr⟩ := find_mem h
  rw [hr] at hK
  have hfr : findR (P.filter (fun p => K p.ref)) r = findR P r := by
    unfold findR
    unfold findR at hK hr
    split
    · rename_i hv
      rw [if_pos hv] at hK hr
      have hRQ : (findA P r).1 ∈ P.filter (fun p => K p.ref) := List.mem_filter.2 ⟨hm, by rw [hr]; exact hK⟩
      have hsR : sameD (findA P r).1 r := by rw [sameD, hr]; exact lat_doc P r false
      have hd := lat_doc P r false
      have hd' := lat_doc (P.filter (fun p => K p.ref)) r false
      refine rf_ext (hd'.1.trans hd.1.symm) (hd'.2.trans hd.2.symm) ?_
      have h1 := (lat_most (P.filter (fun p => K p.ref)) r false).2 _ hRQ hsR
      rw [hr] at h1
      rcases lat_in (P.filter (fun p => K p.ref)) r false with ⟨_, e | e⟩ | ⟨p, hp, e⟩
      · cases e
      · exact absurd hsR (e _ hRQ)
      · have h2 := (lat_most P r false).2 p (List.mem_filter.1 hp).1 (by rw [sameD, e]; exact hd')
        rw [e] at h2
        omega
    · rfl
  unfold findA
  rw [hfr]
  exact first_keep K P _ hK

theorem meet_in (l : List RfA) (r : RfA) : r ∈ meetA l r ∧ ∀ q ∈ l, q ∈ meetA l r := by
  unfold meetA
  split
  · rename_i h
    exact ⟨hasR_iff.1 h, fun q hq => hq⟩
  · exact ⟨by simp, fun q hq => List.mem_append_left _ hq⟩
theorem line_met {take : RfA → ExA → Int × ExA} (ht : ∀ r x, ∀ q ∈ x.met, q ∈ (take r x).2.met) (s : StrA) (x : ExA) : ∀ q ∈ x.met, q ∈ (lineA take s x).2.met := by
  intro q hq
  unfold lineA
  split
  · exact ht _ _ q hq
  · split <;> exact hq
theorem lines_met {take : RfA → ExA → Int × ExA} (ht : ∀ r x, ∀ q ∈ x.met, q ∈ (take r x).2.met) : ∀ (l : List StrA) (x : ExA), ∀ q ∈ x.met, q ∈ (linesA take l x).2.met
  | [], x, q, hq => hq
  | s :: t, x, q, hq => by
    unfold linesA
    split
    · exact lines_met ht t _ q (line_met ht s x q hq)
    · exact line_met ht s x q hq
theorem take_met (P : List PgA) (may : List StrA) : ∀ (f : Nat) (r : RfA) (chain : List RfA) (x : ExA), ∀ q ∈ x.met, q ∈ (takeA P may f r chain x).2.met
  | 0, _, _, x, q, hq => hq
  | f + 1, r, chain, x, q, hq => by
    unfold takeA
    split
    · exact hq
    · refine lines_met (fun r x q hq => take_met P may f r _ x q hq) _ _ q ?_
      show q ∈ (if 0 < chain.length then meetA x.met _ else x.met)
      split
      · exact (meet_in _ _).2 q hq
      · exact hq

theorem need_lines {tP tQ : RfA → ExA → Int × ExA} {L : List RfA} (hm : ∀ r x, ∀ q ∈ x.met, q ∈ (tP r x).2.met) (h : ∀ r x x', tP r x = (0, x') → (∀ q ∈ x'.met, q ∈ L) → tQ r x = (0, x')) : ∀ (l : List StrA) (x x' : ExA), linesA tP l x = (0, x') → (∀ q ∈ x'.met, q ∈ L) → linesA tQ l x = (0, x')
  | [], x, x', e, _ => e
  | s :: t, x, x', e, hL => by
    unfold linesA at e ⊢
    by_cases q : (lineA tP s x).1 = 0
    · rw [if_pos q] at e
      have hin : ∀ z ∈ (lineA tP s x).2.met, z ∈ L := fun z hz => hL z (by have := lines_met hm t _ z hz; rw [e] at this; exact this)
      have hl : lineA tQ s x = lineA tP s x := by
        unfold lineA at q hin ⊢
        split
        · rename_i hs
          rw [if_pos hs] at q hin
          have hq : tP (scanA s).1 x = (0, (tP (scanA s).1 x).2) := Prod.ext q rfl
          exact (h _ _ _ hq hin).trans hq.symm
        · rfl
      rw [hl, if_pos q]
      exact need_lines hm h t _ _ e hL
    · rw [if_neg q] at e
      exact absurd (congrArg Prod.fst e) q
theorem need_take {K : RfA → Bool} {P : List PgA} {may : List StrA} {at0 : RfA} {L : List RfA} (hK : ∀ q ∈ L, K q = true) (hA : ∀ p : PgA, sameD p at0 → (at0.ver = 0 ∨ p.ref.ver = at0.ver) → K p.ref = true) : ∀ (f : Nat) (r : RfA) (chain : List RfA) (x x' : ExA), takeA P may f r chain x = (0, x') → (∀ q ∈ x'.met, q ∈ L) → (0 < chain.length ∨ r = at0) → takeA (P.filter (fun p => K p.ref)) may f r chain x = (0, x')
  | 0, r, chain, x, x', e, _, _ => by cases e
  | f + 1, r, chain, x, x', e, hL, hr => by
    unfold takeA at e ⊢
    by_cases q : (admitA P may r chain x.takes).2 ≠ 0
    · rw [if_pos q] at e
      exact absurd (congrArg Prod.fst e) q
    · rw [if_neg q] at e
      have q0 : (admitA P may r chain x.takes).2 = 0 := Classical.not_not.1 q
      obtain ⟨_, _, hf, hp, _, _⟩ := admit_ok q0
      obtain ⟨hpm, hpr⟩ := find_mem hf
      have hkeep : K (findA P r).1.ref = true := by
        rcases hr with hc | hr
        · refine hK _ (hL _ ?_)
          have hmet : (findA P r).1.ref ∈ (metA chain (admitA P may r chain x.takes).1.ref x).met := by
            rw [hp]
            show _ ∈ (if 0 < chain.length then meetA x.met _ else x.met)
            rw [if_pos hc]
            exact (meet_in _ _).1
          have := lines_met (take := fun r' x' => takeA P may f r' (chain ++ [(admitA P may r chain x.takes).1.ref]) x') (fun r x q hq => take_met P may f r _ x q hq) (lines (clean (admitA P may r chain x.takes).1.text)) _ _ hmet
          rw [e] at this
          exact this
        · subst hr
          refine hA _ ?_ ?_
          · rw [sameD, hpr]
            unfold findR
            split
            · exact lat_doc P r false
            · exact ⟨rfl, rfl⟩
          · rw [hpr]
            unfold findR
            split
            · rename_i h; exact .inl h
            · exact .inr rfl
      have hfq := find_keep (K := K) hf hkeep
      have had : admitA (P.filter (fun p => K p.ref)) may r chain x.takes = admitA P may r chain x.takes := by
        unfold admitA
        rw [hfq]
      rw [had, if_neg q]
      exact need_lines (fun r x q hq => take_met P may f r _ x q hq) (fun r' y y' h1 h2 => need_take hK hA f r' _ y y' h1 h2 (.inl (by rw [List.length_append]; simp))) _ _ _ e hL

/-- Is a page one of at, or told? -/
def needK (at0 : RfA) (L : List RfA) (q : RfA) : Bool := (q.tenant == at0.tenant && q.doc == at0.doc && (at0.ver == 0 || q.ver == at0.ver)) || L.any (fun z => eqR z q)
theorem expand_needs {P : List PgA} {may : List StrA} {at0 : RfA} (h : (expandA P may at0).2.2 = 0) : expandA (P.filter (fun p => needK at0 (expandA P may at0).2.1 p.ref)) may at0 = expandA P may at0 := by
  have h0 : (takeA P may 10 at0 [] {}).1 = 0 := by
    unfold expandA at h
    by_cases q : (takeA P may 10 at0 [] {}).1 ≠ 0
    · rw [if_pos q] at h; exact absurd h q
    · exact Classical.not_not.1 q
  have hE : expandA P may at0 = ((takeA P may 10 at0 [] {}).2.out, (takeA P may 10 at0 [] {}).2.met, 0) := by
    unfold expandA
    rw [if_neg (by simpa using h0)]
  have hL : (expandA P may at0).2.1 = (takeA P may 10 at0 [] {}).2.met := by rw [hE]
  have ht := need_take (K := needK at0 (expandA P may at0).2.1) (P := P) (may := may) (at0 := at0) (L := (expandA P may at0).2.1) (fun q hq => by
      unfold needK
      rw [Bool.or_eq_true, List.any_eq_true]
      exact .inr ⟨q, hq, eqR_refl q⟩) (fun p hs hv => by
      unfold needK
      rw [Bool.or_eq_true]
      refine .inl ?_
      rcases hv with hv | hv <;> simp [hs.1, hs.2, hv]) 10 at0 [] {} (takeA P may 10 at0 [] {}).2 (Prod.ext h0 rfl) (fun q hq => by rw [hL]; exact hq) (.inr rfl)
  generalize P.filter (fun p => needK at0 (expandA P may at0).2.1 p.ref) = Q at ht ⊢
  rw [hE]
  unfold expandA
  rw [ht]
  simp
theorem expand_met2 (pages : List PgA) (may : List StrA) (r : RfA) : (expandA pages may r).2.1.length ≤ 300 := by
  unfold expandA
  split
  · simp
  · have h := take_wf pages may 10 r [] {} ⟨by simp, by simp, by simp⟩
    have h1 := h.2.1
    have h2 := h.2.2
    show (takeA pages may 10 r [] {}).2.met.length ≤ 300
    omega
theorem expand_out_len (P : List PgA) (may : List StrA) (r : RfA) : (expandA P may r).1.length ≤ 16384 := by
  unfold expandA
  split
  · simp
  · exact (take_wf P may 10 r [] {} ⟨by simp, by simp, by simp⟩).1
theorem expand_bad {P : List PgA} {may : List StrA} {r : RfA} (h : (expandA P may r).2.2 ≠ 0) : (expandA P may r).1 = [] ∧ (expandA P may r).2.1 = [] := by
  unfold expandA at h ⊢
  split
  · exact ⟨rfl, rfl⟩
  · rename_i q
    rw [if_neg q] at h
    exact absurd rfl h
end Go.Proofs.YtkjicdldlnefeaaDoor
