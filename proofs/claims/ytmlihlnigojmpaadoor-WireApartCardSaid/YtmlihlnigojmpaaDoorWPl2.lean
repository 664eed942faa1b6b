/- Plain: entries, what a Kind has, whole letters: what is read was written so, what is written is read. -/
import Derived.Test.YtmlihlnigojmpaaDoorWPl1
import Derived.Test.YtmlihlnigojmpaaDoorWPut3
import Derived.Test.YtmlihlnigojmpaaDoorWSame0
set_option linter.unusedVariables false
namespace Go.Proofs.YtmlihlnigojmpaaDoor

theorem flatN_two (a b : Nat) : flatN [a, b] = putN a ++ putN b := by simp [flatN]
theorem flatN_one (a : Nat) : flatN [a] = putN a := by simp [flatN]
theorem bindR_inv {α β : Type} {X : Except Nat (α × Nat)} {k : α → Nat → Except Nat β} {y : β} (h : bindR X k = .ok y) : ∃ x p, X = .ok (x, p) ∧ k x p = .ok y := by
  cases X with
  | error q => cases h
  | ok x => exact ⟨x.1, x.2, rfl, h⟩

theorem entL_1 {e : En} (h : e.kind = 1) : entL e = putN e.term.toNat ++ (putN 1 ++ putT e.data) := by
  unfold entL
  rw [if_pos h, h, flatN_two]
  simp
theorem entL_2 {e : En} (h : e.kind = 2) : entL e = putN e.term.toNat ++ (putN 2 ++ flatN (e.nodes.length :: e.nodes.map Int.toNat)) := by
  unfold entL
  rw [if_neg (by omega), if_pos h, h, flatN_two]
  simp
theorem entL_0 {e : En} (h1 : ¬ e.kind = 1) (h2 : ¬ e.kind = 2) : entL e = putN e.term.toNat ++ putN e.kind.toNat := by
  unfold entL
  rw [if_neg h1, if_neg h2, flatN_two]
  simp
theorem kindL_1 {M : Lt} (h : M.k = 1) : kindL M = putN M.i.toNat ++ putN M.lt.toNat := by unfold kindL; rw [if_pos h, flatN_two]
theorem kindL_2 {M : Lt} (h : M.k = 2) : kindL M = putN (okN M.ok) := by unfold kindL; rw [if_neg (by omega), if_pos h, flatN_one]
theorem kindL_3 {M : Lt} (h : M.k = 3) : kindL M = putN M.i.toNat ++ (putN M.lt.toNat ++ (putN M.cm.toNat ++ (putN M.rd.toNat ++ entsL M.es))) := by
  unfold kindL
  rw [if_neg (by omega), if_neg (by omega), if_pos h]
  simp [flatN]
theorem kindL_4 {M : Lt} (h : M.k = 4) : kindL M = putN (okN M.ok) ++ (putN M.i.toNat ++ putN M.rd.toNat) := by
  unfold kindL
  rw [if_neg (by omega), if_neg (by omega), if_neg (by omega), if_pos h]
  simp [flatN]
theorem kindL_5 {M : Lt} (h : M.k = 5) : kindL M = putN M.sx.toNat ++ (putN M.st.toNat ++ (flatN ((M.ns.map Int.toNat).length :: M.ns.map Int.toNat) ++ (putT M.da ++ putN M.rd.toNat))) := by
  unfold kindL
  rw [if_neg (by omega), if_neg (by omega), if_neg (by omega), if_neg (by omega), if_pos h, snpL, flatN_two, flatN_one]
  simp

theorem rE_inv {L : List UInt8} {i : Int} {p q : Nat} {e : En} (h : rE L i p = .ok (e, q)) : L.drop p = entL e ++ L.drop q ∧ q = p + (entL e).length ∧ e.idx = i := by
  unfold rE at h
  cases h1 : rN L 999999 p with
  | error e => rw [h1] at h; cases h
  | ok x =>
  obtain ⟨t, p1⟩ := x
  rw [h1] at h
  dsimp only at h
  cases h2 : rN L 2 p1 with
  | error e => rw [h2] at h; cases h
  | ok x =>
  obtain ⟨k, p2⟩ := x
  rw [h2] at h
  dsimp only at h
  obtain ⟨a1, a2, a3⟩ := rN_inv h1
  obtain ⟨b1, b2, b3⟩ := rN_inv h2
  by_cases k1 : k = 1
  · rw [if_pos k1] at h
    cases h3 : rT L 8000 p2 with
    | error e => rw [h3] at h; cases h
    | ok y =>
      obtain ⟨s, p3⟩ := y
      rw [h3] at h
      cases h
      obtain ⟨c1, c2, c3⟩ := rT_inv h3
      subst k1
      have he : entL { idx := i, term := (t : Int), kind := ((1 : Nat) : Int), data := s, nodes := [] } = putN t ++ (putN 1 ++ putT s) := entL_1 rfl
      rw [he]
      exact ⟨by rw [a1, b1, c1]; simp, by simp only [List.length_append]; omega, rfl⟩
  · rw [if_neg k1] at h
    by_cases k2 : k = 2
    · rw [if_pos k2] at h
      cases h3 : rNodes L p2 with
      | error e => rw [h3] at h; cases h
      | ok y =>
        obtain ⟨ns, p3⟩ := y
        rw [h3] at h
        cases h
        obtain ⟨c1, c2, c3⟩ := rNodes_inv h3
        subst k2
        have hnl : (natI ns).length = ns.length := List.length_map ..
        have he : entL { idx := i, term := (t : Int), kind := ((2 : Nat) : Int), data := [], nodes := natI ns } = putN t ++ (putN 2 ++ flatN (ns.length :: ns)) := by
          rw [entL_2 rfl]
          show putN t ++ (putN 2 ++ flatN ((natI ns).length :: (natI ns).map Int.toNat)) = _
          rw [hnl, natI_toNat]
        rw [he]
        exact ⟨by rw [a1, b1, c1]; simp, by simp only [List.length_append]; omega, rfl⟩
    · rw [if_neg k2] at h
      cases h
      have he : entL { idx := i, term := (t : Int), kind := (k : Int), data := [], nodes := [] } = putN t ++ putN k := entL_0 (by show ¬ (k : Int) = 1; omega) (by show ¬ (k : Int) = 2; omega)
      rw [he]
      exact ⟨by rw [a1, b1]; simp, by simp only [List.length_append]; omega, rfl⟩
theorem rE_put {L r : List UInt8} {p : Nat} {e : En} (h : L.drop p = entL e ++ r) (hB : e.B = true) : rE L e.idx p = .ok (e, p + (entL e).length) := by
  obtain ⟨t, ht, t1, t2, hk⟩ := ent_is hB
  unfold entL at h ⊢
  rw [flatN_two, List.append_assoc, List.append_assoc] at h
  rw [flatN_two]
  have h1 := rN_put (most := 999999) h (by omega) (by omega)
  have h' := drop_next h
  have hek : e.kind.toNat ≤ 2 := by
    rcases hk with ⟨k, _⟩ | ⟨k, _⟩ | ⟨k, _⟩ <;> rw [k] <;> decide
  have h2 := rN_put (most := 2) h' hek (by omega)
  have h'' := drop_next h'
  unfold rE
  rw [h1]
  dsimp only
  rw [h2]
  dsimp only
  simp only [List.length_append]
  rcases hk with ⟨k, hd, hn⟩ | ⟨k, hd, hn⟩ | ⟨k, hd, ns, hn, hz, hl, hn0⟩
  · rw [k, if_neg (by decide), if_neg (by decide), if_neg (by decide), if_neg (by decide)]
    congr 1
    congr 1
    · rw [en_eq]
      exact ⟨rfl, by show (e.term.toNat : Int) = e.term; omega, k.symm, hd.symm, hn.symm⟩
    · simp only [List.length_nil]; omega
  · rw [k, if_pos (by decide), if_pos rfl]
    rw [if_pos k] at h''
    have h3 := rT_put (most := 8000) h'' (by omega) (by omega)
    rw [k] at h3
    rw [h3]
    dsimp only
    congr 1
    congr 1
    · rw [en_eq]
      exact ⟨rfl, by show (e.term.toNat : Int) = e.term; omega, k.symm, rfl, hn.symm⟩
    · omega
  · rw [k, if_neg (by decide), if_pos (by decide), if_neg (by decide), if_pos rfl]
    have hnl : e.nodes.length = ns.length := by rw [hn]; exact List.length_map ..
    rw [if_neg (by omega), if_pos k, hnl, hn, natI_toNat] at h''
    have h3 := rNodes_put h'' hl (fun z hz' => (hz z hz').2)
    rw [k] at h3
    rw [h3, hnl, hn, natI_toNat]
    dsimp only
    congr 1
    congr 1
    · rw [en_eq]
      exact ⟨rfl, by show (e.term.toNat : Int) = e.term; omega, k.symm, hd.symm, hn.symm⟩
    · omega

theorem rEs_inv : ∀ {L : List UInt8} {n : Nat} {i : Int} {p q : Nat} {es : List En}, rEs L n i p = .ok (es, q) → es.length = n ∧ L.drop p = es.flatMap entL ++ L.drop q ∧ q = p + (es.flatMap entL).length
  | L, 0, i, p, q, es, h => by
    simp only [rEs] at h
    cases h
    exact ⟨rfl, rfl, rfl⟩
  | L, n + 1, i, p, q, es, h => by
    simp only [rEs] at h
    cases h1 : rE L (i + 1) p with
    | error e => rw [h1] at h; cases h
    | ok x =>
      obtain ⟨e, p1⟩ := x
      rw [h1] at h
      dsimp only at h
      cases h2 : rEs L n (i + 1) p1 with
      | error e => rw [h2] at h; cases h
      | ok y =>
        obtain ⟨ys, p2⟩ := y
        rw [h2] at h
        cases h
        obtain ⟨a1, a2, a3⟩ := rE_inv h1
        obtain ⟨b1, b2, b3⟩ := rEs_inv h2
        refine ⟨by simp [b1], ?_, ?_⟩
        · rw [List.flatMap_cons, a1, b2, List.append_assoc]
        · rw [List.flatMap_cons, List.length_append]; omega
theorem rEs_put : ∀ {L r : List UInt8} {top i t : Int} {p : Nat} {es : List En}, L.drop p = es.flatMap entL ++ r → goB top i t es = true → rEs L es.length i p = .ok (es, p + (es.flatMap entL).length)
  | L, r, top, i, t, p, [], h, hg => rfl
  | L, r, top, i, t, p, e :: es, h, hg => by
    rw [List.flatMap_cons, List.append_assoc] at h
    simp only [goB, Bool.and_eq_true, decide_eq_true_eq] at hg
    have h1 := rE_put h hg.1.1.1.1
    rw [hg.1.1.1.2] at h1
    have h2 := rEs_put (drop_next h) hg.2
    simp only [List.length_cons, rEs, h1, h2]
    rw [List.flatMap_cons, List.length_append, Nat.add_assoc]
theorem rEntries_inv {L : List UInt8} {i : Int} {p q : Nat} {es : List En} (h : rEntries L i p = .ok (es, q)) : L.drop p = entsL es ++ L.drop q ∧ q = p + (entsL es).length := by
  unfold rEntries at h
  cases h1 : rN L 4 p with
  | error e => rw [h1] at h; cases h
  | ok x =>
    obtain ⟨n, p1⟩ := x
    rw [h1] at h
    dsimp only at h
    obtain ⟨a1, a2, a3⟩ := rN_inv h1
    obtain ⟨b1, b2, b3⟩ := rEs_inv h
    subst b1
    unfold entsL
    rw [flatN_one]
    exact ⟨by rw [a1, b2, List.append_assoc], by rw [List.length_append]; omega⟩
theorem rEntries_put {L r : List UInt8} {top i t : Int} {p : Nat} {es : List En} (h : L.drop p = entsL es ++ r) (hl : es.length ≤ 4) (hg : goB top i t es = true) : rEntries L i p = .ok (es, p + (entsL es).length) := by
  unfold entsL at h ⊢
  rw [flatN_one, List.append_assoc] at h
  rw [flatN_one]
  have h1 := rN_put (most := 4) h hl (by omega)
  have h2 := rEs_put (drop_next h) hg
  unfold rEntries
  rw [h1]
  dsimp only
  rw [h2, List.length_append, Nat.add_assoc]

theorem rKind_inv {L : List UInt8} {k f t tm p q : Nat} {M : Lt} (h : rKind L k f t tm p = .ok (M, q)) : L.drop p = kindL M ++ L.drop q ∧ q = p + (kindL M).length ∧ M.k = (k : Int) ∧ M.f = (f : Int) ∧ M.t = (t : Int) ∧ M.tm = (tm : Int) := by
  have okle : ∀ {o : Nat}, o ≤ 1 → okN (o == 1) = o := fun {o} ho => by
    rcases Nat.lt_or_ge o 1 with h | h
    · have : o = 0 := by omega
      subst this
      rfl
    · have : o = 1 := by omega
      subst this
      rfl
  unfold rKind at h
  by_cases k1 : k = 1
  · rw [if_pos k1] at h
    subst k1
    obtain ⟨i, p1, h1, h⟩ := bindR_inv h
    obtain ⟨lt, p2, h2, h⟩ := bindR_inv h
    cases h
    obtain ⟨a1, a2, a3⟩ := rN_inv h1
    obtain ⟨b1, b2, b3⟩ := rN_inv h2
    have hk : kindL { ltB 1 f t tm with i := (i : Int), lt := (lt : Int) } = putN i ++ putN lt := kindL_1 rfl
    rw [hk]
    exact ⟨by rw [a1, b1]; simp, by rw [List.length_append]; omega, rfl, rfl, rfl, rfl⟩
  rw [if_neg k1] at h
  by_cases k2 : k = 2
  · rw [if_pos k2] at h
    subst k2
    obtain ⟨o, p1, h1, h⟩ := bindR_inv h
    cases h
    obtain ⟨a1, a2, a3⟩ := rN_inv h1
    have hk : kindL { ltB 2 f t tm with ok := o == 1 } = putN o := by
      rw [kindL_2 rfl]
      show putN (okN (o == 1)) = _
      rw [okle a3]
    rw [hk]
    exact ⟨a1, a2, rfl, rfl, rfl, rfl⟩
  rw [if_neg k2] at h
  by_cases k3 : k = 3
  · rw [if_pos k3] at h
    subst k3
    obtain ⟨i, p1, h1, h⟩ := bindR_inv h
    obtain ⟨lt, p2, h2, h⟩ := bindR_inv h
    obtain ⟨cm, p3, h3, h⟩ := bindR_inv h
    obtain ⟨rd, p4, h4, h⟩ := bindR_inv h
    obtain ⟨es, p5, h5, h⟩ := bindR_inv h
    cases h
    obtain ⟨a1, a2, a3⟩ := rN_inv h1
    obtain ⟨b1, b2, b3⟩ := rN_inv h2
    obtain ⟨c1, c2, c3⟩ := rN_inv h3
    obtain ⟨d1, d2, d3⟩ := rN_inv h4
    obtain ⟨e1, e2⟩ := rEntries_inv h5
    have hk : kindL { ltB 3 f t tm with i := (i : Int), lt := (lt : Int), cm := (cm : Int), rd := (rd : Int), es := es } = putN i ++ (putN lt ++ (putN cm ++ (putN rd ++ entsL es))) := kindL_3 rfl
    rw [hk]
    exact ⟨by rw [a1, b1, c1, d1, e1]; simp, by simp only [List.length_append]; omega, rfl, rfl, rfl, rfl⟩
  rw [if_neg k3] at h
  by_cases k4 : k = 4
  · rw [if_pos k4] at h
    subst k4
    obtain ⟨o, p1, h1, h⟩ := bindR_inv h
    obtain ⟨i, p2, h2, h⟩ := bindR_inv h
    obtain ⟨rd, p3, h3, h⟩ := bindR_inv h
    cases h
    obtain ⟨a1, a2, a3⟩ := rN_inv h1
    obtain ⟨b1, b2, b3⟩ := rN_inv h2
    obtain ⟨c1, c2, c3⟩ := rN_inv h3
    have hk : kindL { ltB 4 f t tm with ok := o == 1, i := (i : Int), rd := (rd : Int) } = putN o ++ (putN i ++ putN rd) := by
      rw [kindL_4 rfl]
      show putN (okN (o == 1)) ++ (putN i ++ putN rd) = _
      rw [okle a3]
    rw [hk]
    exact ⟨by rw [a1, b1, c1]; simp, by simp only [List.length_append]; omega, rfl, rfl, rfl, rfl⟩
  rw [if_neg k4] at h
  by_cases k5 : k = 5
  · rw [if_pos k5] at h
    subst k5
    obtain ⟨x, p1, h1, h⟩ := bindR_inv h
    obtain ⟨rd, p2, h2, h⟩ := bindR_inv h
    cases h
    unfold rSn at h1
    obtain ⟨X, q1, g1, h1⟩ := bindR_inv h1
    obtain ⟨T, q2, g2, h1⟩ := bindR_inv h1
    obtain ⟨ns, q3, g3, h1⟩ := bindR_inv h1
    obtain ⟨s, q4, g4, h1⟩ := bindR_inv h1
    cases h1
    obtain ⟨a1, a2, a3⟩ := rN_inv g1
    obtain ⟨b1, b2, b3⟩ := rN_inv g2
    obtain ⟨c1, c2, c3⟩ := rNodes_inv g3
    obtain ⟨d1, d2, d3⟩ := rT_inv g4
    obtain ⟨e1, e2, e3⟩ := rN_inv h2
    have hk : kindL { ltB 5 f t tm with sx := (X : Int), st := (T : Int), ns := natI ns, da := s, rd := (rd : Int) } = putN X ++ (putN T ++ (flatN (ns.length :: ns) ++ (putT s ++ putN rd))) := by
      rw [kindL_5 rfl]
      show putN X ++ (putN T ++ (flatN (((natI ns).map Int.toNat).length :: (natI ns).map Int.toNat) ++ (putT s ++ putN rd))) = _
      rw [natI_toNat]
    show L.drop p = kindL { ltB 5 f t tm with sx := (X : Int), st := (T : Int), ns := natI ns, da := s, rd := (rd : Int) } ++ _ ∧ _ = p + (kindL { ltB 5 f t tm with sx := (X : Int), st := (T : Int), ns := natI ns, da := s, rd := (rd : Int) }).length ∧ _
    rw [hk]
    exact ⟨by rw [a1, b1, c1, d1, e1]; simp, by simp only [List.length_append]; omega, rfl, rfl, rfl, rfl⟩
  rw [if_neg k5] at h
  cases h
end Go.Proofs.YtmlihlnigojmpaaDoor
