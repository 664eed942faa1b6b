/- Plain: how long a letter's bytes are. -/
import Derived.Test.YtmlihlnigojmpaaDoorWPl3
set_option linter.unusedVariables false
namespace Go.Proofs.YtmlihlnigojmpaaDoor

theorem entsL_len {es : List En} (hl : es.length ≤ 4) (hB : ∀ e ∈ es, e.B = true) : (entsL es).length ≤ 33000 := by
  have h1 : ∀ (xs : List En), (∀ e ∈ xs, e.B = true) → (xs.flatMap entL).length ≤ 8030 * xs.length := by
    intro xs
    induction xs with
    | nil => intro _; simp
    | cons x r ih =>
      intro h
      have h2 := entL_len (h x (by simp))
      have h3 := ih (fun e he => h e (by simp [he]))
      rw [List.flatMap_cons, List.length_append, List.length_cons]
      omega
  have h2 := h1 es hB
  unfold entsL
  rw [flatN_one, List.length_append]
  have := putN_le10 (n := es.length) (by omega)
  omega
theorem encL_len {M : Lt} (hr : rightB M = true) : (encL M).length ≤ 500000 := by
  obtain ⟨k, f, t, tm, i, lt, cm, rd, HI⟩ := right_is hr
  have hall := HI.all
  have e0 : M.k.toNat = k := by rw [HI.ek]; simp
  have e1 : M.f.toNat = f := by rw [HI.ef]; simp
  have e2 : M.t.toNat = t := by rw [HI.et]; simp
  have e3 : M.tm.toNat = tm := by rw [HI.etm]; simp
  have e4 : M.i.toNat = i := by rw [HI.ei]; simp
  have e5 : M.lt.toNat = lt := by rw [HI.elt]; simp
  have e6 : M.cm.toNat = cm := by rw [HI.ecm]; simp
  have e7 : M.rd.toNat = rd := by rw [HI.erd]; simp
  have p0 := putN_le10 (n := k) (by omega)
  have p1 := putN_le10 (n := f) (by omega)
  have p2 := putN_le10 (n := t) (by omega)
  have p3 := putN_le10 (n := tm) (by omega)
  have p4 := putN_le10 (n := i) (by omega)
  have p5 := putN_le10 (n := lt) (by omega)
  have p6 := putN_le10 (n := cm) (by omega)
  have p7 := putN_le10 (n := rd) (by omega)
  have p8 := putN_le10 (n := okN M.ok) (by have := okN_le M.ok; omega)
  rw [encL_eq, e0, e1, e2, e3]
  simp only [List.length_append]
  have hk : (kindL M).length ≤ 400000 := by
    by_cases k1 : k = 1
    · rw [kindL_1 (by rw [HI.ek, k1]; rfl), e4, e5]
      simp only [List.length_append]; omega
    by_cases k2 : k = 2
    · rw [kindL_2 (by rw [HI.ek, k2]; rfl)]
      omega
    by_cases k3 : k = 3
    · have h3 := HI.k3 k3
      have := entsL_len h3.1 h3.2
      rw [kindL_3 (by rw [HI.ek, k3]; rfl), e4, e5, e6, e7]
      simp only [List.length_append]; omega
    by_cases k4 : k = 4
    · rw [kindL_4 (by rw [HI.ek, k4]; rfl), e4, e7]
      simp only [List.length_append]; omega
    have k5 : k = 5 := by omega
    obtain ⟨X, T, ns, eX, eT, bX, bT, hns, hz, hl, hn0, hd⟩ := HI.k5 k5
    have e8 : M.sx.toNat = X := by rw [eX]; simp
    have e9 : M.st.toNat = T := by rw [eT]; simp
    have q1 := putN_le10 (n := X) (by omega)
    have q2 := putN_le10 (n := T) (by omega)
    have q3 := group_len hz hl
    have q4 := putT_len (d := M.da) (by omega)
    rw [kindL_5 (by rw [HI.ek, k5]; rfl), e7, e8, e9, hns, natI_toNat]
    simp only [List.length_append]; omega
  omega
end Go.Proofs.YtmlihlnigojmpaaDoor
