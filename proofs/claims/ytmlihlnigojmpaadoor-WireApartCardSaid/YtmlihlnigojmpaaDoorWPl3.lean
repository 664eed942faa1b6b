/- Plain: a letter that is right is read as it was written, no strict beginning of it and nothing longer is; what is read is written the same. -/
import Derived.Test.YtmlihlnigojmpaaDoorWPl2
set_option linter.unusedVariables false
namespace Go.Proofs.YtmlihlnigojmpaaDoor

theorem okN_le (b : Bool) : okN b ≤ 1 := by cases b <;> decide
theorem okN_eq (b : Bool) : (okN b == 1) = b := by cases b <;> rfl
theorem right_parts {M : Lt} (h : rightB M = true) : headB M = true ∧ boundsB M = true ∧ mayB M = true ∧ nilB (restL M) = true := by
  unfold rightB at h
  simp only [Bool.and_eq_true] at h
  exact ⟨h.1.1.1, h.1.1.2, h.1.2, h.2⟩

theorem rKind_put {L r : List UInt8} {p : Nat} {M : Lt} (hr : rightB M = true) (h : L.drop p = kindL M ++ r) : rKind L M.k.toNat M.f.toNat M.t.toNat M.tm.toNat p = .ok (M, p + (kindL M).length) := by
  obtain ⟨k, f, t, tm, i, lt, cm, rd, HI⟩ := right_is hr
  obtain ⟨_, _, hm, hn⟩ := right_parts hr
  have hk := HI.bk
  have ei := HI.ei
  have elt := HI.elt
  have ecm := HI.ecm
  have erd := HI.erd
  have bi := HI.bi
  have blt := HI.blt
  have bcm := HI.bcm
  have brd := HI.brd
  have e0 : M.k.toNat = k := by rw [HI.ek]; simp
  have e1 : M.f.toNat = f := by rw [HI.ef]; simp
  have e2 : M.t.toNat = t := by rw [HI.et]; simp
  have e3 : M.tm.toNat = tm := by rw [HI.etm]; simp
  have e4 : M.i.toNat = i := by rw [ei]; simp
  have e5 : M.lt.toNat = lt := by rw [elt]; simp
  have e6 : M.cm.toNat = cm := by rw [ecm]; simp
  have e7 : M.rd.toNat = rd := by rw [erd]; simp
  rw [e0, e1, e2, e3]
  unfold rKind
  by_cases k1 : k = 1
  · have hk1 : M.k = 1 := by rw [HI.ek, k1]; rfl
    unfold restL at hn
    rw [if_pos hk1] at hn
    unfold nilB numB snpB at hn
    simp at hn
    rw [kindL_1 hk1, e4, e5] at h ⊢
    rw [List.append_assoc] at h
    have g1 := rN_put (most := 999999) h (by omega) (by omega)
    have g2 := rN_put (most := 999999) (drop_next h) (by omega) (by omega)
    rw [if_pos k1, bindR_ok g1, bindR_ok g2]
    congr 1
    congr 1
    · rw [lt_eq]
      simp [ltB, HI.ek, HI.ef, HI.et, HI.etm, ei, elt, hn, k1]
    · rw [List.length_append]; omega
  by_cases k2 : k = 2
  · have hk2 : M.k = 2 := by rw [HI.ek, k2]; rfl
    unfold restL at hn
    rw [if_neg (by omega), if_pos hk2] at hn
    unfold nilB numB snpB at hn
    simp at hn
    rw [kindL_2 hk2] at h ⊢
    have g1 := rN_put (most := 1) h (okN_le _) (by omega)
    rw [if_neg k1, if_pos k2, bindR_ok g1, okN_eq]
    congr 1
    congr 1
    rw [lt_eq]
    simp [ltB, HI.ek, HI.ef, HI.et, HI.etm, hn, k2]
  by_cases k3 : k = 3
  · have hk3 : M.k = 3 := by rw [HI.ek, k3]; rfl
    unfold restL at hn
    rw [if_neg (by omega), if_neg (by omega), if_pos hk3] at hn
    unfold nilB numB snpB at hn
    simp at hn
    unfold mayB at hm
    rw [if_neg (by omega), if_pos hk3] at hm
    simp only [Bool.and_eq_true, decide_eq_true_eq] at hm
    rw [kindL_3 hk3, e4, e5, e6, e7] at h ⊢
    simp only [List.append_assoc] at h
    have g1 := rN_put (most := 999999) h (by omega) (by omega)
    have h := drop_next h
    have g2 := rN_put (most := 999999) h (by omega) (by omega)
    have h := drop_next h
    have g3 := rN_put (most := 999999) h (by omega) (by omega)
    have h := drop_next h
    have g4 := rN_put (most := 1073741824) h (by omega) (by omega)
    have h := drop_next h
    have g5 := rEntries_put h hm.1 hm.2
    rw [ei] at g5
    rw [if_neg k1, if_neg k2, if_pos k3, bindR_ok g1, bindR_ok g2, bindR_ok g3, bindR_ok g4, bindR_ok g5]
    congr 1
    congr 1
    · rw [lt_eq]
      simp [ltB, HI.ek, HI.ef, HI.et, HI.etm, ei, elt, ecm, erd, hn, k3]
    · simp only [List.length_append]; omega
  by_cases k4 : k = 4
  · have hk4 : M.k = 4 := by rw [HI.ek, k4]; rfl
    unfold restL at hn
    rw [if_neg (by omega), if_neg (by omega), if_neg (by omega), if_pos hk4] at hn
    unfold nilB numB snpB at hn
    simp at hn
    rw [kindL_4 hk4, e4, e7] at h ⊢
    simp only [List.append_assoc] at h
    have g1 := rN_put (most := 1) h (okN_le _) (by omega)
    have h := drop_next h
    have g2 := rN_put (most := 999999) h (by omega) (by omega)
    have h := drop_next h
    have g3 := rN_put (most := 1073741824) h (by omega) (by omega)
    rw [if_neg k1, if_neg k2, if_neg k3, if_pos k4, bindR_ok g1, bindR_ok g2, bindR_ok g3, okN_eq]
    congr 1
    congr 1
    · rw [lt_eq]
      simp [ltB, HI.ek, HI.ef, HI.et, HI.etm, ei, erd, hn, k4]
    · simp only [List.length_append]; omega
  have k5 : k = 5 := by omega
  have hk5 : M.k = 5 := by rw [HI.ek, k5]; rfl
  obtain ⟨X, T, ns, eX, eT, bX, bT, hns, hz, hl, hn0, hd⟩ := HI.k5 k5
  unfold restL at hn
  rw [if_neg (by omega), if_neg (by omega), if_neg (by omega), if_neg (by omega), if_pos hk5] at hn
  unfold nilB numB snpB at hn
  simp at hn
  have e8 : M.sx.toNat = X := by rw [eX]; simp
  have e9 : M.st.toNat = T := by rw [eT]; simp
  rw [kindL_5 hk5, e7, e8, e9, hns, natI_toNat] at h ⊢
  simp only [List.append_assoc] at h
  have g1 := rN_put (most := 999999) h (by omega) (by omega)
  have h := drop_next h
  have g2 := rN_put (most := 999999) h (by omega) (by omega)
  have h := drop_next h
  have g3 := rNodes_put h hl (fun z hz' => (hz z hz').2)
  have h := drop_next h
  have g4 := rT_put (most := 300000) h (by omega) (by omega)
  have h := drop_next h
  have g5 := rN_put (most := 1073741824) h (by omega) (by omega)
  rw [if_neg k1, if_neg k2, if_neg k3, if_neg k4, if_pos k5]
  have gS : rSn L p = .ok (⟨X, T, ns, M.da⟩, p + (putN X).length + (putN T).length + (flatN (ns.length :: ns)).length + (putT M.da).length) := by
    unfold rSn
    rw [bindR_ok g1, bindR_ok g2, bindR_ok g3, bindR_ok g4]
  rw [bindR_ok gS, bindR_ok g5]
  congr 1
  congr 1
  · rw [lt_eq]
    simp [ltB, HI.ek, HI.ef, HI.et, HI.etm, eX, eT, hns, erd, hn, k5]
  · simp only [List.length_append]; omega

def decP (L : List UInt8) : Except Nat (Lt × Nat) :=
  bindR (rN L 5 0) fun k p1 => bindR (rN L 5 p1) fun f p2 => bindR (rN L 5 p2) fun t p3 => bindR (rN L 999999 p3) fun tm p4 => rKind L k f t tm p4
theorem decL_P (L : List UInt8) : decL L = bindR (decP L) fun M p5 => if p5 < L.length then .error p5 else if rightB M = true then .ok M else .error 0 := by
  unfold decL decP
  cases rN L 5 0 with
  | error q => rfl
  | ok x =>
  obtain ⟨k, p1⟩ := x
  show bindR (rN L 5 p1) _ = bindR (bindR (rN L 5 p1) _) _
  cases rN L 5 p1 with
  | error q => rfl
  | ok x =>
  obtain ⟨f, p2⟩ := x
  show bindR (rN L 5 p2) _ = bindR (bindR (rN L 5 p2) _) _
  cases rN L 5 p2 with
  | error q => rfl
  | ok x =>
  obtain ⟨t, p3⟩ := x
  show bindR (rN L 999999 p3) _ = bindR (bindR (rN L 999999 p3) _) _
  cases rN L 999999 p3 with
  | error q => rfl
  | ok x => rfl
theorem encL_eq (M : Lt) : encL M = putN M.k.toNat ++ (putN M.f.toNat ++ (putN M.t.toNat ++ (putN M.tm.toNat ++ kindL M))) := by
  unfold encL
  simp [flatN]
theorem decP_put {M : Lt} (hr : rightB M = true) (r : List UInt8) : decP (encL M ++ r) = .ok (M, (encL M).length) := by
  obtain ⟨k, f, t, tm, i, lt, cm, rd, HI⟩ := right_is hr
  have hall := HI.all
  have e0 : M.k.toNat = k := by rw [HI.ek]; simp
  have e1 : M.f.toNat = f := by rw [HI.ef]; simp
  have e2 : M.t.toNat = t := by rw [HI.et]; simp
  have e3 : M.tm.toNat = tm := by rw [HI.etm]; simp
  obtain ⟨L, hL⟩ : ∃ L, encL M ++ r = L := ⟨_, rfl⟩
  have h : L.drop 0 = putN M.k.toNat ++ (putN M.f.toNat ++ (putN M.t.toNat ++ (putN M.tm.toNat ++ (kindL M ++ r)))) := by
    rw [List.drop_zero, ← hL, encL_eq]
    simp
  rw [hL, encL_eq]
  have g1 := rN_put (most := 5) h (by omega) (by omega)
  have h := drop_next h
  have g2 := rN_put (most := 5) h (by omega) (by omega)
  have h := drop_next h
  have g3 := rN_put (most := 5) h (by omega) (by omega)
  have h := drop_next h
  have g4 := rN_put (most := 999999) h (by omega) (by omega)
  have h := drop_next h
  have g5 := rKind_put hr h
  unfold decP
  rw [bindR_ok g1, bindR_ok g2, bindR_ok g3, bindR_ok g4, g5]
  congr 1
  congr 1
  simp only [List.length_append]
  omega
theorem decP_inv {L : List UInt8} {M : Lt} {q : Nat} (h : decP L = .ok (M, q)) : L = encL M ++ L.drop q ∧ q = (encL M).length := by
  unfold decP at h
  obtain ⟨k, p1, h1, h⟩ := bindR_inv h
  obtain ⟨f, p2, h2, h⟩ := bindR_inv h
  obtain ⟨t, p3, h3, h⟩ := bindR_inv h
  obtain ⟨tm, p4, h4, h⟩ := bindR_inv h
  obtain ⟨a1, a2, a3⟩ := rN_inv h1
  obtain ⟨b1, b2, b3⟩ := rN_inv h2
  obtain ⟨c1, c2, c3⟩ := rN_inv h3
  obtain ⟨d1, d2, d3⟩ := rN_inv h4
  obtain ⟨e1, e2, ek, ef, et, etm⟩ := rKind_inv h
  have hE : encL M = putN k ++ (putN f ++ (putN t ++ (putN tm ++ kindL M))) := by
    rw [encL_eq, ek, ef, et, etm]
    simp
  rw [hE]
  refine ⟨?_, by simp only [List.length_append]; omega⟩
  rw [List.drop_zero, b1, c1, d1, e1] at a1
  simpa using a1
theorem decL_enc {M : Lt} (hr : rightB M = true) : decL (encL M) = .ok M := by
  have h := decP_put hr []
  rw [List.append_nil] at h
  rw [decL_P, bindR_ok h, if_neg (Nat.lt_irrefl _), if_pos hr]
theorem decL_more {M : Lt} (hr : rightB M = true) (x : UInt8) : decL (encL M ++ [x]) = .error (encL M).length := by
  rw [decL_P, bindR_ok (decP_put hr [x]), if_pos (by simp)]
theorem decL_inv {L : List UInt8} {M : Lt} (h : decL L = .ok M) : rightB M = true ∧ encL M = L := by
  rw [decL_P] at h
  obtain ⟨M', q, h1, h⟩ := bindR_inv h
  split at h
  · cases h
  · rename_i hq
    split at h
    · rename_i hr
      cases h
      obtain ⟨a1, a2⟩ := decP_inv h1
      refine ⟨hr, ?_⟩
      rw [List.drop_of_length_le (by omega), List.append_nil] at a1
      exact a1.symm
    · cases h
theorem decL_cut {M : Lt} (hr : rightB M = true) {n : Nat} (hn : n < (encL M).length) : ∃ q, decL ((encL M).take n) = .error q := by
  cases h : decL ((encL M).take n) with
  | error q => exact ⟨q, rfl⟩
  | ok N =>
    obtain ⟨h1, h2⟩ := decL_inv h
    have h3 := decP_put h1 ((encL M).drop n)
    rw [h2, List.take_append_drop] at h3
    have h4 := decP_put hr []
    rw [List.append_nil, h3] at h4
    have h5 : ((encL M).take n).length = (encL M).length := by
      have := Except.ok.inj h4
      exact (Prod.mk.inj this).2
    rw [List.length_take] at h5
    omega
theorem encL_inj {M N : Lt} (hm : rightB M = true) (hn : rightB N = true) : encL M = encL N ↔ M = N := by
  constructor
  · intro h
    have h1 := decL_enc hm
    rw [h, decL_enc hn] at h1
    exact (Except.ok.inj h1).symm
  · intro h
    rw [h]
theorem encL_pos (M : Lt) : 0 < (encL M).length := by
  rw [encL_eq, List.length_append]
  have := putN_pos M.k.toNat
  omega
end Go.Proofs.YtmlihlnigojmpaaDoor
