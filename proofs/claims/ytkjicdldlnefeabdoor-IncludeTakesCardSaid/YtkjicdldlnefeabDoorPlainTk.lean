/- Plain mathematics: how many documents may be taken in. -/
import Derived.Test.YtkjicdldlnefeabDoorPlainRep
set_option linter.unusedVariables false
namespace Go.Proofs.YtkjicdldlnefeabDoor

def tkE : StrA := [123, 123, 105, 110, 99, 108, 117, 100, 101, 32, 97, 47, 101, 125, 125]
def tkO : StrA := [123, 123, 105, 110, 99, 108, 117, 100, 101, 32, 97, 47, 111, 110, 101, 125, 125]
def tkL (A B : StrA) : List PgA := [⟨⟨[97], [101], 1⟩, []⟩, ⟨⟨[97], [111, 110, 101], 1⟩, A⟩, ⟨⟨[97], [116, 119, 111], 1⟩, B⟩]
def eR (v : Int) : RfA := ⟨[97], [101], v⟩
def oR (v : Int) : RfA := ⟨[97], [111, 110, 101], v⟩
def wR (v : Int) : RfA := ⟨[97], [116, 119, 111], v⟩
theorem tk_e : scanA tkE = (eR 0, true) := by kernel_rfl
theorem tk_o : scanA tkO = (oR 0, true) := by kernel_rfl
theorem tk_ge : tkE.all goodB = true := by decide
theorem tk_go : tkO.all goodB = true := by decide
theorem tk_fe (A B : StrA) : findA (tkL A B) (eR 0) = (⟨eR 1, []⟩, true) := rfl
theorem tk_fo (A B : StrA) : findA (tkL A B) (oR 0) = (⟨oR 1, A⟩, true) := rfl
theorem tk_fw (A B : StrA) : findA (tkL A B) (wR 0) = (⟨wR 1, B⟩, true) := rfl
theorem tk_admit {A B : StrA} {r : RfA} {p : PgA} {chain : List RfA} {t : Nat} (ht : r.tenant = [97]) (hf : findA (tkL A B) r = (p, true)) (h1 : hasR chain p.ref = false) (h2 : chain.length ≤ 8) : admitA (tkL A B) [[97]] r chain t = if 256 ≤ t then ({}, 7) else (p, 0) := by
  unfold admitA
  rw [hf, ht]
  simp only [Bool.true_eq_false, if_false]
  have h0 : hasS [[97]] [97] = true := rfl
  rw [h0, h1]
  simp only [Bool.true_eq_false, Bool.false_eq_true, if_false]
  rw [if_neg (by omega)]
theorem meet_idem (l : List RfA) (r : RfA) : meetA (meetA l r) r = meetA l r := by
  unfold meetA
  by_cases h : hasR l r = true
  · rw [if_pos h, if_pos h]
  · rw [if_neg h, if_pos (hasR_iff.2 (by simp))]
theorem e_take {A B : StrA} {f : Nat} {chain : List RfA} (h1 : hasR chain (eR 1) = false) (h2 : chain.length ≤ 8) (h3 : 0 < chain.length) (x : ExA) : (x.takes < 256 → takeA (tkL A B) [[97]] (f + 1) (eR 0) chain x = (0, ⟨x.out, meetA x.met (eR 1), x.takes + 1⟩)) ∧ (256 ≤ x.takes → (takeA (tkL A B) [[97]] (f + 1) (eR 0) chain x).1 = 7) := by
  have ha := tk_admit (t := x.takes) rfl (tk_fe A B) h1 h2
  unfold takeA
  rw [ha]
  constructor
  · intro h
    rw [if_neg (by omega : ¬ 256 ≤ x.takes)]
    simp only [ne_eq, not_true_eq_false, if_false]
    have : lines (clean []) = [] := rfl
    rw [this]
    unfold linesA metA
    rw [if_pos h3]
  · intro h
    rw [if_pos h]
    rfl
theorem e_lines {tk : RfA → ExA → Int × ExA} (ht : ∀ x, (x.takes < 256 → tk (eR 0) x = (0, ⟨x.out, meetA x.met (eR 1), x.takes + 1⟩)) ∧ (256 ≤ x.takes → (tk (eR 0) x).1 = 7)) : ∀ (n : Nat) (x : ExA), (x.takes + n ≤ 256 → linesA tk (List.replicate n tkE) x = (0, ⟨x.out, if n = 0 then x.met else meetA x.met (eR 1), x.takes + n⟩)) ∧ (x.takes ≤ 256 → 256 < x.takes + n → (linesA tk (List.replicate n tkE) x).1 = 7)
  | 0, x => ⟨fun _ => rfl, fun h1 h2 => by omega⟩
  | n + 1, x => by
    have hl : lineA tk tkE x = tk (eR 0) x := by unfold lineA; rw [tk_e]; rfl
    rw [List.replicate_succ]
    constructor
    · intro h
      rw [lines_go (by rw [hl]; exact (ht x).1 (by omega)), (e_lines ht n _).1 (by show x.takes + 1 + n ≤ 256; omega), meet_idem]
      rw [if_neg (by omega : ¬ n + 1 = 0)]
      by_cases q : n = 0
      · subst q
        rfl
      · rw [if_neg q]
        show ((0 : Int), (⟨x.out, _, x.takes + 1 + n⟩ : ExA)) = (0, ⟨x.out, _, x.takes + (n + 1)⟩)
        rw [Nat.add_assoc, Nat.add_comm 1 n]
    · intro h1 h2
      by_cases q : 256 ≤ x.takes
      · exact lines_fail (by rw [hl]; exact (ht x).2 q)
      · rw [lines_go (by rw [hl]; exact (ht x).1 (by omega))]
        exact (e_lines ht n _).2 (by show x.takes + 1 ≤ 256; omega) (by show 256 < x.takes + 1 + n; omega)
theorem o_take {B : StrA} {n f : Nat} {chain : List RfA} (h0 : hasR chain (oR 1) = false) (h1 : hasR (chain ++ [oR 1]) (eR 1) = false) (h2 : chain.length ≤ 7) (x : ExA) : (x.takes + 1 + n ≤ 256 → takeA (tkL (repN tkE n) B) [[97]] (f + 1 + 1) (oR 0) chain x = (0, ⟨x.out, if n = 0 then (metA chain (oR 1) x).met else meetA (metA chain (oR 1) x).met (eR 1), x.takes + 1 + n⟩)) ∧ (x.takes ≤ 256 → 256 < x.takes + 1 + n → (takeA (tkL (repN tkE n) B) [[97]] (f + 1 + 1) (oR 0) chain x).1 = 7) := by
  have ha := tk_admit (t := x.takes) rfl (tk_fo (repN tkE n) B) h0 (by omega)
  have hE := e_lines (tk := fun r' x' => takeA (tkL (repN tkE n) B) [[97]] (f + 1) r' (chain ++ [oR 1]) x') (fun x => e_take h1 (by simp; omega) (by simp) x) n (metA chain (oR 1) x)
  rw [takeA, ha]
  by_cases q : 256 ≤ x.takes
  · rw [if_pos q]
    exact ⟨fun h => by omega, fun _ _ => rfl⟩
  · rw [if_neg q]
    simp only [ne_eq, not_true_eq_false, if_false]
    rw [rep_all tk_ge]
    exact ⟨fun h => hE.1 h, fun _ h => hE.2 (by show x.takes + 1 ≤ 256; omega) h⟩
theorem o_lines {tk : RfA → ExA → Int × ExA} {n : Nat} (ht : ∀ x, (x.takes + 1 + n ≤ 256 → ∃ M, tk (oR 0) x = (0, ⟨x.out, M, x.takes + 1 + n⟩)) ∧ (x.takes ≤ 256 → 256 < x.takes + 1 + n → (tk (oR 0) x).1 = 7)) : ∀ (k : Nat) (x : ExA), (x.takes + k * (n + 1) ≤ 256 → ∃ M, linesA tk (List.replicate k tkO) x = (0, ⟨x.out, M, x.takes + k * (n + 1)⟩)) ∧ (x.takes ≤ 256 → 256 < x.takes + k * (n + 1) → (linesA tk (List.replicate k tkO) x).1 = 7)
  | 0, x => ⟨fun _ => ⟨x.met, by show ((0 : Int), x) = _; simp⟩, fun h1 h2 => by omega⟩
  | k + 1, x => by
    have hl : lineA tk tkO x = tk (oR 0) x := by unfold lineA; rw [tk_o]; rfl
    have hm : (k + 1) * (n + 1) = k * (n + 1) + (n + 1) := Nat.succ_mul _ _
    rw [List.replicate_succ]
    constructor
    · intro h
      obtain ⟨M, hM⟩ := (ht x).1 (by omega)
      rw [lines_go (by rw [hl]; exact hM)]
      obtain ⟨M', hM'⟩ := (o_lines ht k ⟨x.out, M, x.takes + 1 + n⟩).1 (by show x.takes + 1 + n + k * (n + 1) ≤ 256; omega)
      exact ⟨M', by rw [hM', hm]; show ((0 : Int), (⟨x.out, M', x.takes + 1 + n + k * (n + 1)⟩ : ExA)) = _; rw [show x.takes + 1 + n + k * (n + 1) = x.takes + (k * (n + 1) + (n + 1)) by omega]⟩
    · intro h1 h2
      by_cases q : 256 < x.takes + 1 + n
      · exact lines_fail (by rw [hl]; exact (ht x).2 h1 q)
      · obtain ⟨M, hM⟩ := (ht x).1 (by omega)
        rw [lines_go (by rw [hl]; exact hM)]
        exact (o_lines ht k ⟨x.out, M, x.takes + 1 + n⟩).2 (by show x.takes + 1 + n ≤ 256; omega) (by show 256 < x.takes + 1 + n + k * (n + 1); omega)
theorem tk_one (n : Nat) (B : StrA) : expandA (tkL (repN tkE n) B) [[97]] (oR 0) = if n < 256 then ([], if n = 0 then [] else [eR 1], 0) else ([], [], 7) := by
  have h := o_take (B := B) (n := n) (f := 8) (chain := []) rfl rfl (by decide) {}
  have h0 : ({} : ExA).takes = 0 := rfl
  by_cases q : n < 256
  · rw [if_pos q]
    have e := h.1 (by omega)
    rw [exp_ok e]
    rfl
  · rw [if_neg q]
    exact exp_fail (h.2 (by omega) (by omega))
theorem tk_two (n k : Nat) : ∃ M, expandA (tkL (repN tkE n) (repN tkO k)) [[97]] (wR 0) = if 1 + k * (n + 1) ≤ 256 then ([], M, 0) else ([], [], 7) := by
  have ha := tk_admit (t := 0) (chain := []) rfl (tk_fw (repN tkE n) (repN tkO k)) rfl (by decide)
  have ht : takeA (tkL (repN tkE n) (repN tkO k)) [[97]] 10 (wR 0) [] {} = linesA (fun r' x' => takeA (tkL (repN tkE n) (repN tkO k)) [[97]] 9 r' [wR 1] x') (List.replicate k tkO) ⟨[], [], 1⟩ := by
    rw [takeA]
    rw [show (({} : ExA).takes) = 0 from rfl, ha]
    rw [if_neg (by decide : ¬ 256 ≤ 0)]
    simp only [ne_eq, not_true_eq_false, if_false]
    rw [rep_all tk_go]
    rfl
  have hO := o_lines (tk := fun r' x' => takeA (tkL (repN tkE n) (repN tkO k)) [[97]] 9 r' [wR 1] x') (n := n) (fun x => by
    have h := o_take (B := repN tkO k) (n := n) (f := 7) (chain := [wR 1]) rfl rfl (by decide) x
    exact ⟨fun q => ⟨_, h.1 q⟩, h.2⟩) k ⟨[], [], 1⟩
  by_cases q : 1 + k * (n + 1) ≤ 256
  · obtain ⟨M, hM⟩ := hO.1 q
    refine ⟨M, ?_⟩
    rw [if_pos q]
    exact exp_ok (ht.trans hM)
  · refine ⟨[], ?_⟩
    rw [if_neg q]
    refine exp_fail ?_
    rw [ht]
    exact hO.2 (by decide) (by show 256 < 1 + k * (n + 1); omega)
end Go.Proofs.YtkjicdldlnefeabDoor
