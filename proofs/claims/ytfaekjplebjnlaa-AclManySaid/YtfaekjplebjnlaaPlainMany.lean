/- Plain mathematics: so many grants. -/
import Derived.Test.YtfaekjplebjnlaaPlainAcl2
set_option linter.unusedVariables false
namespace Go.Proofs.Ytfaekjplebjnlaa

def whoN (i : Nat) : StrA := [98, 47, 117, (97 + i / 10).toUInt8, (48 + i % 10).toUInt8]
def grN (i : Nat) : GrA := ⟨[97], whoN i, 1 + ((i % 3 : Nat) : Int)⟩
def msN (j : Nat) : List GrA := (List.range j).map grN
theorem fits_N : ∀ i : Fin 80, fitsA (grN i.val) 1 = true ∧ fitsA (grN i.val) 0 = true ∧ fitsA ⟨[97], whoN i.val, 2⟩ 0 = true ∧ fitsA ⟨[97], whoN i.val, 0⟩ 0 = true := by decide +kernel
theorem next_N : ∀ i : Fin 79, ordL (grN i.val) (grN (i.val + 1)) < 0 := by decide +kernel
theorem home_N : ∀ i : Fin 80, whoA (whoN i.val) = some ([98], [117, (97 + i.val / 10).toUInt8, (48 + i.val % 10).toUInt8]) := by decide +kernel
theorem ms_len (j : Nat) : (msN j).length = j := by simp [msN]
theorem ms_at {j i : Nat} (h : i < j) : (msN j)[i]? = some (grN i) := by simp [msN, h]
theorem ms_asc {j : Nat} (h : j ≤ 80) : Asc (msN j) := by
  refine asc_of _ (fun i hi h0 => ?_)
  rw [ms_len] at hi
  rw [List.getD_eq_getElem?_getD, ms_at (by omega : i - 1 < j), List.getD_eq_getElem?_getD, ms_at hi]
  have := next_N ⟨i - 1, by omega⟩
  simp only [show i - 1 + 1 = i by omega] at this
  exact this
theorem ms_mem {j : Nat} {x : GrA} (h : x ∈ msN j) : ∃ i, i < j ∧ x = grN i := by
  obtain ⟨i, hi, rfl⟩ := List.mem_map.1 h
  exact ⟨i, List.mem_range.1 hi, rfl⟩
theorem ms_right {j : Nat} (h : j ≤ 64) : rightA (msN j) = true := by
  refine right_of (by rw [ms_len]; exact h) (fun g hg => ?_) (ms_asc (by omega))
  obtain ⟨i, hi, rfl⟩ := ms_mem hg
  exact (fits_N ⟨i, by omega⟩).1
theorem ms_less {i k : Nat} (h : i < k) (hk : k < 80) : ordL (grN i) (grN k) < 0 := by
  have := List.pairwise_iff_getElem.1 (ms_asc (Nat.le_refl 80)) i k (by rw [ms_len]; omega) (by rw [ms_len]; omega) h
  have e1 := (List.getElem?_eq_some_iff.1 (ms_at (j := 80) (i := i) (by omega))).2
  have e2 := (List.getElem?_eq_some_iff.1 (ms_at (j := 80) (i := k) hk)).2
  rw [e1, e2] at this
  exact this
theorem pos_end {l : List GrA} {g : GrA} (h : ∀ x ∈ l, ordL x g < 0) : posL l g = l.length ∧ hasL l g = false := by
  have h1 : posL l g = l.length := by
    have hle := pos_le l g
    rcases Nat.lt_or_ge (posL l g) l.length with q | q
    · obtain ⟨x, hx⟩ : ∃ x, l[posL l g]? = some x := ⟨_, List.getElem?_eq_getElem q⟩
      exact absurd (h x (List.mem_of_getElem? hx)) (pos_at hx)
    · omega
  refine ⟨h1, ?_⟩
  unfold hasL
  rw [h1, List.getElem?_eq_none (Nat.le_refl _)]
theorem set_end {l : List GrA} {g : GrA} (h : ∀ x ∈ l, ordL x g < 0) (hr : g.right ≠ 0) : setL l g = l ++ [g] := by
  obtain ⟨h1, h2⟩ := pos_end h
  unfold setL gainA
  rw [h1, h2, if_pos hr]
  simp
theorem right_N (i : Nat) : (grN i).right ≠ 0 := by
  show (1 : Int) + ((i % 3 : Nat) : Int) ≠ 0
  omega
theorem many_next {j : Nat} (h : j < 64) : errA (msN j) (grN j) = 0 ∧ setL (msN j) (grN j) = msN (j + 1) := by
  have hl : ∀ x ∈ msN j, ordL x (grN j) < 0 := fun x hx => by
    obtain ⟨i, hi, rfl⟩ := ms_mem hx
    exact ms_less hi (by omega)
  constructor
  · unfold errA
    rw [if_neg (by rw [ms_right (by omega), (fits_N ⟨j, by omega⟩).2.1]; simp), if_neg (by rw [ms_len]; omega)]
  · rw [set_end hl (right_N j)]
    unfold msN
    rw [List.range_succ, List.map_append]
    rfl
theorem many_full {i : Nat} (h : 64 ≤ i) (h8 : i < 80) : errA (msN 64) (grN i) = 11 := by
  have hl : ∀ x ∈ msN 64, ordL x (grN i) < 0 := fun x hx => by
    obtain ⟨k, hk, rfl⟩ := ms_mem hx
    exact ms_less (by omega) h8
  unfold errA
  rw [if_neg (by rw [ms_right (Nat.le_refl _), (fits_N ⟨i, h8⟩).2.1]; simp), if_pos ⟨right_N i, (pos_end hl).2, ms_len 64⟩]

def g2N (T : Nat) : GrA := ⟨[97], whoN T, 2⟩
def g0N (T : Nat) : GrA := ⟨[97], whoN T, 0⟩
def gCN : GrA := ⟨[99], [100, 47, 110, 101, 119], 3⟩
def xN (j T : Nat) : List GrA := setL (msN j) (g2N T)
def yN (j T : Nat) : List GrA := setL (xN j T) (g0N T)
def zN (j T : Nat) : List GrA := setL (yN j T) gCN
theorem tail_N {j T : Nat} (hT : T < j) (hj : j ≤ 64) :
    (errA (msN j) (g2N T) = 0 ∧ fitsA (g2N T) 0 = true ∧ (xN j T).length = j ∧ rightA (xN j T) = true) ∧
    (errA (xN j T) (g0N T) = 0 ∧ fitsA (g0N T) 0 = true ∧ (yN j T).length + 1 = j ∧ rightA (yN j T) = true) ∧
    (errA (yN j T) gCN = 0 ∧ fitsA gCN 0 = true ∧ (zN j T).length = j ∧ rightA (zN j T) = true) ∧
    mayA (zN j T) [99] [100, 47, 110, 101, 119] = 3 ∧ mayA (zN j T) [97] (whoN T) = 0 := by
  have f2 : fitsA (g2N T) 0 = true := (fits_N ⟨T, by omega⟩).2.2.1
  have f0 : fitsA (g0N T) 0 = true := (fits_N ⟨T, by omega⟩).2.2.2
  have fC : fitsA gCN 0 = true := by decide +kernel
  have am := ms_asc (j := j) (by omega)
  have rm := ms_right hj
  have k1 : hasL (msN j) (g2N T) = true := (granted_is am (ms_at hT) (ord_same rfl rfl)).2.2
  have e1 : errA (msN j) (g2N T) = 0 := by
    unfold errA
    rw [if_neg (by rw [rm, f2]; simp), if_neg (by rw [k1]; simp)]
  have r1 : rightA (xN j T) = true := set_right rm f2 e1
  have l1 : (xN j T).length = j := by
    have h := set_len (l := msN j) (g2N T)
    rw [k1, if_pos rfl, if_pos (show (g2N T).right ≠ 0 from (show (2 : Int) ≠ 0 by decide)), ms_len] at h
    show (setL (msN j) (g2N T)).length = j
    omega
  have ax : Asc (xN j T) := set_asc am _
  have k2 : hasL (xN j T) (g0N T) = true := has_set am (g2N T) (g0N T) (ord_same rfl rfl) (show (2 : Int) ≠ 0 by decide)
  have e2 : errA (xN j T) (g0N T) = 0 := by
    unfold errA
    rw [if_neg (by rw [r1, f0]; simp), if_neg (by rw [k2]; simp)]
  have r2 : rightA (yN j T) = true := set_right r1 f0 e2
  have l2 : (yN j T).length + 1 = j := by
    have h := set_len (l := xN j T) (g0N T)
    rw [k2, if_pos rfl, if_neg (show ¬ (g0N T).right ≠ 0 from (show ¬ (0 : Int) ≠ 0 by decide)), l1] at h
    exact h
  have ay : Asc (yN j T) := set_asc ax _
  have ten : ∀ x ∈ yN j T, x.tenant = [97] := fun x hx => by
    rcases (set_mem ax (g0N T) x).1 hx with ⟨q, _⟩ | ⟨rfl, _⟩
    · rcases (set_mem am (g2N T) x).1 q with ⟨q, _⟩ | ⟨rfl, _⟩
      · obtain ⟨i, _, rfl⟩ := ms_mem q
        rfl
      · rfl
    · rfl
  have lc : ∀ x ∈ yN j T, ordL x gCN < 0 := fun x hx => by
    unfold ordL
    rw [ten x hx]
    show (if cmpL [97] [99] ≠ 0 then cmpL [97] [99] else _) < 0
    rw [if_pos (by decide)]
    decide
  have e3 : errA (yN j T) gCN = 0 := by
    unfold errA
    rw [if_neg (by rw [r2, fC]; simp), if_neg (by intro h; have := h.2.2; omega)]
  have r3 : rightA (zN j T) = true := set_right r2 fC e3
  have l3 : (zN j T).length = j := by
    show (setL (yN j T) gCN).length = j
    rw [set_end lc (by decide), List.length_append]
    exact l2
  refine ⟨⟨e1, f2, l1, r1⟩, ⟨e2, f0, l2, r2⟩, ⟨e3, fC, l3, r3⟩, ?_, ?_⟩
  · unfold mayA
    rw [if_neg (by rw [r3]; simp), show whoA [100, 47, 110, 101, 119] = some ([100], [110, 101, 119]) by decide +kernel]
    simp only
    rw [if_neg (by decide +kernel), if_pos (by decide)]
    show grantedL (setL (yN j T) gCN) _ = 3
    rw [set_granted ay, if_pos (by decide +kernel)]
    rfl
  · unfold mayA
    rw [if_neg (by rw [r3]; simp), home_N ⟨T, by omega⟩]
    simp only
    rw [if_neg (by decide +kernel), if_pos (by decide)]
    show grantedL (setL (yN j T) gCN) _ = 0
    rw [set_granted ay, if_neg]
    · show grantedL (setL (xN j T) (g0N T)) _ = 0
      rw [set_granted ax]
      have h0 : ordL (g0N T) { tenant := [97], who := whoN T } = 0 := ord_same rfl rfl
      rw [if_pos h0]
      rfl
    · unfold ordL
      show ¬ (if cmpL [99] [97] ≠ 0 then cmpL [99] [97] else _) = 0
      rw [if_pos (by decide)]
      decide
end Go.Proofs.Ytfaekjplebjnlaa
