/- Plain mathematics: texts of one line, many times. -/
import Derived.Test.YtkjicdldlnefeabDoorPlainInc
import Derived.Test.YtkjicdldlnefeabDoorPlainJoin
set_option linter.unusedVariables false
namespace Go.Proofs.YtkjicdldlnefeabDoor

theorem clean_ascii : ∀ (l : List UInt8), (∀ c ∈ l, 0 < c.toNat ∧ c.toNat < 128) → clean l = l
  | [], _ => rfl
  | c :: t, h => by
    have hc := h c List.mem_cons_self
    have hd : dc (c :: t) = (c.toNat, 1) := by
      rw [dc_def]
      simp only [List.getD_cons_zero]
      rw [if_pos hc.2]
    rw [clean_step (c :: t) (by simp), hd]
    have he : enc (cleanR c.toNat) = [c] := by
      rw [cleanR_of _ (by omega)]
      simp [enc, Lib.encodeRune, Lib.encodeRuneZ_one (r := (c.toNat : Int)) (by omega) (by omega)]
    simp only [he, List.drop_succ_cons, List.drop_zero]
    rw [clean_ascii t (fun d hd => h d (List.mem_cons_of_mem _ hd))]
    rfl
def repN (u : StrA) : Nat → StrA
  | 0 => []
  | n + 1 => u ++ [10] ++ repN u n
theorem rep_snoc (u : StrA) : ∀ n, repN u (n + 1) = repN u n ++ (u ++ [10])
  | 0 => by simp [repN]
  | n + 1 => by
    show u ++ [10] ++ repN u (n + 1) = u ++ [10] ++ repN u n ++ (u ++ [10])
    rw [rep_snoc u n]
    simp
theorem rep_len (u : StrA) : ∀ n, (repN u n).length = n * (u.length + 1)
  | 0 => by simp [repN]
  | n + 1 => by
    show (u ++ [10] ++ repN u n).length = _
    rw [List.length_append, rep_len u n, List.length_append, Nat.succ_mul]
    simp
    omega
theorem rep_ascii {u : StrA} (h : ∀ c ∈ u, 0 < c.toNat ∧ c.toNat < 128) : ∀ n, ∀ c ∈ repN u n, 0 < c.toNat ∧ c.toNat < 128
  | 0, c, hc => by cases hc
  | n + 1, c, hc => by
    have hc2 : c ∈ u ++ [10] ++ repN u n := hc
    rw [List.mem_append, List.mem_append] at hc2
    rcases hc2 with (q | q) | q
    · exact h c q
    · rw [List.mem_singleton.1 q]; decide
    · exact rep_ascii h n c q
theorem rep_lines {u : StrA} (h : ∀ c ∈ u, notEnd c = true) : ∀ n, lines (repN u n) = List.replicate n u
  | 0 => rfl
  | n + 1 => by
    show lines (u ++ [10] ++ repN u n) = _
    rw [lines_part u [10] _ h (.inl rfl), rep_lines h n]
    rfl
def goodB (c : UInt8) : Bool := decide (0 < c.toNat) && decide (c.toNat < 128) && notEnd c
theorem rep_all {u : StrA} (h : u.all goodB = true) (n : Nat) : lines (clean (repN u n)) = List.replicate n u := by
  rw [List.all_eq_true] at h
  have h' : ∀ c ∈ u, (0 < c.toNat ∧ c.toNat < 128) ∧ notEnd c = true := fun c hc => by simpa [goodB] using h c hc
  rw [clean_ascii _ (rep_ascii (fun c hc => (h' c hc).1) n), rep_lines (fun c hc => (h' c hc).2)]
/-- Lines that include nothing. -/
theorem lines_rep {take : RfA → ExA → Int × ExA} {u : StrA} (hu : (scanA u).2 = false) : ∀ (n : Nat) (x : ExA), (x.out.length + n * (u.length + 1) ≤ 16384 → linesA take (List.replicate n u) x = (0, ⟨x.out ++ repN u n, x.met, x.takes⟩)) ∧ (x.out.length ≤ 16384 → 16384 < x.out.length + n * (u.length + 1) → (linesA take (List.replicate n u) x).1 = 7)
  | 0, x => ⟨fun _ => by show ((0 : Int), x) = _; simp [repN], fun h1 h2 => by omega⟩
  | n + 1, x => by
    have hm : (n + 1) * (u.length + 1) = n * (u.length + 1) + (u.length + 1) := Nat.succ_mul _ _
    constructor
    · intro h
      rw [List.replicate_succ]
      unfold linesA lineA
      rw [hu]
      simp only [Bool.false_eq_true, if_false]
      have q : ¬ 16384 < x.out.length + u.length + 1 := by omega
      rw [if_neg q]
      simp only [if_true]
      rw [(lines_rep hu n _).1 (by simp only [List.length_append, List.length_singleton]; omega)]
      show (_ : Int × ExA) = (0, ⟨x.out ++ (u ++ [10] ++ repN u n), _, _⟩)
      simp
    · intro h1 h2
      rw [List.replicate_succ]
      unfold linesA lineA
      rw [hu]
      simp only [Bool.false_eq_true, if_false]
      by_cases q : 16384 < x.out.length + u.length + 1
      · rw [if_pos q]
        simp
      · rw [if_neg q]
        simp only [if_true]
        exact (lines_rep hu n _).2 (by simp only [List.length_append, List.length_singleton]; omega) (by simp only [List.length_append, List.length_singleton]; omega)

/-- IncludeSizes: its pages. -/
def szU : StrA := [97, 98, 99, 100, 101, 102, 103, 104, 105, 106, 107, 108, 109, 110, 111]
def szT : StrA := [123, 123, 105, 110, 99, 108, 117, 100, 101, 32, 97, 47, 120, 125, 125, 10, 123, 123, 105, 110, 99, 108, 117, 100, 101, 32, 97, 47, 120, 125, 125]
def szI : StrA := [123, 123, 105, 110, 99, 108, 117, 100, 101, 32, 97, 47, 120, 125, 125]
def szL (t : StrA) : List PgA := [⟨⟨[97], [120], 1⟩, t⟩, ⟨⟨[97], [116, 119, 111], 1⟩, szT⟩]
theorem sz_u : (scanA szU).2 = false := by kernel_rfl
theorem sz_i : scanA szI = (⟨[97], [120], 0⟩, true) := by kernel_rfl
theorem sz_t : lines (clean szT) = [szI, szI] := by kernel_rfl
theorem sz_g : szU.all goodB = true := by decide
theorem sz_find (t : StrA) : findA (szL t) ⟨[97], [120], 0⟩ = (⟨⟨[97], [120], 1⟩, t⟩, true) := rfl
theorem sz_find2 (t : StrA) : findA (szL t) ⟨[97], [116, 119, 111], 0⟩ = (⟨⟨[97], [116, 119, 111], 1⟩, szT⟩, true) := rfl
theorem sz_admit (t : StrA) : admitA (szL t) [[97]] ⟨[97], [120], 0⟩ [] 0 = (⟨⟨[97], [120], 1⟩, t⟩, 0) := rfl
theorem sz_admit1 (t : StrA) (k : Nat) (hk : k < 256) : admitA (szL t) [[97]] ⟨[97], [120], 0⟩ [⟨[97], [116, 119, 111], 1⟩] k = (⟨⟨[97], [120], 1⟩, t⟩, 0) := by
  unfold admitA
  rw [sz_find]
  simp only [Bool.true_eq_false, if_false]
  rw [if_neg (by decide), if_neg (by decide), if_neg (by decide), if_neg (by omega)]
theorem sz_admit2 (t : StrA) : admitA (szL t) [[97]] ⟨[97], [116, 119, 111], 0⟩ [] 0 = (⟨⟨[97], [116, 119, 111], 1⟩, szT⟩, 0) := rfl
theorem sz_take (n f : Nat) (chain : List RfA) (x : ExA) (ha : admitA (szL (repN szU n)) [[97]] ⟨[97], [120], 0⟩ chain x.takes = (⟨⟨[97], [120], 1⟩, repN szU n⟩, 0)) : (x.out.length + n * 16 ≤ 16384 → takeA (szL (repN szU n)) [[97]] (f + 1) ⟨[97], [120], 0⟩ chain x = (0, ⟨x.out ++ repN szU n, (metA chain ⟨[97], [120], 1⟩ x).met, x.takes + 1⟩)) ∧ (x.out.length ≤ 16384 → 16384 < x.out.length + n * 16 → (takeA (szL (repN szU n)) [[97]] (f + 1) ⟨[97], [120], 0⟩ chain x).1 = 7) := by
  unfold takeA
  rw [ha]
  simp only [ne_eq, not_true_eq_false, if_false]
  rw [rep_all sz_g]
  exact lines_rep sz_u n (metA chain ⟨[97], [120], 1⟩ x)
theorem sz_one (n : Nat) : expandA (szL (repN szU n)) [[97]] ⟨[97], [120], 0⟩ = if n ≤ 1024 then (repN szU n, [], 0) else ([], [], 7) := by
  have h := sz_take n 9 [] {} (sz_admit _)
  have h0 : (({} : ExA).out).length = 0 := rfl
  unfold expandA
  by_cases q : n ≤ 1024
  · rw [if_pos q, h.1 (by omega)]
    rfl
  · rw [if_neg q, h.2 (by omega) (by omega)]
    rfl
theorem lines_fail {tk : RfA → ExA → Int × ExA} {s : StrA} {t : List StrA} {x : ExA} (h : (lineA tk s x).1 = 7) : (linesA tk (s :: t) x).1 = 7 := by
  unfold linesA
  rw [if_neg (by rw [h]; decide)]
  exact h
theorem lines_go {tk : RfA → ExA → Int × ExA} {s : StrA} {t : List StrA} {x y : ExA} (h : lineA tk s x = (0, y)) : linesA tk (s :: t) x = linesA tk t y := by
  rw [linesA, h]
  rfl
theorem exp_fail {pages : List PgA} {may : List StrA} {r : RfA} (h : (takeA pages may 10 r [] {}).1 = 7) : expandA pages may r = ([], [], 7) := by
  unfold expandA
  rw [h]
  rfl
theorem exp_ok {pages : List PgA} {may : List StrA} {r : RfA} {x : ExA} (h : takeA pages may 10 r [] {} = (0, x)) : expandA pages may r = (x.out, x.met, 0) := by
  unfold expandA
  rw [h]
  rfl
theorem sz_two (n : Nat) : expandA (szL (repN szU n)) [[97]] ⟨[97], [116, 119, 111], 0⟩ = if n ≤ 512 then (repN szU n ++ repN szU n, [⟨[97], [120], 1⟩], 0) else ([], [], 7) := by
  have ht : takeA (szL (repN szU n)) [[97]] 10 ⟨[97], [116, 119, 111], 0⟩ [] {} = linesA (fun r' x' => takeA (szL (repN szU n)) [[97]] 9 r' [⟨[97], [116, 119, 111], 1⟩] x') [szI, szI] ⟨[], [], 1⟩ := by
    rw [takeA]
    rw [show (({} : ExA).takes) = 0 from rfl, sz_admit2]
    show linesA _ (lines (clean szT)) _ = _
    rw [sz_t]
    rfl
  have hl : ∀ (tk : RfA → ExA → Int × ExA) (x : ExA), lineA tk szI x = tk ⟨[97], [120], 0⟩ x := fun tk x => by unfold lineA; rw [sz_i]; rfl
  have h1 := sz_take n 8 [⟨[97], [116, 119, 111], 1⟩] ⟨[], [], 1⟩ (sz_admit1 _ 1 (by decide))
  have h10 : ((⟨[], [], 1⟩ : ExA).out).length = 0 := rfl
  by_cases q1 : n ≤ 1024
  · have e1 : takeA (szL (repN szU n)) [[97]] 9 ⟨[97], [120], 0⟩ [⟨[97], [116, 119, 111], 1⟩] ⟨[], [], 1⟩ = (0, ⟨repN szU n, [⟨[97], [120], 1⟩], 2⟩) := h1.1 (by omega)
    have h2 := sz_take n 8 [⟨[97], [116, 119, 111], 1⟩] ⟨repN szU n, [⟨[97], [120], 1⟩], 2⟩ (sz_admit1 _ 2 (by decide))
    have hlen : (repN szU n).length = n * 16 := rep_len szU n
    rw [lines_go (by rw [hl]; exact e1)] at ht
    by_cases q2 : n ≤ 512
    · rw [if_pos q2]
      have e2 : takeA (szL (repN szU n)) [[97]] 9 ⟨[97], [120], 0⟩ [⟨[97], [116, 119, 111], 1⟩] ⟨repN szU n, [⟨[97], [120], 1⟩], 2⟩ = (0, ⟨repN szU n ++ repN szU n, [⟨[97], [120], 1⟩], 3⟩) := h2.1 (by show (repN szU n).length + n * 16 ≤ 16384; omega)
      rw [lines_go (by rw [hl]; exact e2)] at ht
      exact exp_ok ht
    · rw [if_neg q2]
      have e2 := h2.2 (by show (repN szU n).length ≤ 16384; omega) (by show 16384 < (repN szU n).length + n * 16; omega)
      refine exp_fail ?_
      rw [ht]
      exact lines_fail (by rw [hl]; exact e2)
  · have e1 := h1.2 (by omega) (by omega)
    rw [if_neg (by omega : ¬ n ≤ 512)]
    refine exp_fail ?_
    rw [ht]
    exact lines_fail (by rw [hl]; exact e1)
end Go.Proofs.YtkjicdldlnefeabDoor
