/- Tags and HTML as a whole: where they begin and end, and that what stands behind does not matter; code between runs; comments; links, over plain lists of bytes. -/
import Derived.Test.YtegjpfhpkkffiaaDoorPlainFront2
set_option linter.unusedVariables false
namespace Go.Proofs.YtegjpfhpkkffiaaDoor

/-! ### A tag ends with its sign -/

theorem val2_suf {l r : List UInt8} (h : val2 l = some r) : ∃ p, l = p ++ r := by
  cases l with
  | nil => cases h
  | cons q u =>
    simp only [val2] at h
    split at h
    · obtain ⟨g, e, _⟩ := dw_cut (· != q) u
      split at h
      · cases h
      · rename_i c v hv
        cases h
        rw [hv] at e
        exact ⟨q :: (g ++ [c]), by rw [e]; simp⟩
    · split at h
      · obtain ⟨g, e, _⟩ := dw_cut unqC u
        cases h
        exact ⟨q :: g, by rw [List.cons_append, ← e]⟩
      · cases h

theorem valL_suf {l r : List UInt8} (h : valL l = some r) : ∃ p, l = p ++ r := by
  obtain ⟨g, e, _⟩ := gap_cut 0 l
  unfold valL at h
  split at h
  · cases h; exact ⟨[], rfl⟩
  · rename_i b t hb
    split at h
    · obtain ⟨g2, e2, _⟩ := gap_cut 0 t
      obtain ⟨p, ep⟩ := val2_suf h
      rw [hb] at e
      exact ⟨g ++ b :: (g2 ++ p), by rw [e, e2, ep]; simp⟩
    · cases h; exact ⟨[], rfl⟩

theorem endL_last {l r : List UInt8} (h : endL l = some r) : ∃ p, l = p ++ 62 :: r := by
  cases l with
  | nil => cases h
  | cons b t =>
    simp only [endL] at h
    split at h
    · rename_i hb; cases h; exact ⟨[], by rw [hb]; rfl⟩
    · split at h
      · cases t with
        | nil => cases h
        | cons c u =>
          simp only at h
          split at h
          · rename_i hc; cases h; exact ⟨[b], by rw [hc]; rfl⟩
          · cases h
      · cases h

theorem fin_last : ∀ (n : Nat) (l r : List UInt8), l.length ≤ n → finL l = some r → ∃ p, l = p ++ 62 :: r
  | n, l, r, hn, h => by
    obtain ⟨g, e, _⟩ := gap_cut 0 l
    cases hg : gapL 0 l with
    | nil => rw [fin_none hg] at h; cases h
    | cons b t =>
      rw [fin_cons hg] at h
      rw [hg] at e
      split at h
      · rename_i hc
        cases hv : valL (t.dropWhile attrC) with
        | none => rw [hv] at h; cases h
        | some r' =>
          rw [hv] at h
          replace h : finL r' = some r := h
          have h1 := valL_le hv
          have h2 := dropWhile_le attrC t
          have h3 := hc.1
          simp only [List.length_cons] at h3
          obtain ⟨p, ep⟩ : ∃ p, r' = p ++ 62 :: r := by
            match n with
            | 0 => omega
            | m + 1 => exact fin_last m r' r (by omega) h
          obtain ⟨g2, e2, _⟩ := dw_cut attrC t
          obtain ⟨p2, ep2⟩ := valL_suf hv
          exact ⟨g ++ b :: (g2 ++ (p2 ++ p)), by rw [e, e2, ep2, ep]; simp⟩
      · obtain ⟨p, ep⟩ := endL_last h
        exact ⟨g ++ p, by rw [e, ep]; simp⟩

theorem name_suf {l r : List UInt8} (h : nameL l = some r) : ∃ p, l = p ++ r := by
  cases l with
  | nil => cases h
  | cons c t =>
    simp only [nameL] at h
    split at h
    · obtain ⟨g, e, _⟩ := dw_cut nameC t
      cases h
      exact ⟨c :: g, by rw [List.cons_append, ← e]⟩
    · cases h

theorem tag_last {s r : List UInt8} (h : tagL s = some r) : ∃ p, s = 60 :: (p ++ 62 :: r) := by
  match s with
  | [] => cases h
  | [_] => cases h
  | a :: b :: t =>
    simp only [tagL] at h
    split at h
    · rename_i ha
      subst ha
      split at h
      · cases hn : nameL t with
        | none => rw [hn] at h; cases h
        | some q =>
          rw [hn] at h
          replace h : closeL (gapL 0 q) = some r := h
          obtain ⟨p, ep⟩ := name_suf hn
          obtain ⟨g, e, _⟩ := gap_cut 0 q
          cases hq : gapL 0 q with
          | nil => rw [hq] at h; cases h
          | cons x y =>
            rw [hq] at h e
            simp only [closeL] at h
            split at h
            · rename_i hx
              cases h
              exact ⟨b :: (p ++ g), by rw [ep, e, hx]; simp⟩
            · cases h
      · cases hn : nameL (b :: t) with
        | none => rw [hn] at h; cases h
        | some q =>
          rw [hn] at h
          replace h : finL q = some r := h
          obtain ⟨p, ep⟩ := name_suf hn
          obtain ⟨p2, ep2⟩ := fin_last _ q r (Nat.le_refl _) h
          exact ⟨p ++ p2, by rw [ep, ep2]; simp⟩
    · cases h

/-! ### As a whole -/

theorem tagN_le (s : List UInt8) : tagN s ≤ s.length := by
  unfold tagN; split <;> omega

theorem tagN_front {s : List UInt8} (h : 0 < tagN s) : s.head? = some 60 ∧ (s.take (tagN s)).getLast? = some 62 ∧ ∀ y, tagN (s.take (tagN s) ++ y) = tagN s := by
  cases ht : tagL s with
  | none => simp [tagN, ht] at h
  | some r =>
    obtain ⟨p, e, hp⟩ := tag_front ht
    obtain ⟨p2, e2⟩ := tag_last ht
    have hn : tagN s = p.length := by
      simp only [tagN, ht]
      rw [e]; simp
    have hpe : p = 60 :: (p2 ++ [62]) := by
      have : p ++ r = (60 :: (p2 ++ [62])) ++ r := by rw [← e, e2]; simp
      exact List.append_cancel_right this
    have htk : s.take p.length = p := by rw [e]; simp
    rw [hn, htk]
    refine ⟨by rw [e, hpe]; rfl, by rw [hpe, List.getLast?_cons, List.getLast?_append]; rfl, fun y => ?_⟩
    simp only [tagN, hp]
    simp

theorem rawN_front {s : List UInt8} (h : 0 < rawN s) : rawN s ≤ s.length ∧ s.head? = some 60 ∧ (s.take (rawN s)).getLast? = some 62 ∧ ∀ y, rawN (s.take (rawN s) ++ y) = rawN s := by
  by_cases ht : 0 < tagN s
  · have e : rawN s = tagN s := by unfold rawN; rw [if_pos ht]
    obtain ⟨h1, h2, h3⟩ := tagN_front ht
    rw [e]
    refine ⟨tagN_le s, h1, h2, fun y => ?_⟩
    unfold rawN
    rw [h3 y, if_pos ht]
  · have e : rawN s = (raw2 s).getD 0 := by unfold rawN; rw [if_neg ht]
    rw [e] at h ⊢
    cases hr : raw2 s with
    | none => rw [hr] at h; simp at h
    | some n =>
      obtain ⟨h1, h2, h3, h4, h5, h6⟩ := raw2_front hr
      refine ⟨h1, h3, h4, fun y => ?_⟩
      show rawN (s.take n ++ y) = n
      unfold rawN
      have : tagN (s.take n ++ y) = 0 := by simp only [tagN, h6 y]
      rw [this, if_neg (by omega), h5 y]
      rfl

theorem rawN_le (s : List UInt8) : rawN s ≤ s.length := by
  by_cases h : 0 < rawN s
  · exact (rawN_front h).1
  · omega

theorem rawN_tag {s : List UInt8} (h : 0 < tagN s) : rawN s = tagN s := by unfold rawN; rw [if_pos h]

/-! ### Code between two runs -/

theorem scan_reps (k : Nat) : ∀ (j r : Nat), r + j = k → scanC k r (List.replicate j 96) = some j
  | 0, r, h => by simp [scanC]; omega
  | j + 1, r, h => by
    rw [List.replicate_succ]
    simp only [scanC, if_true]
    rw [scan_reps k j (r + 1) (by omega)]
    rfl

theorem scan_text (k : Nat) (hk : 0 < k) : ∀ t : List UInt8, (∀ c ∈ t, c ≠ 96) → scanC k 0 (t ++ List.replicate k 96) = some (t.length + k)
  | [], _ => by rw [List.nil_append, scan_reps k k 0 (by omega)]; simp
  | b :: t, h => by
    have hb := h b (List.mem_cons_self)
    rw [List.cons_append]
    simp only [scanC, if_neg hb]
    rw [if_neg (by omega), scan_text k hk t (fun c hc => h c (List.mem_cons_of_mem _ hc))]
    simp only [Option.map_some, List.length_cons]
    congr 1; omega

theorem code_between (k : Nat) (hk : 0 < k) (t : List UInt8) (ht : ∀ c ∈ t, c ≠ 96) (h0 : t ≠ []) : codeL (List.replicate k 96 ++ (t ++ List.replicate k 96)) = some (innerL t, t.length + 2 * k) := by
  have hh : (t ++ List.replicate k 96).head? ≠ some 96 := by
    cases t with
    | nil => exact absurd rfl h0
    | cons b u =>
      rw [List.cons_append]
      simp only [List.head?_cons, ne_eq, Option.some.injEq]
      exact ht b (List.mem_cons_self)
  rw [code_of hk hh (scan_text k hk t ht)]
  have : (t ++ List.replicate k 96).take (t.length + k - k) = t := by rw [Nat.add_sub_cancel]; simp
  rw [this]
  simp only [Option.some.injEq, Prod.mk.injEq, true_and]
  omega

theorem inner_plain (l : List UInt8) (h : ∀ c ∈ l, c ≠ 10) : innerL l = if 1 < l.length ∧ l.all (· == 32) = false ∧ l.head? = some 32 ∧ l.getLast? = some 32 then (l.drop 1).dropLast else l := by
  have e : (l.map fun b => if b = 10 then 32 else b) = l := by
    have : (l.map fun b => if b = 10 then (32 : UInt8) else b) = l.map id := List.map_congr_left fun c hc => by rw [if_neg (h c hc)]; rfl
    rw [this, List.map_id]
  unfold innerL
  simp only [e]

theorem inner_blanks (l : List UInt8) (h : ∀ c ∈ l, c ≠ 10) : innerL (32 :: (l ++ [32])) = if l.all (· == 32) = true then 32 :: (l ++ [32]) else l := by
  rw [inner_plain _ (by
    intro c hc
    rcases List.mem_cons.1 hc with rfl | hc
    · decide
    · rcases List.mem_append.1 hc with hc | hc
      · exact h c hc
      · simp only [List.mem_cons, List.not_mem_nil, or_false] at hc
        rw [hc]; decide)]
  have ha : (32 :: (l ++ [32])).all (· == 32) = l.all (· == 32) := by simp
  rw [ha]
  by_cases hl : l.all (· == 32) = true
  · rw [if_pos hl, if_neg]
    rintro ⟨_, h2, _⟩
    rw [hl] at h2; cases h2
  · rw [if_neg hl, if_pos]
    · simp
    · refine ⟨by simp, by simpa using hl, rfl, ?_⟩
      rw [List.getLast?_cons, List.getLast?_append]; rfl

end Go.Proofs.YtegjpfhpkkffiaaDoor
