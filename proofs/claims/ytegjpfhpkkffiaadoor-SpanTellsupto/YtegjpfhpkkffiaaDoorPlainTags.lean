/- Tags, comments and links that were written down, over plain lists of bytes. -/
import Derived.Test.YtegjpfhpkkffiaaDoorPlainFront3
set_option linter.unusedVariables false
namespace Go.Proofs.YtegjpfhpkkffiaaDoor

/-- A small letter or a digit. -/
def wordC (c : UInt8) : Bool := (decide (97 ≤ c.toNat) && decide (c.toNat ≤ 122)) || (decide (48 ≤ c.toNat) && decide (c.toNat ≤ 57))
def AllW (l : List UInt8) : Prop := ∀ c ∈ l, wordC c = true

theorem word_name {c : UInt8} (h : wordC c = true) : nameC c = true ∧ attrC c = true ∧ schC c = true ∧ mailC c = true ∧ linkC c = true ∧ (letterB c || digitB c || c == 45) = true := by
  have hl : letterB c = true ∨ digitB c = true := by
    simp only [wordC, letterB, digitB, Bool.or_eq_true, Bool.and_eq_true, decide_eq_true_eq] at h ⊢
    omega
  have hk : linkC c = true := by
    simp only [wordC, Bool.or_eq_true, Bool.and_eq_true, decide_eq_true_eq] at h
    have h1 : c ≠ 127 := by rintro rfl; revert h; decide
    have h2 : c ≠ 60 := by rintro rfl; revert h; decide
    have h3 : c ≠ 62 := by rintro rfl; revert h; decide
    simp only [linkC, Bool.and_eq_true, decide_eq_true_eq, bne_iff_ne, ne_eq]
    exact ⟨⟨⟨by omega, h1⟩, h2⟩, h3⟩
  rcases hl with hl | hl <;> simp [nameC, attrC, schC, mailC, hl, hk]

theorem dw_all (p : UInt8 → Bool) (u : List UInt8) (b : UInt8) (y : List UInt8) (h : ∀ c ∈ u, p c = true) (hb : p b = false) : (u ++ b :: y).dropWhile p = b :: y := (tw_all p u b y h hb).2

/-! ### Tags -/

theorem gap_stop {b : UInt8} (h1 : b ≠ 32) (h2 : b ≠ 9) (h3 : b ≠ 10) (n : Nat) (t : List UInt8) : gapL n (b :: t) = b :: t := by
  simp [gapL, h1, h2, h3]
theorem gap_blank (n : Nat) (t : List UInt8) : gapL n (32 :: t) = gapL n t := by simp [gapL]
theorem gap_tab (n : Nat) (t : List UInt8) : gapL n (9 :: t) = gapL n t := by simp [gapL]
theorem gap_feed (t : List UInt8) : gapL 0 (10 :: t) = gapL 1 t := by simp [gapL]

/-- The ends of an opening tag. -/
def IsEnd (e : List UInt8) : Prop := e = [62] ∨ e = [32, 62] ∨ e = [47, 62] ∨ e = [32, 47, 62]

theorem end_fin {e : List UInt8} (h : IsEnd e) (y : List UInt8) : finL (e ++ y) = some y := by
  rcases h with rfl | rfl | rfl | rfl
  · have hg : gapL 0 ([62] ++ y) = 62 :: y := gap_stop (by decide) (by decide) (by decide) 0 y
    rw [fin_cons hg, if_neg (by simp)]
    simp [endL]
  · have hg : gapL 0 ([32, 62] ++ y) = 62 :: y := by
      show gapL 0 (32 :: 62 :: y) = _
      rw [gap_blank]; exact gap_stop (by decide) (by decide) (by decide) 0 y
    rw [fin_cons hg, if_neg (by rintro ⟨_, h⟩; cases h)]
    simp [endL]
  · have hg : gapL 0 ([47, 62] ++ y) = 47 :: 62 :: y := gap_stop (by decide) (by decide) (by decide) 0 _
    rw [fin_cons hg, if_neg (by simp)]
    simp [endL]
  · have hg : gapL 0 ([32, 47, 62] ++ y) = 47 :: 62 :: y := by
      show gapL 0 (32 :: 47 :: 62 :: y) = _
      rw [gap_blank]; exact gap_stop (by decide) (by decide) (by decide) 0 _
    rw [fin_cons hg, if_neg (by rintro ⟨_, h⟩; cases h)]
    simp [endL]

/-- The values of an attribute. -/
def IsVal (v e : List UInt8) : Prop :=
  v = [] ∨ (∃ q, v = 61 :: 39 :: (q ++ [39]) ∧ ∀ c ∈ q, c ≠ 39) ∨ (∃ q, v = 32 :: 61 :: 9 :: 34 :: (q ++ [34]) ∧ ∀ c ∈ q, c ≠ 34) ∨ (v = [61, 118] ∧ e ≠ [47, 62])

theorem val_end {e : List UInt8} (h : IsEnd e) (y : List UInt8) : valL (e ++ y) = some (e ++ y) := by
  unfold valL
  rcases h with rfl | rfl | rfl | rfl
  · rw [show ([62] ++ y) = 62 :: y from rfl, gap_stop (by decide) (by decide) (by decide)]; rfl
  · rw [show ([32, 62] ++ y) = 32 :: 62 :: y from rfl, gap_blank, gap_stop (by decide) (by decide) (by decide)]; rfl
  · rw [show ([47, 62] ++ y) = 47 :: 62 :: y from rfl, gap_stop (by decide) (by decide) (by decide)]; rfl
  · rw [show ([32, 47, 62] ++ y) = 32 :: 47 :: 62 :: y from rfl, gap_blank, gap_stop (by decide) (by decide) (by decide)]; rfl

theorem val_val {v e : List UInt8} (hv : IsVal v e) (h : IsEnd e) (y : List UInt8) : valL (v ++ (e ++ y)) = some (e ++ y) := by
  rcases hv with rfl | ⟨q, rfl, hq⟩ | ⟨q, rfl, hq⟩ | ⟨rfl, he⟩
  · exact val_end h y
  · have e1 : (61 :: 39 :: (q ++ [39])) ++ (e ++ y) = 61 :: 39 :: (q ++ 39 :: (e ++ y)) := by simp
    unfold valL
    rw [e1, gap_stop (by decide) (by decide) (by decide)]
    simp only [if_true]
    rw [gap_stop (by decide) (by decide) (by decide)]
    simp only [val2]
    rw [if_pos (by simp), dw_all _ q 39 (e ++ y) (fun c hc => by simpa using hq c hc) (by decide)]
  · have e1 : (32 :: 61 :: 9 :: 34 :: (q ++ [34])) ++ (e ++ y) = 32 :: 61 :: 9 :: 34 :: (q ++ 34 :: (e ++ y)) := by simp
    unfold valL
    rw [e1, gap_blank, gap_stop (by decide) (by decide) (by decide)]
    simp only [if_true]
    rw [gap_tab, gap_stop (by decide) (by decide) (by decide)]
    simp only [val2]
    rw [if_pos (by simp), dw_all _ q 34 (e ++ y) (fun c hc => by simpa using hq c hc) (by decide)]
  · unfold valL
    rw [show ([61, 118] ++ (e ++ y)) = 61 :: 118 :: (e ++ y) from rfl, gap_stop (by decide) (by decide) (by decide)]
    simp only [if_true]
    rw [gap_stop (by decide) (by decide) (by decide)]
    simp only [val2]
    rw [if_neg (by decide), if_pos (by rfl)]
    rcases h with rfl | rfl | rfl | rfl
    · rw [show ([62] ++ y) = 62 :: y from rfl, List.dropWhile_cons, if_neg (by decide)]
    · rw [show ([32, 62] ++ y) = 32 :: 62 :: y from rfl, List.dropWhile_cons, if_neg (by decide)]
    · exact absurd rfl he
    · rw [show ([32, 47, 62] ++ y) = 32 :: 47 :: 62 :: y from rfl, List.dropWhile_cons, if_neg (by decide)]

/-- The gaps ahead of an attribute. -/
def IsGap (g : List UInt8) : Prop := g = [32] ∨ g = [10] ∨ g = [32, 9, 32]

theorem gap_gap {g : List UInt8} (hg : IsGap g) {b : UInt8} (h1 : b ≠ 32) (h2 : b ≠ 9) (h3 : b ≠ 10) (t : List UInt8) : gapL 0 (g ++ b :: t) = b :: t := by
  rcases hg with rfl | rfl | rfl
  · rw [show ([32] ++ b :: t) = 32 :: b :: t from rfl, gap_blank, gap_stop h1 h2 h3]
  · rw [show ([10] ++ b :: t) = 10 :: b :: t from rfl, gap_feed, gap_stop h1 h2 h3]
  · rw [show ([32, 9, 32] ++ b :: t) = 32 :: 9 :: 32 :: b :: t from rfl, gap_blank, gap_tab, gap_blank, gap_stop h1 h2 h3]

theorem name_of {n : List UInt8} (hn : AllW n) {b : UInt8} (hb : nameC b = false) (t : List UInt8) : nameL (97 :: (n ++ b :: t)) = some (b :: t) := by
  simp only [nameL]
  rw [if_pos (by rfl), dw_all _ n b t (fun c hc => (word_name (hn c hc)).1) hb]

theorem head_of {v e : List UInt8} (hv : IsVal v e) (h : IsEnd e) (y : List UInt8) : ∃ b t, v ++ (e ++ y) = b :: t ∧ attrC b = false := by
  rcases hv with rfl | ⟨q, rfl, hq⟩ | ⟨q, rfl, hq⟩ | ⟨rfl, he⟩
  · rcases h with rfl | rfl | rfl | rfl
    · exact ⟨62, y, rfl, rfl⟩
    · exact ⟨32, 62 :: y, rfl, rfl⟩
    · exact ⟨47, 62 :: y, rfl, rfl⟩
    · exact ⟨32, 47 :: 62 :: y, rfl, rfl⟩
  · exact ⟨61, _, rfl, rfl⟩
  · exact ⟨32, _, rfl, rfl⟩
  · exact ⟨61, _, rfl, rfl⟩

/-- An opening tag with an attribute. -/
theorem tag_open {n g a v e : List UInt8} (hn : AllW n) (hg : IsGap g) (ha : AllW a) (hv : IsVal v e) (he : IsEnd e) (y : List UInt8) : tagL (60 :: 97 :: (n ++ (g ++ (98 :: (a ++ (v ++ (e ++ y))))))) = some y := by
  obtain ⟨b, t, hbt, hb⟩ := head_of hv he y
  have hgh : ∃ gb gt, g ++ (98 :: (a ++ (v ++ (e ++ y)))) = gb :: gt ∧ nameC gb = false := by
    rcases hg with rfl | rfl | rfl
    · exact ⟨32, _, rfl, rfl⟩
    · exact ⟨10, _, rfl, rfl⟩
    · exact ⟨32, _, rfl, rfl⟩
  obtain ⟨gb, gt, hgt, hgb⟩ := hgh
  have hgap : gapL 0 (g ++ (98 :: (a ++ (v ++ (e ++ y))))) = 98 :: (a ++ (v ++ (e ++ y))) := gap_gap hg (by decide) (by decide) (by decide) _
  have hfin : finL (g ++ (98 :: (a ++ (v ++ (e ++ y))))) = some y := by
    rw [fin_cons hgap, if_pos]
    · rw [hbt, dw_all _ a b t (fun c hc => (word_name (ha c hc)).2.1) hb, ← hbt, val_val hv he y]
      exact end_fin he y
    · refine ⟨?_, rfl⟩
      rcases hg with rfl | rfl | rfl <;> simp
  simp only [tagL, if_true]
  rw [if_neg (by decide), hgt, name_of hn hgb gt, ← hgt]
  exact hfin

/-- An opening tag without one. -/
theorem tag_bare {n : List UInt8} (hn : AllW n) (y : List UInt8) : tagL (60 :: 97 :: (n ++ 62 :: y)) = some y := by
  simp only [tagL, if_true]
  rw [if_neg (by decide), name_of hn (by rfl) y]
  exact end_fin (.inl rfl) y

/-- A closing tag. -/
theorem tag_close {n g : List UInt8} (hn : AllW n) (hg : g = [62] ∨ g = [32, 62] ∨ g = [10, 62]) (y : List UInt8) : tagL (60 :: 47 :: 97 :: (n ++ (g ++ y))) = some y := by
  simp only [tagL, if_true]
  rcases hg with rfl | rfl | rfl
  · rw [show n ++ ([62] ++ y) = n ++ 62 :: y from rfl, name_of hn (by rfl) y]
    simp only [gap_stop (b := 62) (by decide) (by decide) (by decide), closeL, if_true]
  · rw [show n ++ ([32, 62] ++ y) = n ++ 32 :: 62 :: y from rfl, name_of hn (by rfl)]
    simp only [gap_blank, gap_stop (b := 62) (by decide) (by decide) (by decide), closeL, if_true]
  · rw [show n ++ ([10, 62] ++ y) = n ++ 10 :: 62 :: y from rfl, name_of hn (by rfl)]
    simp only [gap_feed, gap_stop (b := 62) (by decide) (by decide) (by decide), closeL, if_true]

theorem tag_len {p y : List UInt8} (h : tagL (p ++ y) = some y) (h0 : 0 < p.length) : tagN (p ++ y) = p.length ∧ rawN (p ++ y) = p.length := by
  have h1 : tagN (p ++ y) = p.length := by simp only [tagN, h]; simp
  exact ⟨h1, by rw [rawN_tag (by omega), h1]⟩

/-! ### Comments and the like -/

theorem up_find (c : UInt8) (e' : List UInt8) : ∀ (t y : List UInt8), (∀ b ∈ t, b ≠ c) → upL (c :: e') (t ++ (c :: e' ++ y)) = some (t.length + (c :: e').length)
  | [], y, _ => by
    rw [List.nil_append, List.cons_append]
    simp only [upL]
    rw [if_pos]
    · simp
    · rw [List.isPrefixOf_iff_prefix]
      exact ⟨y, rfl⟩
  | b :: t, y, h => by
    have hb := h b (List.mem_cons_self)
    rw [List.cons_append]
    simp only [upL]
    rw [if_neg, up_find c e' t y (fun x hx => h x (List.mem_cons_of_mem _ hx))]
    · simp only [Option.map_some, List.length_cons]
      congr 1; omega
    · rw [List.isPrefixOf_iff_prefix]
      rintro ⟨z, hz⟩
      rw [List.cons_append] at hz
      exact hb (List.cons.inj hz).1.symm

theorem up_lacks {e : List UInt8} {c : UInt8} (he : c ∈ e) : ∀ t : List UInt8, (∀ b ∈ t, b ≠ c) → upL e t = none
  | [], _ => rfl
  | b :: t, h => by
    simp only [upL]
    rw [if_neg, up_lacks he t (fun x hx => h x (List.mem_cons_of_mem _ hx))]
    · rfl
    · rw [List.isPrefixOf_iff_prefix]
      rintro ⟨z, hz⟩
      exact h c (by rw [← hz]; exact List.mem_append_left _ he) rfl

/-- Without the signs of the ends. -/
def Calm (t : List UInt8) : Prop := ∀ c ∈ t, c ≠ 45 ∧ c ≠ 62 ∧ c ≠ 63 ∧ c ≠ 93

theorem com_whole {t : List UInt8} (ht : Calm t) (y : List UInt8) :
    rawN ([60, 33, 45, 45] ++ (32 :: t) ++ ([45, 45, 62] ++ y)) = t.length + 8 ∧
    rawN ([60, 63] ++ (32 :: t) ++ ([63, 62] ++ y)) = t.length + 5 ∧
    rawN ([60, 33, 65] ++ (32 :: t) ++ ([62] ++ y)) = t.length + 5 ∧
    rawN ([60, 33, 91, 67, 68, 65, 84, 65, 91] ++ (32 :: t) ++ ([93, 93, 62] ++ y)) = t.length + 13 := by
  have u1 := up_find 45 [45, 62] (32 :: t) y (by
    intro b hb
    rcases List.mem_cons.1 hb with rfl | hb
    · decide
    · exact (ht b hb).1)
  have u2 := up_find 63 [62] (32 :: t) y (by
    intro b hb
    rcases List.mem_cons.1 hb with rfl | hb
    · decide
    · exact (ht b hb).2.2.1)
  have u3 := up_find 62 [] (32 :: t) y (by
    intro b hb
    rcases List.mem_cons.1 hb with rfl | hb
    · decide
    · exact (ht b hb).2.1)
  have u4 := up_find 93 [93, 62] (32 :: t) y (by
    intro b hb
    rcases List.mem_cons.1 hb with rfl | hb
    · decide
    · exact (ht b hb).2.2.2)
  simp only [List.cons_append, List.nil_append, List.length_cons, List.length_nil] at u1 u2 u3 u4
  have hl : letterB 65 = true := rfl
  refine ⟨?_, ?_, ?_, ?_⟩
  · have h1 : tagL ([60, 33, 45, 45] ++ (32 :: t) ++ ([45, 45, 62] ++ y)) = none := tag_no 33 _ (by decide) rfl
    unfold rawN
    rw [show tagN ([60, 33, 45, 45] ++ (32 :: t) ++ ([45, 45, 62] ++ y)) = 0 by simp only [tagN, h1], if_neg (by omega)]
    simp [raw2, List.isPrefixOf, u1]
  · have h1 : tagL ([60, 63] ++ (32 :: t) ++ ([63, 62] ++ y)) = none := tag_no 63 _ (by decide) rfl
    unfold rawN
    rw [show tagN ([60, 63] ++ (32 :: t) ++ ([63, 62] ++ y)) = 0 by simp only [tagN, h1], if_neg (by omega)]
    simp [raw2, List.isPrefixOf, u2]
  · have h1 : tagL ([60, 33, 65] ++ (32 :: t) ++ ([62] ++ y)) = none := tag_no 33 _ (by decide) rfl
    unfold rawN
    rw [show tagN ([60, 33, 65] ++ (32 :: t) ++ ([62] ++ y)) = 0 by simp only [tagN, h1], if_neg (by omega)]
    simp [raw2, List.isPrefixOf, declL, hl, u3]
  · have h1 : tagL ([60, 33, 91, 67, 68, 65, 84, 65, 91] ++ (32 :: t) ++ ([93, 93, 62] ++ y)) = none := tag_no 33 _ (by decide) rfl
    unfold rawN
    rw [show tagN ([60, 33, 91, 67, 68, 65, 84, 65, 91] ++ (32 :: t) ++ ([93, 93, 62] ++ y)) = 0 by simp only [tagN, h1], if_neg (by omega)]
    simp [raw2, List.isPrefixOf, u4]

theorem com_cut {t : List UInt8} (ht : Calm t) :
    rawN ([60, 33, 45, 45] ++ (32 :: t) ++ [45, 45]) = 0 ∧
    rawN ([60, 63] ++ (32 :: t) ++ [63]) = 0 ∧
    rawN ([60, 33, 65] ++ (32 :: t)) = 0 ∧
    rawN ([60, 33, 91, 67, 68, 65, 84, 65, 91] ++ (32 :: t) ++ [93, 93]) = 0 := by
  have lack : ∀ e z : List UInt8, (62 : UInt8) ∈ e → (∀ b ∈ z, b ≠ 62) → upL e (32 :: (t ++ z)) = none := fun e z he hz => up_lacks he _ (by
    intro b hb
    rcases List.mem_cons.1 hb with rfl | hb
    · decide
    · rcases List.mem_append.1 hb with hb | hb
      · exact (ht b hb).2.1
      · exact hz b hb)
  have u1 := lack [45, 45, 62] [45, 45] (by simp) (by simp)
  have u2 := lack [63, 62] [63] (by simp) (by simp)
  have u3 := lack [62] [] (by simp) (by simp)
  have u4 := lack [93, 93, 62] [93, 93] (by simp) (by simp)
  rw [List.append_nil] at u3
  have hl : letterB 65 = true := rfl
  refine ⟨?_, ?_, ?_, ?_⟩
  · have h1 : tagL ([60, 33, 45, 45] ++ (32 :: t) ++ [45, 45]) = none := tag_no 33 _ (by decide) rfl
    unfold rawN
    rw [show tagN ([60, 33, 45, 45] ++ (32 :: t) ++ [45, 45]) = 0 by simp only [tagN, h1], if_neg (by omega)]
    simp [raw2, List.isPrefixOf, u1]
  · have h1 : tagL ([60, 63] ++ (32 :: t) ++ [63]) = none := tag_no 63 _ (by decide) rfl
    unfold rawN
    rw [show tagN ([60, 63] ++ (32 :: t) ++ [63]) = 0 by simp only [tagN, h1], if_neg (by omega)]
    simp [raw2, List.isPrefixOf, u2]
  · have h1 : tagL ([60, 33, 65] ++ (32 :: t)) = none := tag_no 33 _ (by decide) rfl
    unfold rawN
    rw [show tagN ([60, 33, 65] ++ (32 :: t)) = 0 by simp only [tagN, h1], if_neg (by omega)]
    simp [raw2, List.isPrefixOf, declL, hl, u3]
  · have h1 : tagL ([60, 33, 91, 67, 68, 65, 84, 65, 91] ++ (32 :: t) ++ [93, 93]) = none := tag_no 33 _ (by decide) rfl
    unfold rawN
    rw [show tagN ([60, 33, 91, 67, 68, 65, 84, 65, 91] ++ (32 :: t) ++ [93, 93]) = 0 by simp only [tagN, h1], if_neg (by omega)]
    simp [raw2, List.isPrefixOf, u4]

/-! ### Links -/

theorem tw_end (p : UInt8 → Bool) : ∀ (u : List UInt8), (∀ c ∈ u, p c = true) → u.takeWhile p = u
  | [], _ => rfl
  | c :: u, h => by
    rw [List.takeWhile_cons, if_pos (h c (List.mem_cons_self)), tw_end p u (fun x hx => h x (List.mem_cons_of_mem _ hx))]

/-- A scheme, its sign, and what may stand behind it. -/
theorem auto_scheme {a r : List UInt8} (ha : AllW a) (hl : a.length ≤ 30) (hr : ∀ c ∈ r, linkC c = true) (y : List UInt8) : autoL (60 :: ((97 :: 98 :: (a ++ 58 :: r)) ++ 62 :: y)) = some (97 :: 98 :: (a ++ 58 :: r), 97 :: 98 :: (a ++ 58 :: r), a.length + r.length + 5) := by
  have hu : ∀ c ∈ (97 :: 98 :: (a ++ 58 :: r) : List UInt8), linkC c = true := by
    intro c hc
    rcases List.mem_cons.1 hc with rfl | hc
    · rfl
    · rcases List.mem_cons.1 hc with rfl | hc
      · rfl
      · rcases List.mem_append.1 hc with hc | hc
        · exact (word_name (ha c hc)).2.2.2.2.1
        · rcases List.mem_cons.1 hc with rfl | hc
          · rfl
          · exact hr c hc
  rw [auto_of _ y hu]
  have hk : schK (97 :: 98 :: (a ++ 58 :: r)) = a.length + 2 := by
    simp only [schK]
    rw [if_pos (by rfl), List.takeWhile_cons, if_pos (by rfl), (tw_all schC a 58 r (fun c hc => (word_name (ha c hc)).2.2.1) rfl).1]
    simp; omega
  have hok : schOk (97 :: 98 :: (a ++ 58 :: r)) = true := by
    unfold schOk
    rw [hk]
    have : (97 :: 98 :: (a ++ 58 :: r) : List UInt8).drop (a.length + 2) = 58 :: r := by simp
    rw [this]
    simp; omega
  rw [if_pos hok]
  simp only [Option.some.injEq, Prod.mk.injEq, true_and, List.length_cons, List.length_append]
  omega

theorem part_word (acc : List UInt8) (h0 : acc ≠ []) (hl : acc.length ≤ 63) (ha : AllW acc) : partOk acc = true := by
  have h45 : ∀ c ∈ acc, c ≠ 45 := by
    rintro c hc rfl
    have := ha 45 hc
    revert this; decide
  unfold partOk
  simp only [Bool.and_eq_true, Bool.not_eq_true', List.isEmpty_eq_false_iff, decide_eq_true_eq, bne_iff_ne, ne_eq]
  refine ⟨⟨⟨h0, hl⟩, fun e => ?_⟩, fun e => ?_⟩
  · exact h45 45 (List.mem_of_mem_head? e) rfl
  · exact h45 45 (List.mem_of_getLast? e) rfl

theorem parts_word : ∀ (p acc y : List UInt8), AllW p → partsL acc (p ++ 46 :: y) = (partOk (acc ++ p) && partsL [] y)
  | [], acc, y, _ => by simp [partsL]
  | b :: p, acc, y, h => by
    have hb := h b (List.mem_cons_self)
    have h46 : b ≠ 46 := by rintro rfl; revert hb; decide
    rw [List.cons_append]
    simp only [partsL, if_neg h46]
    rw [(word_name hb).2.2.2.2.2, Bool.true_and, parts_word p (acc ++ [b]) y (fun c hc => h c (List.mem_cons_of_mem _ hc))]
    simp

/-- An address. -/
theorem auto_mail {n h : List UInt8} (hn : AllW n) (hh : AllW h) (hl : h.length ≤ 62) (y : List UInt8) : autoL (60 :: ((109 :: (n ++ 64 :: 104 :: (h ++ [46, 120]))) ++ 62 :: y)) = some ([109, 97, 105, 108, 116, 111, 58] ++ (109 :: (n ++ 64 :: 104 :: (h ++ [46, 120]))), 109 :: (n ++ 64 :: 104 :: (h ++ [46, 120])), n.length + h.length + 7) := by
  have hu : ∀ c ∈ (109 :: (n ++ 64 :: 104 :: (h ++ [46, 120])) : List UInt8), linkC c = true := by
    intro c hc
    rcases List.mem_cons.1 hc with rfl | hc
    · rfl
    · rcases List.mem_append.1 hc with hc | hc
      · exact (word_name (hn c hc)).2.2.2.2.1
      · rcases List.mem_cons.1 hc with rfl | hc
        · rfl
        · rcases List.mem_cons.1 hc with rfl | hc
          · rfl
          · rcases List.mem_append.1 hc with hc | hc
            · exact (word_name (hh c hc)).2.2.2.2.1
            · simp only [List.mem_cons, List.not_mem_nil, or_false] at hc
              rcases hc with rfl | rfl <;> rfl
  rw [auto_of _ y hu]
  have hk : schK (109 :: (n ++ 64 :: 104 :: (h ++ [46, 120]))) = n.length + 1 := by
    simp only [schK]
    rw [if_pos (by rfl), (tw_all schC n 64 _ (fun c hc => (word_name (hn c hc)).2.2.1) rfl).1]
    omega
  have hok : schOk (109 :: (n ++ 64 :: 104 :: (h ++ [46, 120]))) = false := by
    unfold schOk
    rw [hk]
    have : (109 :: (n ++ 64 :: 104 :: (h ++ [46, 120])) : List UInt8).drop (n.length + 1) = 64 :: 104 :: (h ++ [46, 120]) := by simp
    rw [this]
    simp
  have hm : mailL (109 :: (n ++ 64 :: 104 :: (h ++ [46, 120]))) = true := by
    have hall : ∀ c ∈ (109 :: n : List UInt8), mailC c = true := by
      intro c hc
      rcases List.mem_cons.1 hc with rfl | hc
      · rfl
      · exact (word_name (hn c hc)).2.2.2.1
    obtain ⟨h1, h2⟩ := tw_all mailC (109 :: n) 64 (104 :: (h ++ [46, 120])) hall rfl
    rw [List.cons_append] at h1 h2
    unfold mailL
    rw [h1, h2]
    have hp : partsL [] (104 :: (h ++ [46, 120])) = true := by
      have := parts_word (104 :: h) [] [120] (by
        intro c hc
        rcases List.mem_cons.1 hc with rfl | hc
        · rfl
        · exact hh c hc)
      rw [List.cons_append] at this
      rw [this, List.nil_append, part_word (104 :: h) (by simp) (by simp; omega) (by
        intro c hc
        rcases List.mem_cons.1 hc with rfl | hc
        · rfl
        · exact hh c hc)]
      rfl
    simp [hp]
  rw [if_neg (by rw [hok]; simp), if_pos hm]
  simp only [Option.some.injEq, Prod.mk.injEq, true_and, List.length_cons, List.length_append, List.length_nil]
  omega

end Go.Proofs.YtegjpfhpkkffiaaDoor
