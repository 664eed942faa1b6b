/- Several texts in one. -/
import Derived.Test.YtcbojffcnlkejaaGreatDoorG50
import Derived.Test.YtcbojffcnlkejaaGreatDoorG01
set_option linter.unusedVariables false
/- Plain mathematics: lines with four blanks ahead are Code, and lines between fences. -/
namespace Go.Proofs.YtcbojffcnlkejaaGreatDoor

theorem lines_cat (pre : Str) (hp : ∀ c ∈ pre, notEnd c = true) (rest : Str) : ∀ ls : List Str, (∀ x ∈ ls, ∀ c ∈ x, notEnd c = true) → lines (ls.flatMap (fun x => pre ++ x ++ [10]) ++ rest) = ls.map (pre ++ ·) ++ lines rest
  | [], _ => rfl
  | x :: r, h => by
    rw [List.flatMap_cons, List.append_assoc, lines_part (pre ++ x) [10] _ (fun c hc => by
      rcases List.mem_append.1 hc with q | q
      · exact hp c q
      · exact h x (List.mem_cons_self ..) c q) (.inl rfl), lines_cat pre hp rest r (fun y hy => h y (List.mem_cons_of_mem _ hy))]
    rfl
theorem ended_cat : ∀ ls : List Str, endedL ls = ls.flatMap (fun x => x ++ [10])
  | [] => rfl
  | [x] => by simp [endedL, joinL]
  | x :: y :: r => by
    have := ended_cat (y :: r)
    unfold endedL at this ⊢
    rw [if_neg (by simp)] at this ⊢
    rw [List.flatMap_cons, ← this]
    simp [joinL]

abbrev four (x : Str) : Str := 32 :: 32 :: 32 :: 32 :: x
theorem four_ind (x : Str) : 3 < indR ((four x, 0, 0) : Pl) := by
  have h := (endC_le x 4).1
  show 3 < endC x 4 - 0
  omega
theorem four_skip (x : Str) : skipR 4 ((four x, 0, 0) : Pl) = (x, 0, 4) := rfl
theorem four_beh (x : Str) : beh (four x) = beh x := rfl

abbrev docS (d : Box) (on : Nat) (df : List Df) : St := ⟨[.doc d], on, df⟩
abbrev docP (d : Box) (p : Part) (on : Nat) (df : List Df) : St := ⟨[.doc d, p], on, df⟩

theorem go_doc (n : Nat) (d : Box) (on : Nat) (df : List Df) (σ : Pl) : (docS d on df).goOn endsX n σ = (0, docS d 1 df, σ) := rfl
theorem go_leaf (n : Nat) (d : Box) (p : Part) (hp : p.isC = false) (on : Nat) (df : List Df) (σ : Pl) : (docP d p on df).goOn endsX n σ = ((p.takes endsX n σ).1, (if (p.takes endsX n σ).2.1 then docP d (p.takes endsX n σ).2.2.1 2 df else (docP d (p.takes endsX n σ).2.2.1 2 df).close), (p.takes endsX n σ).2.2.2) := by
  cases p <;> first | (cases hp; done) | rfl
theorem stand_doc (d : Box) (df : List Df) (p : Part) : (docS d 1 df).stand p = docP d p 2 df := rfl

theorem fuel_one (σ : Pl) : ∃ f, St.fuel σ = f + 1 := ⟨2 * σ.1.length + 1, rfl⟩
theorem read_two {n : Nat} {s s1 : St} {l : Str} {σ1 : Pl} (hg : s.goOn endsX n (l, 0, 0) = (2, s1, σ1)) : s.read' n l = s1 := by
  simp [St.read', St.read, hg]
theorem read_begun {n : Nat} {s s1 s2 : St} {l : Str} {σ1 σ2 : Pl} (hg : s.goOn endsX n (l, 0, 0) = (0, s1, σ1)) (hb : s1.begin htmlL endsX n σ1 = (2, s2, σ2)) : s.read' n l = s2 := by
  obtain ⟨f, hf⟩ := fuel_one σ1
  have hB : St.beginsF htmlL endsX n (St.fuel σ1) s1 σ1 = (2, s2, σ2) := by
    rw [hf]
    simp [St.beginsF, hb]
  simp [St.read', St.read, hg, hB]
theorem read_text {n : Nat} {s s1 : St} {l : Str} {σ1 : Pl} (hg : s.goOn endsX n (l, 0, 0) = (0, s1, σ1)) (hb : s1.begin htmlL endsX n σ1 = (1, s1, σ1)) : s.read' n l = s1.text n σ1 := by
  obtain ⟨f, hf⟩ := fuel_one σ1
  have hB : St.beginsF htmlL endsX n (St.fuel σ1) s1 σ1 = (1, s1, σ1) := by
    rw [hf]
    simp [St.beginsF, hb]
  simp [St.read', St.read, hg, hB]

theorem code_first (x : Str) (hx : beh x ≠ []) (d : Box) (on : Nat) (df : List Df) (n : Nat) : (docS d on df).read' n (four x) = docP d (.indented { first := n, last := n, rows := [x] }) 2 df := by
  have hb : blankB ((four x, 0, 0) : Pl) = false := by
    show (beh x).isEmpty = false
    cases h : beh x with
    | nil => exact absurd h hx
    | cons a t => rfl
  have hbi : (docS d 1 df).beginIndented n (four x, 0, 0) = (2, docP d (.indented { first := n, last := n, rows := [x] }) 2 df, (x, 0, 4)) := by
    unfold St.beginIndented
    rw [if_neg (by rw [hb]; simp [St.hasPara, Part.isPara])]
    rw [stand_doc]
    have : takeI { first := n, last := n } n (four x, 0, 0) = { first := n, last := n, rows := [x] } := by
      unfold takeI
      rw [hb]
      rfl
    rw [this]
    rfl
  have hbe : (docS d 1 df).begin htmlL endsX n (four x, 0, 0) = (2, docP d (.indented { first := n, last := n, rows := [x] }) 2 df, (x, 0, 4)) := by
    unfold St.begin
    simp only
    rw [if_pos (four_ind x), hbi]
  exact read_begun (go_doc n d on df _) hbe

theorem code_next (x : Str) (d : Box) (b : Body) (on : Nat) (df : List Df) (n : Nat) : (docP d (.indented b) on df).read' n (four x) = docP d (.indented { first := b.first, last := if (beh x).isEmpty then b.last else n, rows := b.rows ++ [x] }) 2 df := by
  have ht : (Part.indented b).takes endsX n (four x, 0, 0) = (2, true, .indented { first := b.first, last := if (beh x).isEmpty then b.last else n, rows := b.rows ++ [x] }, (x, 0, 4)) := by
    simp only [Part.takes]
    have h := four_ind x
    rw [if_neg (fun q => by have := q.1; omega)]
    rfl
  refine read_two (σ1 := (x, 0, 4)) ?_
  rw [go_leaf n d _ rfl, ht]
  rfl

theorem code_all : ∀ (ls : List Str) (d : Box) (b : Body) (on : Nat) (df : List Df) (n : Nat) (y : Str), ls.getLast? = some y → beh y ≠ [] →
    St.readAll htmlL endsX n (docP d (.indented b) on df) (ls.map four) = docP d (.indented { first := b.first, last := n + ls.length - 1, rows := b.rows ++ ls }) 2 df
  | [], d, b, on, df, n, y, h, _ => by simp at h
  | [x], d, b, on, df, n, y, h, hy => by
    have hxy : x = y := by simpa using h
    subst hxy
    show (docP d (.indented b) on df).read' n (four x) = _
    rw [code_next]
    have : (beh x).isEmpty = false := by
      cases hq : beh x with
      | nil => exact absurd hq hy
      | cons a t => rfl
    rw [this]
    rfl
  | x :: z :: r, d, b, on, df, n, y, h, hy => by
    show St.readAll htmlL endsX (n + 1) ((docP d (.indented b) on df).read' n (four x)) ((z :: r).map four) = _
    rw [code_next, code_all (z :: r) d _ 2 df (n + 1) y (by simpa using h) hy]
    simp only [List.append_assoc, List.cons_append, List.nil_append, List.length_cons]
    congr 4
    omega

/-- The first part of the law. -/
theorem code_parse (ls : List Str) (x y : Str) (h1 : ls.head? = some x) (h2 : ls.getLast? = some y) (hx : beh x ≠ []) (hy : beh y ≠ []) (he : ∀ x ∈ ls, ∀ c ∈ x, notEnd c = true) :
    parseL (ls.flatMap (fun x => [32, 32, 32, 32] ++ x ++ [10])) = (.cons { kind := 6, text := ls.flatMap (fun x => x ++ [10]) } .nil .nil, []) := by
  have hl : lines (ls.flatMap (fun x => [32, 32, 32, 32] ++ x ++ [10])) = ls.map four := by
    have := lines_cat [32, 32, 32, 32] (by decide) [] ls he
    rw [List.append_nil] at this
    rw [this, show lines ([] : Str) = [] from rfl, List.append_nil]
    rfl
  unfold parseL St.parse
  rw [hl]
  have hRA : St.readAll htmlL endsX 0 St.start (ls.map four) = docP { first := 0, last := 0 } (.indented { first := 0, last := ls.length - 1, rows := ls }) 2 [] := by
    cases ls with
    | nil => simp at h1
    | cons a r =>
      have hax : a = x := by simpa using h1
      subst hax
      show St.readAll htmlL endsX 1 (St.start.read' 0 (four a)) (r.map four) = _
      rw [show St.start = docS { first := 0, last := 0 } 0 [] from rfl, code_first a hx]
      cases r with
      | nil => rfl
      | cons b t =>
        rw [code_all (b :: t) _ _ 2 [] 1 y (by simpa using h2) hy]
        simp only [List.cons_append, List.nil_append, List.length_cons]
        congr 4
        omega
  rw [hRA]
  have hcl : St.leave { docP { first := 0, last := 0 } (.indented { first := 0, last := ls.length - 1, rows := ls }) 2 [] with on := 1 } = docS { first := 0, last := ls.length - 1, held := true, gap := false, kids := .cons { kind := 6, text := endedL (ls.take (ls.length - 1 - 0 + 1)) } .nil .nil } 1 [] := by
    have : ls.length - 1 = max 0 (ls.length - 1) := by omega
    show docS { first := 0, last := max 0 (ls.length - 1), held := true, gap := false, kids := .cons { kind := 6, text := endedL (ls.take (ls.length - 1 - 0 + 1)) } .nil .nil } 1 [] = _
    rw [← this]
  have htk : ls.take (ls.length - 1 - 0 + 1) = ls := List.take_of_length_le (by omega)
  rw [htk] at hcl
  simp only
  rw [hcl, ended_cat]

/-! ### Between fences -/

abbrev infoT : Str := [105, 110, 102, 111]
abbrev fenceB (c : UInt8) : Str := [c, c, c, 32, 105, 110, 102, 111]

theorem beh_sub : ∀ (l : Str) (b : UInt8), b ∈ beh l → b ∈ l
  | [], b, h => h
  | a :: t, b, h => by
    unfold beh at h
    split at h
    · exact List.mem_cons_of_mem _ (beh_sub t b h)
    · exact h
theorem run_none {c : UInt8} {l : Str} (h : ∀ b ∈ l, b ≠ c) : runB c l = 0 := by
  unfold runB rowN
  cases l with
  | nil => rfl
  | cons a t =>
    have : (a == c) = false := by simpa using h a (List.mem_cons_self ..)
    rw [List.takeWhile_cons, this]
    rfl

theorem fence_first {c : UInt8} (hc : c = 96 ∨ c = 126) : St.start.read' 0 (fenceB c) = docP { first := 0, last := 0 } (.fenced { first := 0, last := 0 } c 3 0 infoT) 2 [] := by
  rcases hc with rfl | rfl
  · kernel_rfl
  · kernel_rfl
theorem fence_next (x : Str) {c : UInt8} (hx : ∀ b ∈ x, b ≠ c) (d : Box) (b : Body) (on : Nat) (df : List Df) (n : Nat) (info : Str) : (docP d (.fenced b c 3 0 info) on df).read' n x = docP d (.fenced { first := b.first, last := n, rows := b.rows ++ [x] } c 3 0 info) 2 df := by
  have ht : (Part.fenced b c 3 0 info).takes endsX n (x, 0, 0) = (2, true, .fenced { first := b.first, last := n, rows := b.rows ++ [x] } c 3 0 info, (x, 0, 0)) := by
    simp only [Part.takes]
    rw [if_neg (fun q => by
      have h := q.2
      unfold closesL at h
      rw [run_none (fun b hb => hx b (beh_sub x b hb))] at h
      simp at h
      exact absurd h.1 (by decide))]
    rfl
  refine read_two (σ1 := (x, 0, 0)) ?_
  rw [go_leaf n d _ rfl, ht]
  rfl
theorem fence_all {c : UInt8} (info : Str) (r : List Str) : ∀ (ls : List Str) (d : Box) (b : Body) (on : Nat) (df : List Df) (n : Nat), (∀ x ∈ ls, ∀ b ∈ x, b ≠ c) → ∃ b' : Body, b'.first = b.first ∧ b'.rows = b.rows ++ ls ∧
    St.readAll htmlL endsX n (docP d (.fenced b c 3 0 info) 2 df) (ls ++ r) = St.readAll htmlL endsX (n + ls.length) (docP d (.fenced b' c 3 0 info) 2 df) r
  | [], d, b, on, df, n, _ => ⟨b, rfl, by simp, rfl⟩
  | x :: t, d, b, on, df, n, h => by
    obtain ⟨b', h1, h2, h3⟩ := fence_all info r t d { first := b.first, last := n, rows := b.rows ++ [x] } 2 df (n + 1) (fun y hy => h y (List.mem_cons_of_mem _ hy))
    refine ⟨b', h1, by rw [h2]; simp, ?_⟩
    show St.readAll htmlL endsX (n + 1) ((docP d (.fenced b c 3 0 info) 2 df).read' n x) (t ++ r) = _
    rw [fence_next x (h x (List.mem_cons_self ..)), h3]
    congr 1
    simp only [List.length_cons]
    omega
theorem fence_end {c : UInt8} (hc : c = 96 ∨ c = 126) (d : Box) (b : Body) (df : List Df) (n : Nat) (info : Str) : (docP d (.fenced b c 3 0 info) 2 df).read' n [c, c, c] = docS (d.hold (.fenced { b with last := n } c 3 0 info)) 1 df := by
  rcases hc with rfl | rfl <;> rfl
theorem z_line (d : Box) (df : List Df) (n : Nat) : (docS d 1 df).read' n [122] = docP d (.para { first := n, last := n, rows := [[122]] } 0) 2 df := by kernel_rfl
theorem z_end (d : Box) (df : List Df) (n : Nat) : St.leave { docP d (.para { first := n, last := n, rows := [[122]] } 0) 2 df with on := 1 } = docS (d.hold (.para { first := n, last := n, rows := [[122]] } 0)) 1 df := rfl

theorem fence_parse {c : UInt8} (hc : c = 96 ∨ c = 126) (ls : List Str) (he : ∀ x ∈ ls, ∀ b ∈ x, notEnd b = true) (hn : ∀ x ∈ ls, ∀ b ∈ x, b ≠ c) :
    parseL (fenceB c ++ [10] ++ (ls.flatMap (fun x => x ++ [10]) ++ ([c, c, c] ++ [10] ++ [122]))) = (.cons { kind := 6, text := ls.flatMap (fun x => x ++ [10]), info := infoT } .nil (.cons { kind := 5, text := [122] } .nil .nil), []) := by
  have hl : lines (fenceB c ++ [10] ++ (ls.flatMap (fun x => x ++ [10]) ++ ([c, c, c] ++ [10] ++ [122]))) = fenceB c :: (ls ++ [[c, c, c], [122]]) := by
    rw [lines_part (fenceB c) [10] _ (by rcases hc with rfl | rfl <;> decide) (.inl rfl)]
    have h1 := lines_cat [] (by simp) ([c, c, c] ++ [10] ++ [122]) ls he
    have h2 : ls.flatMap (fun x => ([] : Str) ++ x ++ [10]) = ls.flatMap (fun x => x ++ [10]) := rfl
    rw [h2] at h1
    rw [h1, lines_part [c, c, c] [10] _ (by rcases hc with rfl | rfl <;> decide) (.inl rfl)]
    simp
    rfl
  unfold parseL St.parse
  rw [hl]
  obtain ⟨b', h1, h2, h3⟩ := fence_all infoT [[c, c, c], [122]] ls { first := 0, last := 0 } { first := 0, last := 0 } 2 [] 1 hn
  have hRA : St.readAll htmlL endsX 0 St.start (fenceB c :: (ls ++ [[c, c, c], [122]])) = docP (Box.hold { first := 0, last := 0 } (.fenced { b' with last := 1 + ls.length } c 3 0 infoT)) (.para { first := 1 + ls.length + 1, last := 1 + ls.length + 1, rows := [[122]] } 0) 2 [] := by
    show St.readAll htmlL endsX 1 (St.start.read' 0 (fenceB c)) (ls ++ [[c, c, c], [122]]) = _
    rw [fence_first hc, h3]
    show ((docP { first := 0, last := 0 } (.fenced b' c 3 0 infoT) 2 []).read' (1 + ls.length) [c, c, c]).read' (1 + ls.length + 1) [122] = _
    rw [fence_end hc, z_line]
  rw [hRA]
  simp only
  rw [z_end]
  have hk : (Box.hold (Box.hold { first := 0, last := 0 } (.fenced { b' with last := 1 + ls.length } c 3 0 infoT)) (.para { first := 1 + ls.length + 1, last := 1 + ls.length + 1, rows := [[122]] } 0)).kids = .cons { kind := 6, text := endedL b'.rows, info := infoT } .nil (.cons { kind := 5, text := [122] } .nil .nil) := rfl
  rw [← ended_cat, ← show b'.rows = ls from by rw [h2]; rfl]
  exact congrArg (fun q => (q, ([] : List Df))) hk

end Go.Proofs.YtcbojffcnlkejaaGreatDoor

/- Plain mathematics: lines with which nothing begins. -/
namespace Go.Proofs.YtcbojffcnlkejaaGreatDoor

/-- Bytes with which nothing begins but a text: letters, and an opening bracket. -/
def textB (c : UInt8) : Bool := (decide (97 ≤ c.toNat) && decide (c.toNat ≤ 122)) || c == 91
theorem text_ne {c : UInt8} (h : textB c = true) (d : UInt8) (hd : textB d = false) : c ≠ d := fun e => by rw [e, hd] at h; cases h
theorem row_zero (p : UInt8 → Bool) {c : UInt8} (t : Str) (hp : p c = false) : rowN p (c :: t) = 0 := by
  unfold rowN
  rw [List.takeWhile_cons, hp]
  rfl
theorem text_isB {c : UInt8} (h : textB c = true) : isB c = false := by
  unfold isB
  simp [text_ne h 32 rfl, text_ne h 9 rfl]
theorem text_beh {c : UInt8} (h : textB c = true) (t : Str) : beh (c :: t) = c :: t := by
  unfold beh
  rw [if_neg (by rw [text_isB h]; simp)]
theorem text_ind {c : UInt8} (h : textB c = true) (t : Str) (k : Nat) : indR ((c :: t, 0, k) : Pl) = 0 := by
  unfold indR
  simp only [endC]
  rw [if_neg (by rw [text_isB h]; simp)]
  omega
theorem head_none {c : UInt8} (h : c ≠ 35) (t : Str) : (headL (c :: t)).1 = 0 := by
  unfold headL
  rw [if_pos (.inl (by unfold runB; rw [row_zero _ t (by simp [h])]; omega))]
theorem fence_none {c : UInt8} (h : c ≠ 96 ∧ c ≠ 126) (t : Str) : (fenceL (c :: t)).2.1 = 0 := by
  simp only [fenceL]
  rw [if_pos h]
theorem html_none {c : UInt8} (h : c ≠ 60) (t : Str) : htmlL (c :: t) = 0 := by
  unfold htmlL
  rw [if_pos (by simp [List.isPrefixOf, Ne.symm h])]
theorem under_none {c : UInt8} (h : c ≠ 61 ∧ c ≠ 45) (t : Str) : underL (c :: t) = 0 := by
  have hc : ∀ d : UInt8, c ≠ d → closesL (c :: t) d 1 = false := fun d hd => by
    unfold closesL runB
    rw [row_zero _ t (by simp [hd])]
    rfl
  unfold underL
  rw [hc 61 h.1, hc 45 h.2]
  rfl
theorem mark_none {c : UInt8} (h : textB c = true) (t : Str) : (St.markOf (c :: t)).size = 0 := by
  have hd : digitB c = false := by
    cases hq : digitB c with
    | false => rfl
    | true =>
      unfold digitB at hq
      unfold textB at h
      simp only [Bool.and_eq_true, Bool.or_eq_true, decide_eq_true_eq, beq_iff_eq] at h hq
      rcases h with q | q
      · omega
      · rw [q] at hq; exact absurd hq (by decide)
  show (markL (c :: t)).2.1 = 0
  unfold markL
  rw [row_zero _ t hd, if_neg (by omega)]
  simp only [List.drop_zero]
  split
  · rfl
  · rw [if_neg (by simp [text_ne h 45 rfl, text_ne h 43 rfl, text_ne h 42 rfl])]

theorem none_begins {n k : Nat} {s : St} {c : UInt8} (h : textB c = true) (t : Str) : s.begin htmlL endsX n ((c :: t, 0, k) : Pl) = (1, s, (c :: t, 0, k)) := by
  have hr : ruleL (c :: t) = false := by
    unfold ruleL
    simp [text_ne h 42 rfl, text_ne h 45 rfl, text_ne h 95 rfl]
  have hx : nextB ((c :: t, 0, k) : Pl) = c := by unfold nextB; simp only; rw [text_beh h]; rfl
  unfold St.begin
  simp only
  rw [text_ind h, text_beh h, hx, head_none (text_ne h 35 rfl), fence_none ⟨text_ne h 96 rfl, text_ne h 126 rfl⟩, html_none (text_ne h 60 rfl), under_none ⟨text_ne h 61 rfl, text_ne h 45 rfl⟩, hr, mark_none h]
  rw [if_neg (by omega), if_neg (fun q => text_ne h 62 rfl q.1), if_neg (by omega), if_neg (by omega), if_neg (by omega), if_neg (by omega), if_neg (by simp), if_neg (by omega)]

/-- Nothing begins on an empty line. -/
theorem blank_begins {n k : Nat} {s : St} : s.begin htmlL endsX n (([], 0, k) : Pl) = (1, s, ([], 0, k)) := by
  have hi : indR (([], 0, k) : Pl) = 0 := by unfold indR; simp [endC]
  unfold St.begin
  simp only
  rw [hi]
  rfl

theorem text_blank {c : UInt8} (h : textB c = true) (t : Str) (k : Nat) : blankB ((c :: t, 0, k) : Pl) = false := by
  unfold blankB
  simp only
  rw [text_beh h]
  rfl

theorem readAll_cons (n m : Nat) (h : m = n + 1) (s : St) (l : Str) (r : List Str) : St.readAll htmlL endsX n s (l :: r) = St.readAll htmlL endsX m (s.read' n l) r := by
  subst h
  rfl
theorem readAll_nil (n : Nat) (s : St) : St.readAll htmlL endsX n s [] = s := rfl

/-- A text's first line. -/
theorem read_first {c : UInt8} (h : textB c = true) (t : Str) (d : Box) (on : Nat) (df : List Df) (n : Nat) : (docS d on df).read' n (c :: t) = docP d (.para { first := n, last := n, rows := [c :: t] } 0) 2 df := by
  rw [read_text (go_doc n d on df _) (none_begins h t)]
  unfold St.text
  rw [text_blank h]
  simp only [Bool.false_eq_true, if_false]
  rw [text_beh h]
  rfl
/-- A further line. -/
theorem read_more {c : UInt8} (h : textB c = true) (t : Str) (d : Box) (b : Body) (lv on : Nat) (df : List Df) (n : Nat) : (docP d (.para b lv) on df).read' n (c :: t) = docP d (.para { first := b.first, last := n, rows := b.rows ++ [c :: t] } lv) 2 df := by
  have hg : (docP d (.para b lv) on df).goOn endsX n (c :: t, 0, 0) = (0, docP d (.para b lv) 2 df, (c :: t, 0, 0)) := rfl
  rw [read_text hg (none_begins h t)]
  unfold St.text
  rw [text_blank h]
  simp only [Bool.false_eq_true, if_false]
  rw [text_beh h]
  rfl

theorem lines_last (x : Str) (h : ∀ c ∈ x, notEnd c = true) (hne : x ≠ []) : lines x = [x] := by
  have hp : 0 < x.length := List.length_pos_iff.2 hne
  have ht : x.takeWhile notEnd = x := by
    have : ∀ l : Str, (∀ c ∈ l, notEnd c = true) → l.takeWhile notEnd = l := by
      intro l
      induction l with
      | nil => intro _; rfl
      | cons a r ih => intro q; rw [List.takeWhile_cons, q a (List.mem_cons_self ..), ih (fun c hc => q c (List.mem_cons_of_mem _ hc))]; rfl
    exact this x h
  have hs : stopAt x 0 = x.length := by unfold stopAt; rw [List.drop_zero, ht]; omega
  unfold lines
  rw [lines_step hp, List.drop_zero, ht, lines_end (by unfold nextAt; rw [hs]; omega)]

/-- What begins with no bracket defines nothing. -/
theorem def_none {c : UInt8} (t : Str) (h : c ≠ 91) (hb : c ≠ 32) : lnk.defR (c :: t) = lnk.noDef := by
  have h3 : lnk.threeL 3 (c :: t) = c :: t := by unfold lnk.threeL; rw [if_neg hb]
  unfold lnk.defR lnk.defineL
  rw [h3]
  simp only [lnk.labelL]
  rw [if_neg h]
theorem off_none {c : UInt8} (t : Str) (h : c ≠ 91) (hb : c ≠ 32) (d : List Df) : off (c :: t) d = (c :: t, d) := by
  show offF ((c :: t).length + 1) (c :: t) d = _
  unfold offF
  rw [def_none t h hb]
  rfl
theorem tailG_keep {l : Str} {z : UInt8} (h : l.getLast? = some z) (hz : z ≠ 32 ∧ z ≠ 9) : tailG l = l := by
  obtain ⟨m, rfl⟩ := List.getLast?_eq_some_iff.1 h
  unfold tailG Lib.trimRightS
  rw [List.reverse_append]
  simp only [List.reverse_cons, List.reverse_nil, List.nil_append, List.cons_append]
  rw [List.dropWhile_cons, if_neg (by simp [hz.1, hz.2])]
  simp

theorem begin_item {n : Nat} {s : St} {σ : Pl} (h1 : indR σ = 0) (h2 : (nextB σ == 62) = false) (h3 : (headL (beh σ.1)).1 = 0) (h4 : (fenceL (beh σ.1)).2.1 = 0) (h5 : htmlL (beh σ.1) = 0) (h6 : s.isClose = false) (h7 : ruleL (beh σ.1) = false) (h8 : decide (0 < (St.markOf (beh σ.1)).size) = true) (h9 : s.room = true) :
    s.begin htmlL endsX n σ = (0, (s.beginItem n σ (St.markOf (beh σ.1))).1, (s.beginItem n σ (St.markOf (beh σ.1))).2) := by
  unfold St.begin
  simp only
  rw [if_neg (by rw [h1]; omega), if_neg (fun q => by rw [q.1] at h2; cases h2), if_neg (by rw [h3]; omega), if_neg (by rw [h4]; omega), if_neg (by rw [h5]; omega), if_neg (by rw [h6]; simp), if_neg (by rw [h7]; simp), if_pos ⟨of_decide_eq_true h8, h9, .inr h6⟩]
theorem rule_not {b : UInt8} {t : Str} (h : ∃ x ∈ t, x ≠ b ∧ gapB x = false) : ruleL (b :: t) = false := by
  obtain ⟨x, hx, h1, h2⟩ := h
  simp only [ruleL]
  have : ((b :: t).all fun x => x == b || gapB x) = false := by
    rw [List.all_eq_false]
    exact ⟨x, List.mem_cons_of_mem _ hx, by simp [h1, h2]⟩
  rw [this, Bool.and_false]

end Go.Proofs.YtcbojffcnlkejaaGreatDoor

/- Plain mathematics: a heading is written in two ways. -/
namespace Go.Proofs.YtcbojffcnlkejaaGreatDoor

/-- A word of letters. -/
structure Word (t : Str) : Prop where
  head : ∃ r, t = 119 :: r
  letters : ∀ c ∈ t, 97 ≤ c.toNat ∧ c.toNat ≤ 122

theorem Word.last {t : Str} (h : Word t) : ∃ z, t.getLast? = some z ∧ z ≠ 32 ∧ z ≠ 9 ∧ z ≠ 35 := by
  obtain ⟨r, e⟩ := h.head
  cases hz : t.getLast? with
  | none => rw [List.getLast?_eq_none_iff] at hz; rw [hz] at e; cases e
  | some z =>
    have := h.letters z (List.mem_of_getLast? hz)
    refine ⟨z, rfl, fun q => ?_, fun q => ?_, fun q => ?_⟩ <;> (rw [q] at this; exact absurd this (by decide))
theorem trimR_keep {l cs : Str} {z : UInt8} (h : l.getLast? = some z) (hz : cs.contains z = false) : Lib.trimRightS l cs = l := by
  obtain ⟨m, rfl⟩ := List.getLast?_eq_some_iff.1 h
  unfold Lib.trimRightS
  rw [List.reverse_append]
  simp only [List.reverse_cons, List.reverse_nil, List.nil_append, List.cons_append]
  rw [List.dropWhile_cons, if_neg (by rw [hz]; simp)]
  simp
theorem Word.headT {t : Str} (h : Word t) : headT (trimG (32 :: t)) = t := by
  obtain ⟨z, h1, h2, h3, h4⟩ := h.last
  obtain ⟨r, e⟩ := h.head
  have hl : (32 :: t).getLast? = some z := by rw [e] at h1 ⊢; rw [List.getLast?_cons_cons]; exact h1
  have g1 : trimG (32 :: t) = t := by
    unfold trimG Lib.trimS
    rw [trimR_keep hl (by simp [h2, h3])]
    unfold Lib.trimLeftS
    rw [List.dropWhile_cons, if_pos (by decide), e]
    rfl
  rw [g1]
  unfold Go.Proofs.YtcbojffcnlkejaaGreatDoor.headT
  simp only
  rw [trimR_keep h1 (by simp [h4]), trimR_keep h1 (by simp [h2, h3])]
  rw [if_pos ⟨rfl, by rw [e]; simp⟩]
theorem Word.tail {t : Str} (h : Word t) : tailG t = t := by
  obtain ⟨z, h1, h2, h3, h4⟩ := h.last
  exact tailG_keep h1 ⟨h2, h3⟩
theorem Word.off {t : Str} (h : Word t) (d : List Df) : off t d = (t, d) := by
  obtain ⟨r, e⟩ := h.head
  rw [e]
  exact off_none r (by decide) (by decide) d
theorem word_para : Word [112, 97, 114, 97] → False := fun h => by obtain ⟨r, e⟩ := h.head; cases e

/-- A Para's block. -/
abbrev paraB (n m : Nat) (t : Str) : Part := .para { first := n, last := m, rows := [t] } 0
/-- A text that no definition begins, and that ends with no blank. -/
structure Plain1 (t : Str) : Prop where
  off : ∀ d, off t d = (t, d)
  tail : tailG t = t
  ne : t ≠ []
theorem Word.plain {t : Str} (h : Word t) : Plain1 t := ⟨h.off, h.tail, by obtain ⟨r, e⟩ := h.head; rw [e]; simp⟩
theorem plain_para : Plain1 [112, 97, 114, 97] := ⟨fun d => off_none _ (by decide) (by decide) d, tailG_keep (z := 97) rfl (by decide), by simp⟩
theorem Plain1.rows {t : Str} (h : Plain1 t) (d : List Df) : offRows [t] d = [t] := by
  unfold offRows
  rw [show joinL [t] = t from rfl, h.off]
  simp only
  rw [if_neg h.ne]
theorem Plain1.takeOff {t : Str} (h : Plain1 t) (n m lv : Nat) (d : List Df) : St.takeOff (.para { first := n, last := m, rows := [t] } lv) d = (.para { first := n, last := m, rows := [t] } lv, d) := by
  unfold St.takeOff
  simp only
  rw [h.rows, show joinL [t] = t from rfl, h.off]
theorem Plain1.close {t : Str} (h : Plain1 t) (D : Box) (n m lv on : Nat) (d : List Df) : (docP D (.para { first := n, last := m, rows := [t] } lv) on d).close = docS (D.hold (.para { first := n, last := m, rows := [t] } lv)) (min on 1) d := by
  unfold St.close
  simp only [List.getLast?_cons_cons, List.getLast?_singleton]
  rw [h.takeOff]
  rfl
theorem Plain1.told0 {t : Str} (h : Plain1 t) (D : Box) (n m : Nat) : (D.hold (paraB n m t)).kids = D.kids.snoc { kind := 5, text := t } .nil := by
  unfold Box.hold
  simp only [Part.told]
  rw [if_neg (by simp)]
  simp only
  rw [show joinL [t] = t from rfl, h.tail]
theorem Plain1.told1 {t : Str} (h : Plain1 t) (D : Box) (n m lv : Nat) : (D.hold (.para { first := n, last := m, rows := [t] } (lv + 1))).kids = D.kids.snoc { kind := 4, level := lv + 1, text := t } .nil := by
  unfold Box.hold
  simp only [Part.told]
  rw [if_neg (by simp)]
  simp only
  rw [show joinL [t] = t from rfl, h.tail]

theorem under_row {c : UInt8} (k : Nat) : underL (List.replicate (k + 1) c) = if c = 61 then 1 else if c = 45 then 2 else 0 := by
  have h1 : ∀ d : UInt8, closesL (List.replicate (k + 1) c) d 1 = decide (c = d) := fun d => by
    by_cases h : c = d
    · subst h
      have hr : runB c (List.replicate (k + 1) c) = k + 1 := by
        unfold runB rowN
        rw [List.takeWhile_replicate_eq_filter]
        simp
      unfold closesL
      rw [hr, List.drop_of_length_le (by simp)]
      simp
      omega
    · have hr : runB d (List.replicate (k + 1) c) = 0 := by
        unfold runB
        rw [List.replicate_succ]
        exact row_zero _ _ (by simp [h])
      unfold closesL
      rw [hr]
      simp [h]
  unfold underL
  rw [h1, h1]
  simp

/-- A word, and a row of signs below. -/
theorem heads_under {t : Str} (ht : Word t) (c : UInt8) (lv : Nat) (hc : (c = 61 ∧ lv = 0) ∨ (c = 45 ∧ lv = 1)) (k : Nat) : St.parse htmlL endsX [t, List.replicate (k + 1) c] = (.cons { kind := 4, level := lv + 1, text := t } .nil .nil, []) := by
  obtain ⟨r, e⟩ := ht.head
  have hp := ht.plain
  obtain ⟨d0, hd0⟩ : ∃ d0 : Box, d0 = { first := 0, last := 0 } := ⟨_, rfl⟩
  have hk0 : d0.kids = .nil := by rw [hd0]
  have s1 : St.start.read' 0 t = docP d0 (paraB 0 0 t) 2 [] := by
    rw [e, hd0]
    exact read_first (by decide) r _ 0 [] 0
  have hun : ∀ L, (docP d0 (paraB 0 0 t) 2 []).underline 1 L = (2, docS (d0.hold (.para { first := 0, last := 1, rows := [t] } L)) 1 []) := fun L => by
    unfold St.underline
    simp only [List.getLast?_cons_cons, List.getLast?_singleton]
    rw [hp.rows, show joinL [t] = t from rfl, hp.off]
    simp only
    rw [if_neg (by simp)]
    exact congrArg (fun x => (2, x)) (hp.close d0 0 1 L 2 [])
  have hU : underL (List.replicate (k + 1) c) = lv + 1 := by
    rw [under_row]
    rcases hc with ⟨rfl, rfl⟩ | ⟨rfl, rfl⟩ <;> rfl
  have hs : c ≠ 35 ∧ c ≠ 96 ∧ c ≠ 126 ∧ c ≠ 60 ∧ c ≠ 62 ∧ isB c = false := by
    rcases hc with ⟨rfl, rfl⟩ | ⟨rfl, rfl⟩ <;> decide
  have s2 : (docP d0 (paraB 0 0 t) 2 []).read' 1 (List.replicate (k + 1) c) = docS (d0.hold (.para { first := 0, last := 1, rows := [t] } (lv + 1))) 1 [] := by
    refine read_begun (s1 := docP d0 (paraB 0 0 t) 2 []) (σ1 := (List.replicate (k + 1) c, 0, 0)) (σ2 := (List.replicate (k + 1) c, 0, 0)) rfl ?_
    have hb : beh (List.replicate (k + 1) c) = List.replicate (k + 1) c := by
      rw [List.replicate_succ]
      unfold beh
      rw [if_neg (by rw [hs.2.2.2.2.2]; simp)]
    have hi : indR ((List.replicate (k + 1) c, 0, 0) : Pl) = 0 := by
      unfold indR
      rw [List.replicate_succ]
      simp only [endC]
      rw [if_neg (by rw [hs.2.2.2.2.2]; simp)]
    have hx : nextB ((List.replicate (k + 1) c, 0, 0) : Pl) = c := by unfold nextB; simp only; rw [hb, List.replicate_succ]; rfl
    unfold St.begin
    simp only
    rw [hi, hb, hx, hU]
    rw [show List.replicate (k + 1) c = c :: List.replicate k c from List.replicate_succ]
    rw [head_none hs.1, fence_none ⟨hs.2.1, hs.2.2.1⟩, html_none hs.2.2.2.1]
    rw [if_neg (by omega), if_neg (fun q => hs.2.2.2.2.1 q.1), if_neg (by omega), if_neg (by omega), if_neg (by omega), if_pos ⟨by omega, rfl⟩, hun]
  have hra : St.readAll htmlL endsX 0 St.start [t, List.replicate (k + 1) c] = docS (d0.hold (.para { first := 0, last := 1, rows := [t] } (lv + 1))) 1 [] := by
    rw [readAll_cons 0 1 rfl, s1, readAll_cons 1 2 rfl, s2, readAll_nil]
  unfold St.parse
  rw [hra]
  show ((d0.hold (.para { first := 0, last := 1, rows := [t] } (lv + 1))).kids, ([] : List Df)) = _
  rw [hp.told1, hk0]
  rfl

/-- Signs ahead. -/
abbrev hashT (lv : Nat) (t : Str) : Str := List.replicate (lv + 1) 35 ++ 32 :: t
theorem head_hash {t : Str} (ht : Word t) {lv : Nat} (hlv : lv = 0 ∨ lv = 1) : headL (hashT lv t) = (lv + 1, t) := by
  rcases hlv with rfl | rfl
  · show headL (35 :: 32 :: t) = _
    have h1 : runB 35 (35 :: 32 :: t) = 1 := rfl
    unfold headL
    rw [h1, if_neg (by rintro (q | q | q); omega; omega; cases q)]
    exact congrArg (fun x => (1, x)) ht.headT
  · show headL (35 :: 35 :: 32 :: t) = _
    have h1 : runB 35 (35 :: 35 :: 32 :: t) = 2 := rfl
    unfold headL
    rw [h1, if_neg (by rintro (q | q | q); omega; omega; cases q)]
    exact congrArg (fun x => (2, x)) ht.headT
theorem hash_begin {t : Str} (ht : Word t) {lv : Nat} (hlv : lv = 0 ∨ lv = 1) (n : Nat) (s : St) : s.begin htmlL endsX n ((hashT lv t, 0, 0) : Pl) = (2, s.beginWhole n { kind := 4, level := lv + 1, text := t }, ((hashT lv t, 0, 0) : Pl)) := by
  have hb : beh (hashT lv t) = hashT lv t := by rcases hlv with rfl | rfl <;> rfl
  have hi : indR ((hashT lv t, 0, 0) : Pl) = 0 := by rcases hlv with rfl | rfl <;> rfl
  have hx : nextB ((hashT lv t, 0, 0) : Pl) = 35 := by rcases hlv with rfl | rfl <;> rfl
  unfold St.begin
  simp only
  rw [hi, hb, hx, head_hash ht hlv]
  rw [if_neg (by omega), if_neg (fun q => absurd q.1 (by decide)), if_pos (Nat.succ_pos _)]
abbrev wholeH (n lv : Nat) (t : Str) : Part := .whole n n { kind := 4, level := lv + 1, text := t }
theorem heads_hash {t : Str} (ht : Word t) {lv : Nat} (hlv : lv = 0 ∨ lv = 1) : St.parse htmlL endsX [hashT lv t] = (.cons { kind := 4, level := lv + 1, text := t } .nil .nil, []) := by
  have s1 : St.start.read' 0 (hashT lv t) = docS ((Box.hold { first := 0, last := 0 } (wholeH 0 lv t))) 1 [] := by
    exact read_begun (go_doc 0 { first := 0, last := 0 } 0 [] _) (hash_begin ht hlv 0 _)
  have hra : St.readAll htmlL endsX 0 St.start [hashT lv t] = docS ((Box.hold { first := 0, last := 0 } (wholeH 0 lv t))) 1 [] := s1
  unfold St.parse
  rw [hra]
  rfl
theorem heads_between {t : Str} (ht : Word t) {lv : Nat} (hlv : lv = 0 ∨ lv = 1) : St.parse htmlL endsX [[112, 97, 114, 97], hashT lv t, [112, 97, 114, 97]] = (.cons { kind := 5, text := [112, 97, 114, 97] } .nil (.cons { kind := 4, level := lv + 1, text := t } .nil (.cons { kind := 5, text := [112, 97, 114, 97] } .nil .nil)), []) := by
  have hp := plain_para
  obtain ⟨d0, hd0⟩ : ∃ d0 : Box, d0 = { first := 0, last := 0 } := ⟨_, rfl⟩
  have hk0 : d0.kids = .nil := by rw [hd0]
  have s1 : St.start.read' 0 [112, 97, 114, 97] = docP d0 (paraB 0 0 [112, 97, 114, 97]) 2 [] := by
    rw [hd0]
    exact read_first (by decide) [97, 114, 97] _ 0 [] 0
  have s2 : (docP d0 (paraB 0 0 [112, 97, 114, 97]) 2 []).read' 1 (hashT lv t) = docS ((d0.hold (paraB 0 0 [112, 97, 114, 97])).hold (wholeH 1 lv t)) 1 [] := by
    have hw : (docP d0 (paraB 0 0 [112, 97, 114, 97]) 2 []).beginWhole 1 { kind := 4, level := lv + 1, text := t } = docS ((d0.hold (paraB 0 0 [112, 97, 114, 97])).hold (wholeH 1 lv t)) 1 [] := by
      have hcl : (docP d0 (paraB 0 0 [112, 97, 114, 97]) 2 []).clear = docS (d0.hold (paraB 0 0 [112, 97, 114, 97])) 1 [] := by
        show (docP d0 (paraB 0 0 [112, 97, 114, 97]) 2 []).close = _
        rw [hp.close]
        rfl
      unfold St.beginWhole St.stand
      rw [hcl]
      rfl
    rw [← hw]
    exact read_begun (s1 := docP d0 (paraB 0 0 [112, 97, 114, 97]) 2 []) (σ1 := (hashT lv t, 0, 0)) rfl (hash_begin ht hlv 1 _)
  generalize hD : (d0.hold (paraB 0 0 [112, 97, 114, 97])).hold (wholeH 1 lv t) = D at s2
  have hkD : D.kids = .cons { kind := 5, text := [112, 97, 114, 97] } .nil (.cons { kind := 4, level := lv + 1, text := t } .nil .nil) := by
    rw [← hD]
    show (d0.hold (paraB 0 0 [112, 97, 114, 97])).kids.snoc _ .nil = _
    rw [hp.told0, hk0]
    rfl
  have hra : St.readAll htmlL endsX 0 St.start [[112, 97, 114, 97], hashT lv t, [112, 97, 114, 97]] = docP D (paraB 2 2 [112, 97, 114, 97]) 2 [] := by
    rw [readAll_cons 0 1 rfl, s1, readAll_cons 1 2 rfl, s2, readAll_cons 2 3 rfl, readAll_nil]
    exact read_first (by decide) [97, 114, 97] _ 1 [] 2
  have hlv2 : St.leave { docP D (paraB 2 2 [112, 97, 114, 97]) 2 [] with on := 1 } = docS (D.hold (paraB 2 2 [112, 97, 114, 97])) 1 [] := by
    show (docP D (paraB 2 2 [112, 97, 114, 97]) 1 []).leave = _
    rw [leave_next (by show 1 < 2; omega) (by rw [hp.close]; rfl), hp.close, leave_stop (by show ¬ 1 < 1; omega)]
    rfl
  unfold St.parse
  rw [hra]
  simp only
  rw [hlv2]
  show ((D.hold (paraB 2 2 [112, 97, 114, 97])).kids, ([] : List Df)) = _
  rw [hp.told0, hkD]
  rfl

end Go.Proofs.YtcbojffcnlkejaaGreatDoor

/- Plain mathematics: definitions are told in their order, and leave nothing behind. -/
namespace Go.Proofs.YtcbojffcnlkejaaGreatDoor

/-- The name of a number. -/
def nmL (i : Nat) : Str := [110, UInt8.ofNat (97 + i / 26 % 26), UInt8.ofNat (97 + i % 26)]
theorem name_letter (i : Nat) : ∀ c ∈ nmL i, 97 ≤ c.toNat ∧ c.toNat ≤ 122 := by
  have h : ∀ k, k < 26 → 97 ≤ (UInt8.ofNat (97 + k)).toNat ∧ (UInt8.ofNat (97 + k)).toNat ≤ 122 := fun k hk => by
    rw [UInt8.toNat_ofNat']
    omega
  intro c hc
  simp only [nmL, List.mem_cons, List.not_mem_nil, or_false] at hc
  rcases hc with rfl | rfl | rfl
  · decide
  · exact h _ (Nat.mod_lt _ (by decide))
  · exact h _ (Nat.mod_lt _ (by decide))
theorem name_fold : ∀ i : Fin 40, fold (nmL i.val) = nmL i.val := by decide +kernel
theorem name_unesc : ∀ i : Fin 40, unesc (47 :: nmL i.val) = 47 :: nmL i.val := by decide +kernel

theorem scan_letters {v : Str} : ∀ w : Str, (∀ c ∈ w, 97 ≤ c.toNat ∧ c.toNat ≤ 122) → lnk.scanU 93 (· == 91) (w ++ 93 :: v) = some v
  | [], _ => by cases v <;> rfl
  | b :: r, h => by
    have hb := h b (List.mem_cons_self ..)
    have ne : ∀ d : UInt8, ¬ (97 ≤ d.toNat ∧ d.toNat ≤ 122) → b ≠ d := fun d hd e => hd (e ▸ hb)
    have ih := scan_letters (v := v) r (fun c hc => h c (List.mem_cons_of_mem _ hc))
    have step : ∀ (c : UInt8) (t : Str), lnk.scanU 93 (· == 91) (b :: c :: t) = lnk.scanU 93 (· == 91) (c :: t) := fun c t => by
      rw [lnk.scanU]
      rw [if_neg (ne 93 (by decide)), if_neg (by simp [ne 91 (by decide)]), if_neg (fun q => ne 92 (by decide) q.1)]
    cases r with
    | nil => rw [← ih]; exact step 93 v
    | cons c t => rw [← ih]; exact step c (t ++ 93 :: v)

theorem label_name (i : Fin 40) (v : Str) : lnk.labelL ((91 :: nmL i.val ++ [93]) ++ v) = some (nmL i.val, (nmL i.val).length + 2) := by
  have hs := scan_letters (v := v) (nmL i.val) (name_letter i.val)
  have e : (91 :: nmL i.val ++ [93]) ++ v = 91 :: (nmL i.val ++ 93 :: v) := by simp
  rw [e]
  simp only [lnk.labelL, if_true]
  rw [hs]
  simp only
  have hl : (nmL i.val ++ 93 :: v).length - (v.length + 1) = 3 := by
    rw [List.length_append, List.length_cons]
    show 3 + (v.length + 1) - _ = 3
    omega
  have ht : (nmL i.val ++ 93 :: v).take 3 = nmL i.val := rfl
  rw [hl, ht, name_fold i, if_pos ⟨by omega, by omega, by simp [nmL]⟩]
  congr 2
  rw [List.length_append, List.length_cons]
  show 3 + (v.length + 1) - v.length + 1 = 3 + 2
  omega

theorem bare_letters {y : Str} (hy : lnk.endsB y) : ∀ w : Str, (∀ c ∈ w, (97 ≤ c.toNat ∧ c.toNat ≤ 122) ∨ c = 47) → lnk.bareS 0 (w ++ y) = some (y, 0)
  | [], _ => lnk.bare_stop 0 y hy
  | c :: t, h => by
    have hc := h c (List.mem_cons_self ..)
    have ne : ∀ d : UInt8, ¬ (97 ≤ d.toNat ∧ d.toNat ≤ 122) → d ≠ 47 → c ≠ d := fun d hd h47 e => by
      rcases hc with q | q
      · exact hd (e ▸ q)
      · exact h47 (e ▸ q)
    have hb : lnk.bareC c = true := by
      unfold lnk.bareC
      rcases hc with q | q
      · have : c ≠ 127 := fun e => by rw [e] at q; exact absurd q (by decide)
        simp [this]
        omega
      · rw [q]; decide
    show lnk.bareS 0 (c :: (t ++ y)) = _
    rw [lnk.bare_byte 0 hb (t ++ y) (fun d u _ hd => ne 92 (by decide) (by decide) hd.1), if_neg (ne 40 (by decide) (by decide)), if_neg (ne 41 (by decide) (by decide))]
    exact bare_letters hy t (fun x hx => h x (List.mem_cons_of_mem _ hx))

theorem dest_name (i : Fin 40) {y : Str} (hy : lnk.endsB y) : lnk.destL ((47 :: nmL i.val) ++ y) = some (47 :: nmL i.val, (47 :: nmL i.val).length) := by
  have hb := bare_letters hy (47 :: nmL i.val) (fun c hc => by
    rcases List.mem_cons.1 hc with q | q
    · exact .inr q
    · exact .inl (name_letter _ c q))
  have hl : ((47 :: nmL i.val) ++ y).length - y.length = 4 := by
    rw [List.length_append]
    show 4 + y.length - _ = 4
    omega
  have ht : ((47 :: nmL i.val) ++ y).take 4 = 47 :: nmL i.val := rfl
  show lnk.destL (47 :: (nmL i.val ++ y)) = _
  simp only [lnk.destL]
  rw [if_neg (by decide)]
  rw [show 47 :: (nmL i.val ++ y) = (47 :: nmL i.val) ++ y from rfl, hb]
  simp only
  rw [if_neg (by
    rintro (h | h)
    · rw [List.length_append] at h
      have : (47 :: nmL i.val).length = 4 := rfl
      omega
    · omega), hl, ht, name_unesc i]
  rfl

/-- A definition's line, and what it defines. -/
def defT (q : Fin 16 × Fin 40) : Str := 91 :: nmL q.1.val ++ [93, 58, 32, 47] ++ nmL q.2.val
def defQ (q : Fin 16 × Fin 40) : Df := (nmL q.1.val, 47 :: nmL q.2.val, [])

/-- Behind a definition: nothing, or a line that begins with a bracket or a letter. -/
def Behind (R R' : Str) : Prop := (R = [] ∧ R' = []) ∨ ∃ c t, textB c = true ∧ R' = c :: t ∧ R = 10 :: c :: t
theorem def_one (q : Fin 16 × Fin 40) {R R' : Str} (h : Behind R R') : lnk.defR (defT q ++ R) = (defQ q, (defT q ++ R).length - R'.length) := by
  have h40 : q.1.val < 40 := by omega
  have hl := label_name ⟨q.1.val, h40⟩
  have hf := name_fold ⟨q.1.val, h40⟩
  simp only at hl hf
  have hy : lnk.endsB R := by
    rcases h with ⟨h, _⟩ | ⟨c, t, _, _, h⟩
    · exact .inl h
    · exact .inr ⟨10, c :: t, h, rfl⟩
  have hg : lnk.titleL (gapL 0 R) = none ∧ lnk.lineL R = some R' := by
    rcases h with ⟨rfl, rfl⟩ | ⟨c, t, hc, rfl, rfl⟩
    · exact ⟨rfl, rfl⟩
    · have g1 : gapL 0 (10 :: c :: t) = c :: t := by
        simp [gapL, text_ne hc 32 rfl, text_ne hc 9 rfl, text_ne hc 10 rfl]
      rw [g1]
      refine ⟨?_, rfl⟩
      simp only [lnk.titleL]
      rw [if_neg (by rintro (e | e | e); exact text_ne hc 34 rfl e; exact text_ne hc 39 rfl e; exact text_ne hc 40 rfl e)]
  have hd := lnk.define_of (g0 := []) (u := nmL q.1.val) (g := [32]) (q := 47 :: nmL q.2.val) (y := R) (d := 47 :: nmL q.2.val) (b := 47) (w := nmL q.2.val) (fun v => rfl) (fun v => hl v) rfl (fun v => rfl) (dest_name q.2 hy)
  rw [hg.1] at hd
  simp only at hd
  rw [hg.2, hf] at hd
  have e : [] ++ ((91 :: nmL q.1.val ++ [93]) ++ (58 :: ([32] ++ ((47 :: nmL q.2.val) ++ R)))) = defT q ++ R := by simp [defT]
  rw [e] at hd
  unfold lnk.defR
  rw [hd]
  rfl

/-- What a Para of definitions has, in one text. -/
def defsT (e : List Str) : List (Fin 16 × Fin 40) → List Str
  | [] => e
  | q :: r => defT q :: defsT e r
def EndOk (e : List Str) : Prop := e = [] ∨ ∃ c t, textB c = true ∧ c ≠ 91 ∧ e = [c :: t]
theorem join_next {e : List Str} (he : EndOk e) (q : Fin 16 × Fin 40) (r : List (Fin 16 × Fin 40)) : ∃ R, joinL (defsT e (q :: r)) = defT q ++ R ∧ Behind R (joinL (defsT e r)) := by
  have key : ∀ L : List Str, L = [] ∨ (∃ c t L', textB c = true ∧ L = (c :: t) :: L') → ∃ R, joinL (defT q :: L) = defT q ++ R ∧ Behind R (joinL L) := fun L hL => by
    rcases hL with rfl | ⟨c, t, L', hc, rfl⟩
    · exact ⟨[], by simp [joinL], .inl ⟨rfl, rfl⟩⟩
    · have : ∃ u, joinL ((c :: t) :: L') = c :: u := by
        cases L' with
        | nil => exact ⟨t, rfl⟩
        | cons a b => exact ⟨t ++ 10 :: joinL (a :: b), rfl⟩
      obtain ⟨u, hu⟩ := this
      exact ⟨10 :: joinL ((c :: t) :: L'), rfl, .inr ⟨c, u, hc, hu, by rw [hu]⟩⟩
  refine key (defsT e r) ?_
  cases r with
  | nil =>
    rcases he with h | ⟨c, t, h1, h2, h3⟩
    · exact .inl h
    · exact .inr ⟨c, t, [], h1, h3⟩
  | cons p r' => exact .inr ⟨91, nmL p.1.val ++ [93, 58, 32, 47] ++ nmL p.2.val, defsT e r', rfl, rfl⟩
theorem def_nil : lnk.defR [] = lnk.noDef := rfl
theorem off_all {e : List Str} (he : EndOk e) : ∀ (ds : List (Fin 16 × Fin 40)) (f : Nat) (d : List Df), ds.length < f → offF f (joinL (defsT e ds)) d = (joinL e, (ds.map defQ).foldl addD d)
  | [], 0, d, h => by omega
  | [], f + 1, d, _ => by
    show offF (f + 1) (joinL e) d = (joinL e, d)
    unfold offF
    rcases he with rfl | ⟨c, t, h1, h2, rfl⟩
    · rfl
    · rw [show joinL [c :: t] = c :: t from rfl, def_none t h2 (text_ne h1 32 rfl)]
      rfl
  | q :: r, 0, d, h => by omega
  | q :: r, f + 1, d, h => by
    obtain ⟨R, e1, e2⟩ := join_next he q r
    have h1 := def_one q e2
    have hle : (joinL (defsT e r)).length ≤ R.length := by
      rcases e2 with ⟨a, b⟩ | ⟨c, t, _, a, b⟩
      · rw [a, b]; exact Nat.le_refl _
      · rw [a, b]; simp
    have hdrop : (defT q ++ R).drop ((defT q ++ R).length - (joinL (defsT e r)).length) = joinL (defsT e r) := by
      rcases e2 with ⟨a, b⟩ | ⟨c, t, _, a, b⟩
      · rw [a, b]; simp
      · rw [a, b]
        have : (defT q ++ 10 :: c :: t).length - (c :: t).length = (defT q ++ [10]).length := by
          simp only [List.length_append, List.length_cons, List.length_nil]
          omega
        rw [this, show defT q ++ 10 :: c :: t = (defT q ++ [10]) ++ c :: t by simp, List.drop_left]
    rw [e1]
    unfold offF
    rw [h1]
    simp only
    rw [if_neg (by rw [List.length_append]; have : 1 ≤ (defT q).length := by simp [defT]
                   omega), hdrop]
    exact off_all he r f (addD d (defQ q)) (by simp at h; omega)
theorem defs_len {e : List Str} : ∀ ds : List (Fin 16 × Fin 40), ds.length ≤ (joinL (defsT e ds)).length
  | [] => Nat.zero_le _
  | q :: r => by
    have ih := defs_len (e := e) r
    have h1 : 1 ≤ (defT q).length := by simp [defT]
    cases hr : defsT e r with
    | nil =>
      have : joinL (defsT e (q :: r)) = defT q := by show joinL (defT q :: defsT e r) = _; rw [hr]; rfl
      rw [this, List.length_cons]
      rw [hr] at ih
      have : r.length ≤ 0 := ih
      omega
    | cons a b =>
      have : joinL (defsT e (q :: r)) = defT q ++ 10 :: joinL (defsT e r) := by show joinL (defT q :: defsT e r) = _; rw [hr]; rfl
      rw [this, List.length_append, List.length_cons, List.length_cons]
      omega
theorem off_defs7 {e : List Str} (he : EndOk e) (ds : List (Fin 16 × Fin 40)) (d : List Df) : off (joinL (defsT e ds)) d = (joinL e, (ds.map defQ).foldl addD d) := by
  unfold off
  exact off_all he ds _ d (by have := defs_len (e := e) ds; omega)

theorem defs_read (D : Box) : ∀ (ls : List Str) (b : Body) (n on : Nat), (∀ x ∈ ls, ∃ c t, textB c = true ∧ x = c :: t) → ∃ l', St.readAll htmlL endsX n (docP D (.para b 0) on []) ls = docP D (.para { first := b.first, last := l', rows := b.rows ++ ls } 0) (if ls = [] then on else 2) []
  | [], b, n, on, _ => ⟨b.last, by simp [St.readAll]⟩
  | x :: r, b, n, on, h => by
    obtain ⟨c, t, hc, rfl⟩ := h x (List.mem_cons_self ..)
    obtain ⟨l', e⟩ := defs_read D r { first := b.first, last := n, rows := b.rows ++ [c :: t] } (n + 1) 2 (fun y hy => h y (List.mem_cons_of_mem _ hy))
    refine ⟨l', ?_⟩
    rw [readAll_cons n (n + 1) rfl, read_more hc, e]
    simp

abbrev wordT : Str := [119, 111, 114, 100]
theorem defs_parse (ds : List (Fin 16 × Fin 40)) (text : Bool) : St.parse htmlL endsX (defsT (if text then [wordT] else []) ds) = ((if text then .cons { kind := 5, text := wordT } .nil .nil else .nil), (ds.map defQ).foldl addD []) := by
  obtain ⟨e, he, hee⟩ : ∃ e : List Str, EndOk e ∧ e = (if text then [wordT] else []) := by
    cases text
    · exact ⟨[], .inl rfl, rfl⟩
    · exact ⟨[wordT], .inr ⟨119, [111, 114, 100], rfl, by decide, rfl⟩, rfl⟩
  rw [← hee]
  have hall : ∀ x ∈ defsT e ds, ∃ c t, textB c = true ∧ x = c :: t := by
    clear hee
    induction ds with
    | nil =>
      intro x hx
      rcases he with rfl | ⟨c, t, h1, _, rfl⟩
      · cases hx
      · simp only [defsT, List.mem_singleton] at hx; exact ⟨c, t, h1, hx⟩
    | cons q r ih =>
      intro x hx
      rcases List.mem_cons.1 hx with h | h
      · exact ⟨91, nmL q.1.val ++ [93, 58, 32, 47] ++ nmL q.2.val, rfl, h.trans rfl⟩
      · exact ih x h
  have hoff := off_defs7 he ds []
  generalize hL : defsT e ds = L at *
  generalize hDD : (ds.map defQ).foldl addD [] = DD at *
  cases L with
  | nil =>
    have hds : ds = [] := by cases ds with | nil => rfl | cons q r => cases hL
    subst hds
    have he0 : e = [] := hL
    have ht : text = false := by
      cases text
      · rfl
      · rw [he0] at hee; cases hee
    subst ht
    rw [← hDD]
    rfl
  | cons x r =>
    obtain ⟨c, t, hc, rfl⟩ := hall x (List.mem_cons_self ..)
    obtain ⟨l', e1⟩ := defs_read { first := 0, last := 0 } r { first := 0, last := 0, rows := [c :: t] } 1 2 (fun y hy => hall y (List.mem_cons_of_mem _ hy))
    have hra : St.readAll htmlL endsX 0 St.start ((c :: t) :: r) = docP { first := 0, last := 0 } (.para { first := 0, last := l', rows := (c :: t) :: r } 0) 2 [] := by
      rw [readAll_cons 0 1 rfl, show St.start = docS { first := 0, last := 0 } 0 [] from rfl, read_first hc, e1]
      simp
    have hrows : offRows ((c :: t) :: r) [] = e := by
      unfold offRows
      rw [hoff]
      simp only
      rcases he with rfl | ⟨a, b, h1, h2, rfl⟩
      · rfl
      · rw [show joinL [a :: b] = a :: b from rfl, if_neg (by simp)]
    have hlv : St.leave { docP { first := 0, last := 0 } (.para { first := 0, last := l', rows := (c :: t) :: r } 0) 2 [] with on := 1 } = docS (Box.hold { first := 0, last := 0 } (.para { first := 0, last := l', rows := e } 0)) 1 DD := by
      have hcl : (docP { first := 0, last := 0 } (.para { first := 0, last := l', rows := (c :: t) :: r } 0) 1 []).close = docS (Box.hold { first := 0, last := 0 } (.para { first := 0, last := l', rows := e } 0)) 1 DD := by
        unfold St.close
        simp only [List.getLast?_cons_cons, List.getLast?_singleton, St.takeOff]
        rw [hrows, hoff]
        rfl
      show (docP { first := 0, last := 0 } (.para { first := 0, last := l', rows := (c :: t) :: r } 0) 1 []).leave = _
      rw [leave_next (by show 1 < 2; omega) (by rw [hcl]; rfl), hcl, leave_stop (by show ¬ 1 < 1; omega)]
    unfold St.parse
    rw [hra]
    simp only
    rw [hlv]
    simp only
    cases text
    · have : e = [] := hee
      rw [this]
      rfl
    · have : e = [wordT] := hee
      rw [this]
      show ((Box.hold { first := 0, last := 0 } (paraB 0 l' wordT)).kids, DD) = _
      rw [(show Plain1 wordT from ⟨fun d => off_none _ (by decide) (by decide) d, tailG_keep (z := 100) rfl (by decide), by simp⟩).told0]
      rfl

end Go.Proofs.YtcbojffcnlkejaaGreatDoor
