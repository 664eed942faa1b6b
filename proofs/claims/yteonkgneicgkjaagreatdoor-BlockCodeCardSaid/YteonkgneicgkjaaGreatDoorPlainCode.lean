/- Plain mathematics: lines with four blanks ahead are Code, and lines between fences. -/
import Derived.Test.YteonkgneicgkjaaGreatDoorG50
import Derived.Test.YteonkgneicgkjaaGreatDoorG01
set_option linter.unusedVariables false
namespace Go.Proofs.YteonkgneicgkjaaGreatDoor

theorem lines_cat (pre : Str) (hp : ∀ c ∈ pre, notEnd c = true) (rest : Str) : ∀ ls : List Str, (∀ x ∈ ls, ∀ c ∈ x, notEnd c = true) → lines (ls.flatMap (fun x => pre ++ x ++ [10]) ++ rest) = ls.map (pre ++ ·) ++ lines rest
  | [], _ => rfl
  | x :: r, h => by
    rw [List.flatMap_cons, List.append_assoc, lines_part (pre ++ x) [10] _ (fun c hc => by
      rcases List.mem_append.1 hc with q | q
      · exact hp c q
      · exact h x (List.mem_cons_self ..) c q) (.inl rfl), lines_cat pre hp rest r (fun y hy => h y (List.mem_cons_of_mem _ hy))]
    rfl
theorem ended_cat : ∀ ls : List Str, endedL ls = ls.flatMap (fun x => x ++ [10])
  | [] => rfl
  | [x] => by simp [endedL, joinL]
  | x :: y :: r => by
    have := ended_cat (y :: r)
    unfold endedL at this ⊢
    rw [if_neg (by simp)] at this ⊢
    rw [List.flatMap_cons, ← this]
    simp [joinL]

abbrev four (x : Str) : Str := 32 :: 32 :: 32 :: 32 :: x
theorem four_ind (x : Str) : 3 < indR ((four x, 0, 0) : Pl) := by
  have h := (endC_le x 4).1
  show 3 < endC x 4 - 0
  omega
theorem four_skip (x : Str) : skipR 4 ((four x, 0, 0) : Pl) = (x, 0, 4) := rfl
theorem four_beh (x : Str) : beh (four x) = beh x := rfl

abbrev docS (d : Box) (on : Nat) (df : List Df) : St := ⟨[.doc d], on, df⟩
abbrev docP (d : Box) (p : Part) (on : Nat) (df : List Df) : St := ⟨[.doc d, p], on, df⟩

theorem go_doc (n : Nat) (d : Box) (on : Nat) (df : List Df) (σ : Pl) : (docS d on df).goOn endsX n σ = (0, docS d 1 df, σ) := rfl
theorem go_leaf (n : Nat) (d : Box) (p : Part) (hp : p.isC = false) (on : Nat) (df : List Df) (σ : Pl) : (docP d p on df).goOn endsX n σ = ((p.takes endsX n σ).1, (if (p.takes endsX n σ).2.1 then docP d (p.takes endsX n σ).2.2.1 2 df else (docP d (p.takes endsX n σ).2.2.1 2 df).close), (p.takes endsX n σ).2.2.2) := by
  cases p <;> first | (cases hp; done) | rfl
theorem stand_doc (d : Box) (df : List Df) (p : Part) : (docS d 1 df).stand p = docP d p 2 df := rfl

theorem fuel_one (σ : Pl) : ∃ f, St.fuel σ = f + 1 := ⟨2 * σ.1.length + 1, rfl⟩
theorem read_two {n : Nat} {s s1 : St} {l : Str} {σ1 : Pl} (hg : s.goOn endsX n (l, 0, 0) = (2, s1, σ1)) : s.read' n l = s1 := by
  simp [St.read', St.read, hg]
theorem read_begun {n : Nat} {s s1 s2 : St} {l : Str} {σ1 σ2 : Pl} (hg : s.goOn endsX n (l, 0, 0) = (0, s1, σ1)) (hb : s1.begin htmlL endsX n σ1 = (2, s2, σ2)) : s.read' n l = s2 := by
  obtain ⟨f, hf⟩ := fuel_one σ1
  have hB : St.beginsF htmlL endsX n (St.fuel σ1) s1 σ1 = (2, s2, σ2) := by
    rw [hf]
    simp [St.beginsF, hb]
  simp [St.read', St.read, hg, hB]
theorem read_text {n : Nat} {s s1 : St} {l : Str} {σ1 : Pl} (hg : s.goOn endsX n (l, 0, 0) = (0, s1, σ1)) (hb : s1.begin htmlL endsX n σ1 = (1, s1, σ1)) : s.read' n l = s1.text n σ1 := by
  obtain ⟨f, hf⟩ := fuel_one σ1
  have hB : St.beginsF htmlL endsX n (St.fuel σ1) s1 σ1 = (1, s1, σ1) := by
    rw [hf]
    simp [St.beginsF, hb]
  simp [St.read', St.read, hg, hB]

theorem code_first (x : Str) (hx : beh x ≠ []) (d : Box) (on : Nat) (df : List Df) (n : Nat) : (docS d on df).read' n (four x) = docP d (.indented { first := n, last := n, rows := [x] }) 2 df := by
  have hb : blankB ((four x, 0, 0) : Pl) = false := by
    show (beh x).isEmpty = false
    cases h : beh x with
    | nil => exact absurd h hx
    | cons a t => rfl
  have hbi : (docS d 1 df).beginIndented n (four x, 0, 0) = (2, docP d (.indented { first := n, last := n, rows := [x] }) 2 df, (x, 0, 4)) := by
    unfold St.beginIndented
    rw [if_neg (by rw [hb]; simp [St.hasPara, Part.isPara])]
    rw [stand_doc]
    have : takeI { first := n, last := n } n (four x, 0, 0) = { first := n, last := n, rows := [x] } := by
      unfold takeI
      rw [hb]
      rfl
    rw [this]
    rfl
  have hbe : (docS d 1 df).begin htmlL endsX n (four x, 0, 0) = (2, docP d (.indented { first := n, last := n, rows := [x] }) 2 df, (x, 0, 4)) := by
    unfold St.begin
    simp only
    rw [if_pos (four_ind x), hbi]
  exact read_begun (go_doc n d on df _) hbe

theorem code_next (x : Str) (d : Box) (b : Body) (on : Nat) (df : List Df) (n : Nat) : (docP d (.indented b) on df).read' n (four x) = docP d (.indented { first := b.first, last := if (beh x).isEmpty then b.last else n, rows := b.rows ++ [x] }) 2 df := by
  have ht : (Part.indented b).takes endsX n (four x, 0, 0) = (2, true, .indented { first := b.first, last := if (beh x).isEmpty then b.last else n, rows := b.rows ++ [x] }, (x, 0, 4)) := by
    simp only [Part.takes]
    have h := four_ind x
    rw [if_neg (fun q => by have := q.1; omega)]
    rfl
  refine read_two (σ1 := (x, 0, 4)) ?_
  rw [go_leaf n d _ rfl, ht]
  rfl

theorem code_all : ∀ (ls : List Str) (d : Box) (b : Body) (on : Nat) (df : List Df) (n : Nat) (y : Str), ls.getLast? = some y → beh y ≠ [] →
    St.readAll htmlL endsX n (docP d (.indented b) on df) (ls.map four) = docP d (.indented { first := b.first, last := n + ls.length - 1, rows := b.rows ++ ls }) 2 df
  | [], d, b, on, df, n, y, h, _ => by simp at h
  | [x], d, b, on, df, n, y, h, hy => by
    have hxy : x = y := by simpa using h
    subst hxy
    show (docP d (.indented b) on df).read' n (four x) = _
    rw [code_next]
    have : (beh x).isEmpty = false := by
      cases hq : beh x with
      | nil => exact absurd hq hy
      | cons a t => rfl
    rw [this]
    rfl
  | x :: z :: r, d, b, on, df, n, y, h, hy => by
    show St.readAll htmlL endsX (n + 1) ((docP d (.indented b) on df).read' n (four x)) ((z :: r).map four) = _
    rw [code_next, code_all (z :: r) d _ 2 df (n + 1) y (by simpa using h) hy]
    simp only [List.append_assoc, List.cons_append, List.nil_append, List.length_cons]
    congr 4
    omega

/-- The first part of the law. -/
theorem code_parse (ls : List Str) (x y : Str) (h1 : ls.head? = some x) (h2 : ls.getLast? = some y) (hx : beh x ≠ []) (hy : beh y ≠ []) (he : ∀ x ∈ ls, ∀ c ∈ x, notEnd c = true) :
    parseL (ls.flatMap (fun x => [32, 32, 32, 32] ++ x ++ [10])) = (.cons { kind := 6, text := ls.flatMap (fun x => x ++ [10]) } .nil .nil, []) := by
  have hl : lines (ls.flatMap (fun x => [32, 32, 32, 32] ++ x ++ [10])) = ls.map four := by
    have := lines_cat [32, 32, 32, 32] (by decide) [] ls he
    rw [List.append_nil] at this
    rw [this, show lines ([] : Str) = [] from rfl, List.append_nil]
    rfl
  unfold parseL St.parse
  rw [hl]
  have hRA : St.readAll htmlL endsX 0 St.start (ls.map four) = docP { first := 0, last := 0 } (.indented { first := 0, last := ls.length - 1, rows := ls }) 2 [] := by
    cases ls with
    | nil => simp at h1
    | cons a r =>
      have hax : a = x := by simpa using h1
      subst hax
      show St.readAll htmlL endsX 1 (St.start.read' 0 (four a)) (r.map four) = _
      rw [show St.start = docS { first := 0, last := 0 } 0 [] from rfl, code_first a hx]
      cases r with
      | nil => rfl
      | cons b t =>
        rw [code_all (b :: t) _ _ 2 [] 1 y (by simpa using h2) hy]
        simp only [List.cons_append, List.nil_append, List.length_cons]
        congr 4
        omega
  rw [hRA]
  have hcl : St.leave { docP { first := 0, last := 0 } (.indented { first := 0, last := ls.length - 1, rows := ls }) 2 [] with on := 1 } = docS { first := 0, last := ls.length - 1, held := true, gap := false, kids := .cons { kind := 6, text := endedL (ls.take (ls.length - 1 - 0 + 1)) } .nil .nil } 1 [] := by
    have : ls.length - 1 = max 0 (ls.length - 1) := by omega
    show docS { first := 0, last := max 0 (ls.length - 1), held := true, gap := false, kids := .cons { kind := 6, text := endedL (ls.take (ls.length - 1 - 0 + 1)) } .nil .nil } 1 [] = _
    rw [← this]
  have htk : ls.take (ls.length - 1 - 0 + 1) = ls := List.take_of_length_le (by omega)
  rw [htk] at hcl
  simp only
  rw [hcl, ended_cat]

/-! ### Between fences -/

abbrev infoT : Str := [105, 110, 102, 111]
abbrev fenceB (c : UInt8) : Str := [c, c, c, 32, 105, 110, 102, 111]

theorem beh_sub : ∀ (l : Str) (b : UInt8), b ∈ beh l → b ∈ l
  | [], b, h => h
  | a :: t, b, h => by
    unfold beh at h
    split at h
    · exact List.mem_cons_of_mem _ (beh_sub t b h)
    · exact h
theorem run_none {c : UInt8} {l : Str} (h : ∀ b ∈ l, b ≠ c) : runB c l = 0 := by
  unfold runB rowN
  cases l with
  | nil => rfl
  | cons a t =>
    have : (a == c) = false := by simpa using h a (List.mem_cons_self ..)
    rw [List.takeWhile_cons, this]
    rfl

theorem fence_first {c : UInt8} (hc : c = 96 ∨ c = 126) : St.start.read' 0 (fenceB c) = docP { first := 0, last := 0 } (.fenced { first := 0, last := 0 } c 3 0 infoT) 2 [] := by
  rcases hc with rfl | rfl
  · kernel_rfl
  · kernel_rfl
theorem fence_next (x : Str) {c : UInt8} (hx : ∀ b ∈ x, b ≠ c) (d : Box) (b : Body) (on : Nat) (df : List Df) (n : Nat) (info : Str) : (docP d (.fenced b c 3 0 info) on df).read' n x = docP d (.fenced { first := b.first, last := n, rows := b.rows ++ [x] } c 3 0 info) 2 df := by
  have ht : (Part.fenced b c 3 0 info).takes endsX n (x, 0, 0) = (2, true, .fenced { first := b.first, last := n, rows := b.rows ++ [x] } c 3 0 info, (x, 0, 0)) := by
    simp only [Part.takes]
    rw [if_neg (fun q => by
      have h := q.2
      unfold closesL at h
      rw [run_none (fun b hb => hx b (beh_sub x b hb))] at h
      simp at h
      exact absurd h.1 (by decide))]
    rfl
  refine read_two (σ1 := (x, 0, 0)) ?_
  rw [go_leaf n d _ rfl, ht]
  rfl
theorem fence_all {c : UInt8} (info : Str) (r : List Str) : ∀ (ls : List Str) (d : Box) (b : Body) (on : Nat) (df : List Df) (n : Nat), (∀ x ∈ ls, ∀ b ∈ x, b ≠ c) → ∃ b' : Body, b'.first = b.first ∧ b'.rows = b.rows ++ ls ∧
    St.readAll htmlL endsX n (docP d (.fenced b c 3 0 info) 2 df) (ls ++ r) = St.readAll htmlL endsX (n + ls.length) (docP d (.fenced b' c 3 0 info) 2 df) r
  | [], d, b, on, df, n, _ => ⟨b, rfl, by simp, rfl⟩
  | x :: t, d, b, on, df, n, h => by
    obtain ⟨b', h1, h2, h3⟩ := fence_all info r t d { first := b.first, last := n, rows := b.rows ++ [x] } 2 df (n + 1) (fun y hy => h y (List.mem_cons_of_mem _ hy))
    refine ⟨b', h1, by rw [h2]; simp, ?_⟩
    show St.readAll htmlL endsX (n + 1) ((docP d (.fenced b c 3 0 info) 2 df).read' n x) (t ++ r) = _
    rw [fence_next x (h x (List.mem_cons_self ..)), h3]
    congr 1
    simp only [List.length_cons]
    omega
theorem fence_end {c : UInt8} (hc : c = 96 ∨ c = 126) (d : Box) (b : Body) (df : List Df) (n : Nat) (info : Str) : (docP d (.fenced b c 3 0 info) 2 df).read' n [c, c, c] = docS (d.hold (.fenced { b with last := n } c 3 0 info)) 1 df := by
  rcases hc with rfl | rfl <;> rfl
theorem z_line (d : Box) (df : List Df) (n : Nat) : (docS d 1 df).read' n [122] = docP d (.para { first := n, last := n, rows := [[122]] } 0) 2 df := by kernel_rfl
theorem z_end (d : Box) (df : List Df) (n : Nat) : St.leave { docP d (.para { first := n, last := n, rows := [[122]] } 0) 2 df with on := 1 } = docS (d.hold (.para { first := n, last := n, rows := [[122]] } 0)) 1 df := rfl

theorem fence_parse {c : UInt8} (hc : c = 96 ∨ c = 126) (ls : List Str) (he : ∀ x ∈ ls, ∀ b ∈ x, notEnd b = true) (hn : ∀ x ∈ ls, ∀ b ∈ x, b ≠ c) :
    parseL (fenceB c ++ [10] ++ (ls.flatMap (fun x => x ++ [10]) ++ ([c, c, c] ++ [10] ++ [122]))) = (.cons { kind := 6, text := ls.flatMap (fun x => x ++ [10]), info := infoT } .nil (.cons { kind := 5, text := [122] } .nil .nil), []) := by
  have hl : lines (fenceB c ++ [10] ++ (ls.flatMap (fun x => x ++ [10]) ++ ([c, c, c] ++ [10] ++ [122]))) = fenceB c :: (ls ++ [[c, c, c], [122]]) := by
    rw [lines_part (fenceB c) [10] _ (by rcases hc with rfl | rfl <;> decide) (.inl rfl)]
    have h1 := lines_cat [] (by simp) ([c, c, c] ++ [10] ++ [122]) ls he
    have h2 : ls.flatMap (fun x => ([] : Str) ++ x ++ [10]) = ls.flatMap (fun x => x ++ [10]) := rfl
    rw [h2] at h1
    rw [h1, lines_part [c, c, c] [10] _ (by rcases hc with rfl | rfl <;> decide) (.inl rfl)]
    simp
    rfl
  unfold parseL St.parse
  rw [hl]
  obtain ⟨b', h1, h2, h3⟩ := fence_all infoT [[c, c, c], [122]] ls { first := 0, last := 0 } { first := 0, last := 0 } 2 [] 1 hn
  have hRA : St.readAll htmlL endsX 0 St.start (fenceB c :: (ls ++ [[c, c, c], [122]])) = docP (Box.hold { first := 0, last := 0 } (.fenced { b' with last := 1 + ls.length } c 3 0 infoT)) (.para { first := 1 + ls.length + 1, last := 1 + ls.length + 1, rows := [[122]] } 0) 2 [] := by
    show St.readAll htmlL endsX 1 (St.start.read' 0 (fenceB c)) (ls ++ [[c, c, c], [122]]) = _
    rw [fence_first hc, h3]
    show ((docP { first := 0, last := 0 } (.fenced b' c 3 0 infoT) 2 []).read' (1 + ls.length) [c, c, c]).read' (1 + ls.length + 1) [122] = _
    rw [fence_end hc, z_line]
  rw [hRA]
  simp only
  rw [z_end]
  have hk : (Box.hold (Box.hold { first := 0, last := 0 } (.fenced { b' with last := 1 + ls.length } c 3 0 infoT)) (.para { first := 1 + ls.length + 1, last := 1 + ls.length + 1, rows := [[122]] } 0)).kids = .cons { kind := 6, text := endedL b'.rows, info := infoT } .nil (.cons { kind := 5, text := [122] } .nil .nil) := rfl
  rw [← ended_cat, ← show b'.rows = ls from by rw [h2]; rfl]
  exact congrArg (fun q => (q, ([] : List Df))) hk

end Go.Proofs.YteonkgneicgkjaaGreatDoor
