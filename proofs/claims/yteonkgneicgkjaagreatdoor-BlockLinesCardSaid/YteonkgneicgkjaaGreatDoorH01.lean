/- Several texts in one. -/
import Derived.Test.YteonkgneicgkjaaGreatDoorG50
import Derived.Test.YteonkgneicgkjaaGreatDoorG01
set_option linter.unusedVariables false
/- Plain mathematics: lines with four blanks ahead are Code, and lines between fences. -/
namespace Go.Proofs.YteonkgneicgkjaaGreatDoor

theorem lines_cat (pre : Str) (hp : ∀ c ∈ pre, notEnd c = true) (rest : Str) : ∀ ls : List Str, (∀ x ∈ ls, ∀ c ∈ x, notEnd c = true) → lines (ls.flatMap (fun x => pre ++ x ++ [10]) ++ rest) = ls.map (pre ++ ·) ++ lines rest
  | [], _ => rfl
  | x :: r, h => by
    rw [List.flatMap_cons, List.append_assoc, lines_part (pre ++ x) [10] _ (fun c hc => by
      rcases List.mem_append.1 hc with q | q
      · exact hp c q
      · exact h x (List.mem_cons_self ..) c q) (.inl rfl), lines_cat pre hp rest r (fun y hy => h y (List.mem_cons_of_mem _ hy))]
    rfl
theorem ended_cat : ∀ ls : List Str, endedL ls = ls.flatMap (fun x => x ++ [10])
  | [] => rfl
  | [x] => by simp [endedL, joinL]
  | x :: y :: r => by
    have := ended_cat (y :: r)
    unfold endedL at this ⊢
    rw [if_neg (by simp)] at this ⊢
    rw [List.flatMap_cons, ← this]
    simp [joinL]

abbrev four (x : Str) : Str := 32 :: 32 :: 32 :: 32 :: x
theorem four_ind (x : Str) : 3 < indR ((four x, 0, 0) : Pl) := by
  have h := (endC_le x 4).1
  show 3 < endC x 4 - 0
  omega
theorem four_skip (x : Str) : skipR 4 ((four x, 0, 0) : Pl) = (x, 0, 4) := rfl
theorem four_beh (x : Str) : beh (four x) = beh x := rfl

abbrev docS (d : Box) (on : Nat) (df : List Df) : St := ⟨[.doc d], on, df⟩
abbrev docP (d : Box) (p : Part) (on : Nat) (df : List Df) : St := ⟨[.doc d, p], on, df⟩

theorem go_doc (n : Nat) (d : Box) (on : Nat) (df : List Df) (σ : Pl) : (docS d on df).goOn endsX n σ = (0, docS d 1 df, σ) := rfl
theorem go_leaf (n : Nat) (d : Box) (p : Part) (hp : p.isC = false) (on : Nat) (df : List Df) (σ : Pl) : (docP d p on df).goOn endsX n σ = ((p.takes endsX n σ).1, (if (p.takes endsX n σ).2.1 then docP d (p.takes endsX n σ).2.2.1 2 df else (docP d (p.takes endsX n σ).2.2.1 2 df).close), (p.takes endsX n σ).2.2.2) := by
  cases p <;> first | (cases hp; done) | rfl
theorem stand_doc (d : Box) (df : List Df) (p : Part) : (docS d 1 df).stand p = docP d p 2 df := rfl

theorem fuel_one (σ : Pl) : ∃ f, St.fuel σ = f + 1 := ⟨2 * σ.1.length + 1, rfl⟩
theorem read_two {n : Nat} {s s1 : St} {l : Str} {σ1 : Pl} (hg : s.goOn endsX n (l, 0, 0) = (2, s1, σ1)) : s.read' n l = s1 := by
  simp [St.read', St.read, hg]
theorem read_begun {n : Nat} {s s1 s2 : St} {l : Str} {σ1 σ2 : Pl} (hg : s.goOn endsX n (l, 0, 0) = (0, s1, σ1)) (hb : s1.begin htmlL endsX n σ1 = (2, s2, σ2)) : s.read' n l = s2 := by
  obtain ⟨f, hf⟩ := fuel_one σ1
  have hB : St.beginsF htmlL endsX n (St.fuel σ1) s1 σ1 = (2, s2, σ2) := by
    rw [hf]
    simp [St.beginsF, hb]
  simp [St.read', St.read, hg, hB]
theorem read_text {n : Nat} {s s1 : St} {l : Str} {σ1 : Pl} (hg : s.goOn endsX n (l, 0, 0) = (0, s1, σ1)) (hb : s1.begin htmlL endsX n σ1 = (1, s1, σ1)) : s.read' n l = s1.text n σ1 := by
  obtain ⟨f, hf⟩ := fuel_one σ1
  have hB : St.beginsF htmlL endsX n (St.fuel σ1) s1 σ1 = (1, s1, σ1) := by
    rw [hf]
    simp [St.beginsF, hb]
  simp [St.read', St.read, hg, hB]

theorem code_first (x : Str) (hx : beh x ≠ []) (d : Box) (on : Nat) (df : List Df) (n : Nat) : (docS d on df).read' n (four x) = docP d (.indented { first := n, last := n, rows := [x] }) 2 df := by
  have hb : blankB ((four x, 0, 0) : Pl) = false := by
    show (beh x).isEmpty = false
    cases h : beh x with
    | nil => exact absurd h hx
    | cons a t => rfl
  have hbi : (docS d 1 df).beginIndented n (four x, 0, 0) = (2, docP d (.indented { first := n, last := n, rows := [x] }) 2 df, (x, 0, 4)) := by
    unfold St.beginIndented
    rw [if_neg (by rw [hb]; simp [St.hasPara, Part.isPara])]
    rw [stand_doc]
    have : takeI { first := n, last := n } n (four x, 0, 0) = { first := n, last := n, rows := [x] } := by
      unfold takeI
      rw [hb]
      rfl
    rw [this]
    rfl
  have hbe : (docS d 1 df).begin htmlL endsX n (four x, 0, 0) = (2, docP d (.indented { first := n, last := n, rows := [x] }) 2 df, (x, 0, 4)) := by
    unfold St.begin
    simp only
    rw [if_pos (four_ind x), hbi]
  exact read_begun (go_doc n d on df _) hbe

theorem code_next (x : Str) (d : Box) (b : Body) (on : Nat) (df : List Df) (n : Nat) : (docP d (.indented b) on df).read' n (four x) = docP d (.indented { first := b.first, last := if (beh x).isEmpty then b.last else n, rows := b.rows ++ [x] }) 2 df := by
  have ht : (Part.indented b).takes endsX n (four x, 0, 0) = (2, true, .indented { first := b.first, last := if (beh x).isEmpty then b.last else n, rows := b.rows ++ [x] }, (x, 0, 4)) := by
    simp only [Part.takes]
    have h := four_ind x
    rw [if_neg (fun q => by have := q.1; omega)]
    rfl
  refine read_two (σ1 := (x, 0, 4)) ?_
  rw [go_leaf n d _ rfl, ht]
  rfl

theorem code_all : ∀ (ls : List Str) (d : Box) (b : Body) (on : Nat) (df : List Df) (n : Nat) (y : Str), ls.getLast? = some y → beh y ≠ [] →
    St.readAll htmlL endsX n (docP d (.indented b) on df) (ls.map four) = docP d (.indented { first := b.first, last := n + ls.length - 1, rows := b.rows ++ ls }) 2 df
  | [], d, b, on, df, n, y, h, _ => by simp at h
  | [x], d, b, on, df, n, y, h, hy => by
    have hxy : x = y := by simpa using h
    subst hxy
    show (docP d (.indented b) on df).read' n (four x) = _
    rw [code_next]
    have : (beh x).isEmpty = false := by
      cases hq : beh x with
      | nil => exact absurd hq hy
      | cons a t => rfl
    rw [this]
    rfl
  | x :: z :: r, d, b, on, df, n, y, h, hy => by
    show St.readAll htmlL endsX (n + 1) ((docP d (.indented b) on df).read' n (four x)) ((z :: r).map four) = _
    rw [code_next, code_all (z :: r) d _ 2 df (n + 1) y (by simpa using h) hy]
    simp only [List.append_assoc, List.cons_append, List.nil_append, List.length_cons]
    congr 4
    omega

/-- The first part of the law. -/
theorem code_parse (ls : List Str) (x y : Str) (h1 : ls.head? = some x) (h2 : ls.getLast? = some y) (hx : beh x ≠ []) (hy : beh y ≠ []) (he : ∀ x ∈ ls, ∀ c ∈ x, notEnd c = true) :
    parseL (ls.flatMap (fun x => [32, 32, 32, 32] ++ x ++ [10])) = (.cons { kind := 6, text := ls.flatMap (fun x => x ++ [10]) } .nil .nil, []) := by
  have hl : lines (ls.flatMap (fun x => [32, 32, 32, 32] ++ x ++ [10])) = ls.map four := by
    have := lines_cat [32, 32, 32, 32] (by decide) [] ls he
    rw [List.append_nil] at this
    rw [this, show lines ([] : Str) = [] from rfl, List.append_nil]
    rfl
  unfold parseL St.parse
  rw [hl]
  have hRA : St.readAll htmlL endsX 0 St.start (ls.map four) = docP { first := 0, last := 0 } (.indented { first := 0, last := ls.length - 1, rows := ls }) 2 [] := by
    cases ls with
    | nil => simp at h1
    | cons a r =>
      have hax : a = x := by simpa using h1
      subst hax
      show St.readAll htmlL endsX 1 (St.start.read' 0 (four a)) (r.map four) = _
      rw [show St.start = docS { first := 0, last := 0 } 0 [] from rfl, code_first a hx]
      cases r with
      | nil => rfl
      | cons b t =>
        rw [code_all (b :: t) _ _ 2 [] 1 y (by simpa using h2) hy]
        simp only [List.cons_append, List.nil_append, List.length_cons]
        congr 4
        omega
  rw [hRA]
  have hcl : St.leave { docP { first := 0, last := 0 } (.indented { first := 0, last := ls.length - 1, rows := ls }) 2 [] with on := 1 } = docS { first := 0, last := ls.length - 1, held := true, gap := false, kids := .cons { kind := 6, text := endedL (ls.take (ls.length - 1 - 0 + 1)) } .nil .nil } 1 [] := by
    have : ls.length - 1 = max 0 (ls.length - 1) := by omega
    show docS { first := 0, last := max 0 (ls.length - 1), held := true, gap := false, kids := .cons { kind := 6, text := endedL (ls.take (ls.length - 1 - 0 + 1)) } .nil .nil } 1 [] = _
    rw [← this]
  have htk : ls.take (ls.length - 1 - 0 + 1) = ls := List.take_of_length_le (by omega)
  rw [htk] at hcl
  simp only
  rw [hcl, ended_cat]

/-! ### Between fences -/

abbrev infoT : Str := [105, 110, 102, 111]
abbrev fenceB (c : UInt8) : Str := [c, c, c, 32, 105, 110, 102, 111]

theorem beh_sub : ∀ (l : Str) (b : UInt8), b ∈ beh l → b ∈ l
  | [], b, h => h
  | a :: t, b, h => by
    unfold beh at h
    split at h
    · exact List.mem_cons_of_mem _ (beh_sub t b h)
    · exact h
theorem run_none {c : UInt8} {l : Str} (h : ∀ b ∈ l, b ≠ c) : runB c l = 0 := by
  unfold runB rowN
  cases l with
  | nil => rfl
  | cons a t =>
    have : (a == c) = false := by simpa using h a (List.mem_cons_self ..)
    rw [List.takeWhile_cons, this]
    rfl

theorem fence_first {c : UInt8} (hc : c = 96 ∨ c = 126) : St.start.read' 0 (fenceB c) = docP { first := 0, last := 0 } (.fenced { first := 0, last := 0 } c 3 0 infoT) 2 [] := by
  rcases hc with rfl | rfl
  · kernel_rfl
  · kernel_rfl
theorem fence_next (x : Str) {c : UInt8} (hx : ∀ b ∈ x, b ≠ c) (d : Box) (b : Body) (on : Nat) (df : List Df) (n : Nat) (info : Str) : (docP d (.fenced b c 3 0 info) on df).read' n x = docP d (.fenced { first := b.first, last := n, rows := b.rows ++ [x] } c 3 0 info) 2 df := by
  have ht : (Part.fenced b c 3 0 info).takes endsX n (x, 0, 0) = (2, true, .fenced { first := b.first, last := n, rows := b.rows ++ [x] } c 3 0 info, (x, 0, 0)) := by
    simp only [Part.takes]
    rw [if_neg (fun q => by
      have h := q.2
      unfold closesL at h
      rw [run_none (fun b hb => hx b (beh_sub x b hb))] at h
      simp at h
      exact absurd h.1 (by decide))]
    rfl
  refine read_two (σ1 := (x, 0, 0)) ?_
  rw [go_leaf n d _ rfl, ht]
  rfl
theorem fence_all {c : UInt8} (info : Str) (r : List Str) : ∀ (ls : List Str) (d : Box) (b : Body) (on : Nat) (df : List Df) (n : Nat), (∀ x ∈ ls, ∀ b ∈ x, b ≠ c) → ∃ b' : Body, b'.first = b.first ∧ b'.rows = b.rows ++ ls ∧
    St.readAll htmlL endsX n (docP d (.fenced b c 3 0 info) 2 df) (ls ++ r) = St.readAll htmlL endsX (n + ls.length) (docP d (.fenced b' c 3 0 info) 2 df) r
  | [], d, b, on, df, n, _ => ⟨b, rfl, by simp, rfl⟩
  | x :: t, d, b, on, df, n, h => by
    obtain ⟨b', h1, h2, h3⟩ := fence_all info r t d { first := b.first, last := n, rows := b.rows ++ [x] } 2 df (n + 1) (fun y hy => h y (List.mem_cons_of_mem _ hy))
    refine ⟨b', h1, by rw [h2]; simp, ?_⟩
    show St.readAll htmlL endsX (n + 1) ((docP d (.fenced b c 3 0 info) 2 df).read' n x) (t ++ r) = _
    rw [fence_next x (h x (List.mem_cons_self ..)), h3]
    congr 1
    simp only [List.length_cons]
    omega
theorem fence_end {c : UInt8} (hc : c = 96 ∨ c = 126) (d : Box) (b : Body) (df : List Df) (n : Nat) (info : Str) : (docP d (.fenced b c 3 0 info) 2 df).read' n [c, c, c] = docS (d.hold (.fenced { b with last := n } c 3 0 info)) 1 df := by
  rcases hc with rfl | rfl <;> rfl
theorem z_line (d : Box) (df : List Df) (n : Nat) : (docS d 1 df).read' n [122] = docP d (.para { first := n, last := n, rows := [[122]] } 0) 2 df := by kernel_rfl
theorem z_end (d : Box) (df : List Df) (n : Nat) : St.leave { docP d (.para { first := n, last := n, rows := [[122]] } 0) 2 df with on := 1 } = docS (d.hold (.para { first := n, last := n, rows := [[122]] } 0)) 1 df := rfl

theorem fence_parse {c : UInt8} (hc : c = 96 ∨ c = 126) (ls : List Str) (he : ∀ x ∈ ls, ∀ b ∈ x, notEnd b = true) (hn : ∀ x ∈ ls, ∀ b ∈ x, b ≠ c) :
    parseL (fenceB c ++ [10] ++ (ls.flatMap (fun x => x ++ [10]) ++ ([c, c, c] ++ [10] ++ [122]))) = (.cons { kind := 6, text := ls.flatMap (fun x => x ++ [10]), info := infoT } .nil (.cons { kind := 5, text := [122] } .nil .nil), []) := by
  have hl : lines (fenceB c ++ [10] ++ (ls.flatMap (fun x => x ++ [10]) ++ ([c, c, c] ++ [10] ++ [122]))) = fenceB c :: (ls ++ [[c, c, c], [122]]) := by
    rw [lines_part (fenceB c) [10] _ (by rcases hc with rfl | rfl <;> decide) (.inl rfl)]
    have h1 := lines_cat [] (by simp) ([c, c, c] ++ [10] ++ [122]) ls he
    have h2 : ls.flatMap (fun x => ([] : Str) ++ x ++ [10]) = ls.flatMap (fun x => x ++ [10]) := rfl
    rw [h2] at h1
    rw [h1, lines_part [c, c, c] [10] _ (by rcases hc with rfl | rfl <;> decide) (.inl rfl)]
    simp
    rfl
  unfold parseL St.parse
  rw [hl]
  obtain ⟨b', h1, h2, h3⟩ := fence_all infoT [[c, c, c], [122]] ls { first := 0, last := 0 } { first := 0, last := 0 } 2 [] 1 hn
  have hRA : St.readAll htmlL endsX 0 St.start (fenceB c :: (ls ++ [[c, c, c], [122]])) = docP (Box.hold { first := 0, last := 0 } (.fenced { b' with last := 1 + ls.length } c 3 0 infoT)) (.para { first := 1 + ls.length + 1, last := 1 + ls.length + 1, rows := [[122]] } 0) 2 [] := by
    show St.readAll htmlL endsX 1 (St.start.read' 0 (fenceB c)) (ls ++ [[c, c, c], [122]]) = _
    rw [fence_first hc, h3]
    show ((docP { first := 0, last := 0 } (.fenced b' c 3 0 infoT) 2 []).read' (1 + ls.length) [c, c, c]).read' (1 + ls.length + 1) [122] = _
    rw [fence_end hc, z_line]
  rw [hRA]
  simp only
  rw [z_end]
  have hk : (Box.hold (Box.hold { first := 0, last := 0 } (.fenced { b' with last := 1 + ls.length } c 3 0 infoT)) (.para { first := 1 + ls.length + 1, last := 1 + ls.length + 1, rows := [[122]] } 0)).kids = .cons { kind := 6, text := endedL b'.rows, info := infoT } .nil (.cons { kind := 5, text := [122] } .nil .nil) := rfl
  rw [← ended_cat, ← show b'.rows = ls from by rw [h2]; rfl]
  exact congrArg (fun q => (q, ([] : List Df))) hk

end Go.Proofs.YteonkgneicgkjaaGreatDoor

/- Plain mathematics: the lines' numbers do not matter, only how far apart they are. -/
namespace Go.Proofs.YteonkgneicgkjaaGreatDoor

def Box.sh (k : Nat) (b : Box) : Box := { b with first := b.first + k, last := b.last + k }
def Body.sh (k : Nat) (b : Body) : Body := { b with first := b.first + k, last := b.last + k }
/-- A part so many lines further down; of the document only what is in it. -/
def Part.sh (k : Nat) : Part → Part
  | .doc b => .doc { first := 0, last := 0, kids := b.kids }
  | .quote b => .quote (b.sh k)
  | .list b m => .list (b.sh k) m
  | .item b w => .item (b.sh k) w
  | .para b l => .para (b.sh k) l
  | .fenced b c z i t => .fenced (b.sh k) c z i t
  | .indented b => .indented (b.sh k)
  | .html b z => .html (b.sh k) z
  | .whole f l b => .whole (f + k) (l + k) b

theorem sh_zero {p : Part} (h : p.isDoc = false) : p.sh 0 = p := by cases p <;> first | rfl | cases h
theorem sh_told (k : Nat) (p : Part) : (p.sh k).told = p.told := by
  cases p with
  | para b l => cases l <;> rfl
  | indented b =>
    show some (({ kind := 6, text := endedL (b.rows.take (b.last + k - (b.first + k) + 1)) } : BI), Bs.nil) = _
    rw [show b.last + k - (b.first + k) = b.last - b.first by omega]
    rfl
  | _ => rfl
theorem sh_is (k : Nat) (p : Part) : (p.sh k).isC = p.isC ∧ (p.sh k).isList = p.isList ∧ (p.sh k).isPara = p.isPara ∧ (p.sh k).isDeep = p.isDeep ∧ (p.sh k).isDoc = p.isDoc ∧ St.listSign (p.sh k) = St.listSign p ∧ itemGap (p.sh k) = itemGap p := by
  cases p <;> exact ⟨rfl, rfl, rfl, rfl, rfl, rfl, rfl⟩
theorem sh_ext {k : Nat} {p : Part} (h : p.isDoc = false) : (p.sh k).ext = (p.ext.1 + k, p.ext.2 + k) := by
  cases p <;> first | rfl | cases h

/-- The same part, but for where it stands. -/
def PR (k : Nat) (p p' : Part) : Prop := p'.sh 0 = p.sh k

theorem PR.of {k : Nat} {p p' : Part} (h : PR k p p') (hd : p.isDoc = false) : p' = p.sh k := by
  have h1 : (p'.sh 0).isDoc = (p.sh k).isDoc := by rw [h]
  rw [(sh_is 0 p').2.2.2.2.1, (sh_is k p).2.2.2.2.1, hd] at h1
  rw [← sh_zero h1]
  exact h
theorem PR.sh (k : Nat) {p : Part} (hd : p.isDoc = false) : PR k p (p.sh k) := sh_zero (by rw [(sh_is k p).2.2.2.2.1]; exact hd)
theorem PR.is {k : Nat} {p p' : Part} (h : PR k p p') : p'.isC = p.isC ∧ p'.isList = p.isList ∧ p'.isPara = p.isPara ∧ p'.isDeep = p.isDeep ∧ p'.isDoc = p.isDoc ∧ St.listSign p' = St.listSign p ∧ p'.told = p.told := by
  have a := sh_is 0 p'
  have b := sh_is k p
  have h : p'.sh 0 = p.sh k := h
  rw [h] at a
  exact ⟨a.1.symm.trans b.1, a.2.1.symm.trans b.2.1, a.2.2.1.symm.trans b.2.2.1, a.2.2.2.1.symm.trans b.2.2.2.1, a.2.2.2.2.1.symm.trans b.2.2.2.2.1, a.2.2.2.2.2.1.symm.trans b.2.2.2.2.2.1, by rw [← sh_told 0 p', h, sh_told]⟩

theorem box_hold (k : Nat) (b : Box) (p : Part) (hd : p.isDoc = false) : (b.sh k).hold (p.sh k) = (b.hold p).sh k := by
  unfold Box.hold Box.sh
  simp only [sh_ext hd, sh_told]
  have h1 : max (b.last + k) (p.ext.2 + k) = max b.last p.ext.2 + k := by omega
  have h2 : decide (b.last + k + 1 < p.ext.1 + k) = decide (b.last + 1 < p.ext.1) := by
    rw [Bool.eq_iff_iff, decide_eq_true_eq, decide_eq_true_eq]; omega
  rw [h1, h2]
theorem PR.hold {k : Nat} {c c' p p' : Part} (hc : PR k c c') (hp : PR k p p') (hd : p.isDoc = false) : PR k (c.hold p) (c'.hold p') := by
  have e := hp.of hd
  subst e
  cases hcd : c.isDoc
  · have e := hc.of hcd
    subst e
    have key : (c.sh k).hold (p.sh k) = (c.hold p).sh k := by
      cases c with
      | doc b => cases hcd
      | quote b => exact congrArg Part.quote (box_hold k b p hd)
      | item b w => exact congrArg (fun q => Part.item q w) (box_hold k b p hd)
      | list b m =>
        show Part.list { (b.sh k).hold (p.sh k) with gap := ((b.sh k).hold (p.sh k)).gap || itemGap (p.sh k) } m = _
        rw [box_hold k b p hd, (sh_is k p).2.2.2.2.2.2]
        rfl
      | _ => rfl
    rw [key]
    exact PR.sh k (by cases c <;> first | rfl | (cases hcd; done))
  · have hcd' := hc.is.2.2.2.2.1
    rw [hcd] at hcd'
    cases c with
    | doc b =>
      cases c' with
      | doc b' =>
        have hk : b'.kids = b.kids := by
          have h : (Part.doc { first := 0, last := 0, kids := b'.kids }) = .doc { first := 0, last := 0, kids := b.kids } := hc
          simpa using h
        show Part.doc { first := 0, last := 0, kids := (b'.hold (p.sh k)).kids } = Part.doc { first := 0, last := 0, kids := (b.hold p).kids }
        have : (b'.hold (p.sh k)).kids = (b.hold p).kids := by
          unfold Box.hold
          simp only [sh_told, hk]
        rw [this]
      | _ => cases hcd'
    | _ => cases hcd

/-- Rows of parts. -/
def LR (k : Nat) (l l' : List Part) : Prop := l'.map (Part.sh 0) = l.map (Part.sh k) ∧ ∀ p ∈ l.tail, p.isDoc = false

theorem LR.len {k : Nat} {l l' : List Part} (h : LR k l l') : l'.length = l.length := by
  have := congrArg List.length h.1
  simpa using this
theorem LR.at {k : Nat} {l l' : List Part} (h : LR k l l') {i : Nat} {p : Part} (hp : l[i]? = some p) : ∃ p', l'[i]? = some p' ∧ PR k p p' := by
  have h1 : (l'.map (Part.sh 0))[i]? = some (p.sh k) := by rw [h.1, List.getElem?_map, hp]; rfl
  rw [List.getElem?_map] at h1
  cases hq : l'[i]? with
  | none => rw [hq] at h1; cases h1
  | some p' => rw [hq] at h1; exact ⟨p', rfl, by show p'.sh 0 = p.sh k; simpa using h1⟩
theorem LR.nd {k : Nat} {l l' : List Part} (h : LR k l l') {i : Nat} {p : Part} (hp : l[i + 1]? = some p) : p.isDoc = false := by
  refine h.2 p ?_
  cases l with
  | nil => simp at hp
  | cons a t => exact List.mem_of_getElem? (by simpa using hp)
theorem LR.last {k : Nat} {l l' : List Part} (h : LR k l l') {p : Part} (hp : l.getLast? = some p) : ∃ p', l'.getLast? = some p' ∧ PR k p p' := by
  rw [List.getLast?_eq_getElem?] at hp
  obtain ⟨p', h1, h2⟩ := h.at hp
  exact ⟨p', by rw [List.getLast?_eq_getElem?, h.len]; exact h1, h2⟩
theorem LR.lastNone {k : Nat} {l l' : List Part} (h : LR k l l') (hp : l.getLast? = none) : l'.getLast? = none := by
  rw [List.getLast?_eq_none_iff] at hp ⊢
  have := h.len
  rw [hp] at this
  exact List.length_eq_zero_iff.1 this
theorem LR.dropLast {k : Nat} {l l' : List Part} (h : LR k l l') : LR k l.dropLast l'.dropLast := by
  refine ⟨by rw [List.map_dropLast, List.map_dropLast, h.1], fun p hp => h.2 p ?_⟩
  rw [List.tail_dropLast] at hp
  exact List.dropLast_subset _ hp
theorem LR.take {k : Nat} {l l' : List Part} (h : LR k l l') (n : Nat) : LR k (l.take n) (l'.take n) := by
  refine ⟨by rw [List.map_take, List.map_take, h.1], fun p hp => h.2 p ?_⟩
  cases l with
  | nil => simp at hp
  | cons a t =>
    cases n with
    | zero => simp at hp
    | succ n => simp at hp; exact List.mem_of_mem_take hp
theorem LR.snoc {k : Nat} {l l' : List Part} {p p' : Part} (h : LR k l l') (hp : PR k p p') (hd : l = [] ∨ p.isDoc = false) : LR k (l ++ [p]) (l' ++ [p']) := by
  refine ⟨by rw [List.map_append, List.map_append, h.1]; simp only [List.map_cons, List.map_nil]; rw [show p'.sh 0 = p.sh k from hp], fun q hq => ?_⟩
  cases l with
  | nil => simp at hq
  | cons a t =>
    simp at hq
    rcases hq with q1 | q1
    · exact h.2 q q1
    · subst q1
      rcases hd with hd | hd
      · cases hd
      · exact hd
theorem LR.count {k : Nat} {l l' : List Part} (h : LR k l l') : l'.countP Part.isDeep = l.countP Part.isDeep := by
  have h1 : ∀ (m : List Part) (j : Nat), (m.map (Part.sh j)).countP Part.isDeep = m.countP Part.isDeep := fun m j => by
    rw [List.countP_map]
    congr 1
    funext p
    exact (sh_is j p).2.2.2.1
  rw [← h1 l' 0, h.1, h1]

/-- Readers that are the same but for the lines' numbers. -/
structure SR (k : Nat) (s s' : St) : Prop where
  opens : LR k s.opens s'.opens
  on : s'.on = s.on
  defs : s'.defs = s.defs

theorem SR.hasPara {k : Nat} {s s' : St} (h : SR k s s') : s'.hasPara = s.hasPara := by
  unfold St.hasPara
  cases hq : s.opens.getLast? with
  | none => rw [h.opens.lastNone hq]
  | some p => obtain ⟨p', h1, h2⟩ := h.opens.last hq; rw [h1]; exact h2.is.2.2.1
theorem SR.inList {k : Nat} {s s' : St} (h : SR k s s') : s'.inList = s.inList := by
  unfold St.inList
  cases hq : s.opens.getLast? with
  | none => rw [h.opens.lastNone hq]
  | some p => obtain ⟨p', h1, h2⟩ := h.opens.last hq; rw [h1]; exact h2.is.2.1
theorem SR.sign {k : Nat} {s s' : St} (h : SR k s s') : s'.opens.getLast?.bind St.listSign = s.opens.getLast?.bind St.listSign := by
  cases hq : s.opens.getLast? with
  | none => rw [h.opens.lastNone hq]
  | some p => obtain ⟨p', h1, h2⟩ := h.opens.last hq; rw [h1]; exact h2.is.2.2.2.2.2.1
theorem SR.isClose {k : Nat} {s s' : St} (h : SR k s s') : s'.isClose = s.isClose := by
  unfold St.isClose
  rw [h.hasPara, h.on, h.opens.len]
theorem SR.room {k : Nat} {s s' : St} (h : SR k s s') : s'.room = s.room := by
  unfold St.room
  rw [h.on, (h.opens.take s.on).count]

theorem takeOff_sh (k : Nat) (p : Part) (d : List Df) : St.takeOff (p.sh k) d = ((St.takeOff p d).1.sh k, (St.takeOff p d).2) := by cases p <;> rfl
theorem SR.close {k : Nat} {s s' : St} (h : SR k s s') (h2 : 2 ≤ s.opens.length) : SR k s.close s'.close := by
  obtain ⟨n, hn⟩ : ∃ n, s.opens.length = n + 2 := ⟨s.opens.length - 2, by omega⟩
  obtain ⟨p, hp⟩ : ∃ p, s.opens[n + 1]? = some p := ⟨_, List.getElem?_eq_getElem (by omega)⟩
  have hl : s.opens.getLast? = some p := by rw [List.getLast?_eq_getElem?, hn]; exact hp
  have hd := h.opens.nd hp
  obtain ⟨p', hl', hpp⟩ := h.opens.last hl
  have e := hpp.of hd
  subst e
  unfold St.close
  rw [hl, hl']
  simp only
  rw [takeOff_sh, h.defs, h.on, h.opens.len]
  have hdt : (St.takeOff p s.defs).1.isDoc = false := by cases p <;> first | rfl | (cases hd; done)
  refine ⟨?_, rfl, rfl⟩
  unfold St.holdLast
  obtain ⟨c, hc⟩ : ∃ c, s.opens.dropLast.getLast? = some c := by
    cases hq : s.opens.dropLast.getLast? with
    | none => rw [List.getLast?_eq_none_iff] at hq; have := congrArg List.length hq; rw [List.length_dropLast, hn] at this; simp at this
    | some c => exact ⟨c, rfl⟩
  obtain ⟨c', hc', hcc⟩ := h.opens.dropLast.last hc
  simp only
  rw [hc, hc']
  refine h.opens.dropLast.dropLast.snoc (hcc.hold (PR.sh k hdt) hdt) ?_
  rcases Nat.eq_zero_or_pos n with e | e
  · left
    refine List.length_eq_zero_iff.1 ?_
    rw [List.length_dropLast, List.length_dropLast, hn, e]
  · right
    have hcn : s.opens[n]? = some c := by
      rw [List.getLast?_eq_getElem?, List.length_dropLast, hn, List.getElem?_dropLast, hn, show n + 2 - 1 - 1 = n by omega, if_pos (by omega)] at hc
      exact hc
    obtain ⟨j, hj⟩ : ∃ j, n = j + 1 := ⟨n - 1, by omega⟩
    rw [hj] at hcn
    have hcd := h.opens.nd hcn
    cases c <;> first | rfl | (cases hcd; done)

end Go.Proofs.YteonkgneicgkjaaGreatDoor

/- Plain mathematics: the lines' numbers do not matter: what a line does. -/
namespace Go.Proofs.YteonkgneicgkjaaGreatDoor

theorem close_len' {s : St} (h2 : 2 ≤ s.opens.length) : s.close.opens.length = s.opens.length - 1 ∧ s.close.on = min s.on (s.opens.length - 1) := by
  obtain ⟨n, hn⟩ : ∃ n, s.opens.length = n + 2 := ⟨s.opens.length - 2, by omega⟩
  obtain ⟨p, hp⟩ : ∃ p, s.opens[n + 1]? = some p := ⟨_, List.getElem?_eq_getElem (by omega)⟩
  obtain ⟨c, hc⟩ : ∃ c, s.opens[n]? = some c := ⟨_, List.getElem?_eq_getElem (by omega)⟩
  rw [close_eq hn hp hc, hn]
  exact ⟨by show (List.set _ _ _).length = _; rw [List.length_set, List.length_take, List.length_set, hn]; omega, rfl⟩
theorem SR.leaveF {k : Nat} : ∀ (f : Nat) {s s' : St}, SR k s s' → 1 ≤ s.on → SR k (St.leaveF f s) (St.leaveF f s') ∧ 1 ≤ (St.leaveF f s).on
  | 0, s, s', h, h1 => ⟨h, h1⟩
  | f + 1, s, s', h, h1 => by
    simp only [St.leaveF]
    rw [h.on, h.opens.len]
    split
    · rename_i hlt
      have h2 : 2 ≤ s.opens.length := by omega
      exact SR.leaveF f (h.close h2) (by rw [(close_len' h2).2]; omega)
    · exact ⟨h, h1⟩
theorem SR.leave {k : Nat} {s s' : St} (h : SR k s s') (h1 : 1 ≤ s.on) : SR k s.leave s'.leave ∧ 1 ≤ s.leave.on := by
  unfold St.leave
  rw [h.opens.len]
  exact h.leaveF _ h1
/-- The first part is the document. -/
def Doc1 (s : St) : Prop := ∃ b, s.opens[0]? = some (.doc b)
theorem para_len {s : St} (hd : Doc1 s) (hp : s.hasPara = true ∨ s.inList = true) : 2 ≤ s.opens.length := by
  obtain ⟨b, hb⟩ := hd
  rcases Nat.lt_or_ge s.opens.length 2 with q | q
  · have hl := (List.getElem?_eq_some_iff.1 hb).1
    have : s.opens.getLast? = some (.doc b) := by rw [List.getLast?_eq_getElem?, show s.opens.length - 1 = 0 by omega]; exact hb
    unfold St.hasPara St.inList at hp
    rw [this] at hp
    simp [Part.isPara, Part.isList] at hp
  · exact q
theorem Doc1.close {s : St} (h : Doc1 s) (h2 : 2 ≤ s.opens.length) : Doc1 s.close := by
  obtain ⟨b, hb⟩ := h
  obtain ⟨n, hn⟩ : ∃ n, s.opens.length = n + 2 := ⟨s.opens.length - 2, by omega⟩
  obtain ⟨p, hp⟩ : ∃ p, s.opens[n + 1]? = some p := ⟨_, List.getElem?_eq_getElem (by omega)⟩
  obtain ⟨c, hc⟩ : ∃ c, s.opens[n]? = some c := ⟨_, List.getElem?_eq_getElem (by omega)⟩
  rw [close_eq hn hp hc]
  unfold Doc1
  simp only
  rcases Nat.eq_zero_or_pos n with e | e
  · subst e
    rw [hb] at hc
    cases hc
    exact ⟨_, List.getElem?_set_self (by rw [List.length_take, List.length_set, hn]; omega)⟩
  · exact ⟨b, by rw [List.getElem?_set_ne (by omega), List.getElem?_take_of_lt (by omega), List.getElem?_set_ne (by omega)]; exact hb⟩
theorem Doc1.leaveF : ∀ (f : Nat) {s : St}, Doc1 s → 1 ≤ s.on → Doc1 (St.leaveF f s)
  | 0, s, h, _ => h
  | f + 1, s, h, h1 => by
    simp only [St.leaveF]
    split
    · have h2 : 2 ≤ s.opens.length := by omega
      exact Doc1.leaveF f (h.close h2) (by rw [(close_len' h2).2]; omega)
    · exact h

/-- Readers alike, while a line is read. -/
structure TR (k : Nat) (s s' : St) : Prop where
  sr : SR k s s'
  doc : Doc1 s
  on : 1 ≤ s.on

theorem TR.close {k : Nat} {s s' : St} (h : TR k s s') (h2 : 2 ≤ s.opens.length) : TR k s.close s'.close := ⟨h.sr.close h2, h.doc.close h2, by rw [(close_len' h2).2]; have := h.on; omega⟩
theorem TR.leave {k : Nat} {s s' : St} (h : TR k s s') : TR k s.leave s'.leave := ⟨(h.sr.leave h.on).1, Doc1.leaveF _ h.doc h.on, (h.sr.leave h.on).2⟩
theorem TR.clear {k : Nat} {s s' : St} (h : TR k s s') : TR k s.clear s'.clear := by
  unfold St.clear
  rw [h.leave.sr.hasPara]
  split
  · rename_i hp
    exact h.leave.close (para_len h.leave.doc (.inl hp))
  · exact h.leave
theorem TR.push {k : Nat} {s s' : St} (h : TR k s s') {p p' : Part} (hp : PR k p p') (hd : p.isDoc = false) : TR k (s.push p) (s'.push p') := by
  refine ⟨⟨h.sr.opens.snoc hp (.inr hd), by show s'.opens.length + 1 = s.opens.length + 1; rw [h.sr.opens.len], h.sr.defs⟩, ?_, Nat.succ_le_succ (Nat.zero_le _)⟩
  obtain ⟨b, hb⟩ := h.doc
  exact ⟨b, by show (s.opens ++ [p])[0]? = _; rw [List.getElem?_append_left (List.getElem?_eq_some_iff.1 hb).1]; exact hb⟩
theorem TR.stand {k : Nat} {s s' : St} (h : TR k s s') {p p' : Part} (hp : PR k p p') (hd : p.isDoc = false) : TR k (s.stand p) (s'.stand p') := by
  unfold St.stand
  rw [h.clear.sr.inList]
  split
  · rename_i hi
    exact (h.clear.close (para_len h.clear.doc (.inr hi))).push hp hd
  · exact h.clear.push hp hd
theorem push_len (s : St) (p : Part) : (s.push p).opens.length = s.opens.length + 1 := by
  show (s.opens ++ [p]).length = _
  simp
theorem TR.two {k : Nat} {s s' : St} (h : TR k s s') (p : Part) : 2 ≤ (s.stand p).opens.length := by
  have pos : ∀ t : St, Doc1 t → 1 ≤ t.opens.length := fun t ⟨b, hb⟩ => (List.getElem?_eq_some_iff.1 hb).1
  unfold St.stand
  split
  · rename_i hi
    rw [push_len]
    have := pos _ (h.clear.close (para_len h.clear.doc (.inr hi))).doc
    omega
  · rw [push_len]
    have := pos _ h.clear.doc
    omega

theorem goes_sh (k n : Nat) (f : Bool) (σ : Pl) {p p' : Part} (h : PR k p p') : (p'.goesOn (n + k) f σ).1 = (p.goesOn n f σ).1 ∧ PR k (p.goesOn n f σ).2.1 (p'.goesOn (n + k) f σ).2.1 ∧ (p'.goesOn (n + k) f σ).2.2 = (p.goesOn n f σ).2.2 := by
  cases hd : p.isDoc
  · have e := h.of hd
    subst e
    cases p with
    | doc b => cases hd
    | quote b => simp only [Part.sh, Part.goesOn]; split <;> exact ⟨rfl, rfl, rfl⟩
    | item b w => simp only [Part.sh, Part.goesOn, Box.sh]; repeat' split
                  all_goals exact ⟨rfl, rfl, rfl⟩
    | _ => exact ⟨rfl, rfl, rfl⟩
  · have hd' := h.is.2.2.2.2.1
    rw [hd] at hd'
    cases p with
    | doc b => cases p' with
      | doc b' => exact ⟨rfl, h, rfl⟩
      | _ => cases hd'
    | _ => cases hd
theorem takes_sh (k n : Nat) (σ : Pl) {p : Part} (hd : p.isDoc = false) : (p.sh k).takes endsX (n + k) σ = ((p.takes endsX n σ).1, (p.takes endsX n σ).2.1, (p.takes endsX n σ).2.2.1.sh k, (p.takes endsX n σ).2.2.2) := by
  cases p with
  | doc b => cases hd
  | fenced b c z i t => simp only [Part.sh, Part.takes]; split <;> rfl
  | indented b =>
    simp only [Part.sh, Part.takes]
    split
    · rfl
    · simp only [takeI, Body.add, Body.sh]
      split <;> rfl
  | html b z => simp only [Part.sh, Part.takes]; split <;> rfl
  | _ => rfl
theorem takes_doc (n : Nat) (σ : Pl) (p : Part) : (p.takes endsX n σ).2.2.1.isDoc = p.isDoc := by
  cases p with
  | fenced b c z i t => simp only [Part.takes]; split <;> rfl
  | indented b => simp only [Part.takes]; split <;> rfl
  | html b z => simp only [Part.takes]; split <;> rfl
  | _ => rfl
theorem goes_docs (n : Nat) (f : Bool) (σ : Pl) (p : Part) : (p.goesOn n f σ).2.1.isDoc = p.isDoc := by
  cases p with
  | quote b => simp only [Part.goesOn]; split <;> rfl
  | item b w => simp only [Part.goesOn]; repeat' split
                all_goals rfl
  | _ => rfl

end Go.Proofs.YteonkgneicgkjaaGreatDoor

/- Plain mathematics: the lines' numbers do not matter: a line, and all lines. -/
namespace Go.Proofs.YteonkgneicgkjaaGreatDoor

theorem tail_doc {a b : List Part} (h : b.map Part.isDoc = a.map Part.isDoc) (ha : ∀ p ∈ a.tail, p.isDoc = false) : ∀ p ∈ b.tail, p.isDoc = false := by
  intro p hp
  have h1 : b.tail.map Part.isDoc = a.tail.map Part.isDoc := by rw [List.map_tail, List.map_tail, h]
  have h2 : p.isDoc ∈ b.tail.map Part.isDoc := List.mem_map_of_mem hp
  rw [h1] at h2
  obtain ⟨q, hq, e⟩ := List.mem_map.1 h2
  rw [← e]
  exact ha q hq

theorem goF_sh (k n len : Nat) : ∀ (l l' : List Part) (i : Nat) (σ : Pl), l'.map (Part.sh 0) = l.map (Part.sh k) → (goF (n + k) len l' i σ).1.map (Part.sh 0) = (goF n len l i σ).1.map (Part.sh k) ∧ (goF (n + k) len l' i σ).2 = (goF n len l i σ).2 ∧ (goF n len l i σ).1.map Part.isDoc = l.map Part.isDoc
  | [], l', i, σ, h => by
    have : l' = [] := by simpa using h
    subst this
    exact ⟨rfl, rfl, rfl⟩
  | p :: r, [], i, σ, h => by simp at h
  | p :: r, p' :: r', i, σ, h => by
    have hp : PR k p p' := by simp only [List.map_cons, List.cons.injEq] at h; exact h.1
    have hr : r'.map (Part.sh 0) = r.map (Part.sh k) := by simp only [List.map_cons, List.cons.injEq] at h; exact h.2
    simp only [goF]
    rw [hp.is.1]
    by_cases hc : p.isC = false
    · rw [if_pos hc, if_pos hc]
      obtain ⟨a, b, c⟩ := goF_sh k n len r r' (i + 1) σ hr
      refine ⟨?_, b, ?_⟩
      · simp only [List.map_cons, a]
        rw [show p'.sh 0 = p.sh k from hp]
      · simp only [List.map_cons, c]
    · rw [if_neg hc, if_neg hc]
      obtain ⟨g1, g2, g3⟩ := goes_sh k n (decide (i + 1 < len)) σ hp
      rw [g1, g3]
      by_cases hg : (p.goesOn n (decide (i + 1 < len)) σ).1 = false
      · rw [if_pos hg, if_pos hg]
        refine ⟨?_, rfl, ?_⟩
        · simp only [List.map_cons, hr]
          rw [show (p'.goesOn (n + k) (decide (i + 1 < len)) σ).2.1.sh 0 = (p.goesOn n (decide (i + 1 < len)) σ).2.1.sh k from g2]
        · simp only [List.map_cons, goes_docs]
      · rw [if_neg hg, if_neg hg]
        obtain ⟨a, b, c⟩ := goF_sh k n len r r' (i + 1) (p.goesOn n (decide (i + 1 < len)) σ).2.2 hr
        refine ⟨?_, b, ?_⟩
        · simp only [List.map_cons, a]
          rw [show (p'.goesOn (n + k) (decide (i + 1 < len)) σ).2.1.sh 0 = (p.goesOn n (decide (i + 1 < len)) σ).2.1.sh k from g2]
        · simp only [List.map_cons, goes_docs, c]

theorem doc_at {a b : List Part} (h : b.map Part.isDoc = a.map Part.isDoc) (ha : ∃ x, a[0]? = some (.doc x)) : ∃ x, b[0]? = some (.doc x) := by
  obtain ⟨x, hx⟩ := ha
  have h1 : (b.map Part.isDoc)[0]? = some true := by rw [h, List.getElem?_map, hx]; rfl
  rw [List.getElem?_map] at h1
  cases hq : b[0]? with
  | none => rw [hq] at h1; cases h1
  | some p =>
    rw [hq] at h1
    cases p <;> first | exact ⟨_, rfl⟩ | (simp [Part.isDoc] at h1)

/-- Readers alike between two lines. -/
structure QR (k : Nat) (s s' : St) : Prop where
  opens : LR k s.opens s'.opens
  defs : s'.defs = s.defs
  doc : Doc1 s

theorem TR.q {k : Nat} {s s' : St} (h : TR k s s') : QR k s s' := ⟨h.sr.opens, h.sr.defs, h.doc⟩

theorem goOn_sh {k n : Nat} {s s' : St} (h : QR k s s') (σ : Pl) : (s'.goOn endsX (n + k) σ).1 = (s.goOn endsX n σ).1 ∧ QR k (s.goOn endsX n σ).2.1 (s'.goOn endsX (n + k) σ).2.1 ∧ (s'.goOn endsX (n + k) σ).2.2 = (s.goOn endsX n σ).2.2 ∧ (s'.goOn endsX (n + k) σ).2.1.on = (s.goOn endsX n σ).2.1.on := by
  obtain ⟨a, b, c⟩ := goF_sh k n s.opens.length s.opens s'.opens 0 σ h.opens.1
  obtain ⟨o, τ, e, hg⟩ : ∃ o τ e, goF n s.opens.length s.opens 0 σ = (o, τ, e) := ⟨_, _, _, rfl⟩
  obtain ⟨o', hg'⟩ : ∃ o', goF (n + k) s'.opens.length s'.opens 0 σ = (o', τ, e) := by
    rw [h.opens.len]
    rw [hg] at b
    exact ⟨_, Prod.ext rfl b⟩
  rw [h.opens.len] at hg'
  rw [hg, hg'] at a
  rw [hg] at c
  have hL : LR k o o' := ⟨a, tail_doc c h.opens.2⟩
  have hD : ∃ x, o[0]? = some (.doc x) := doc_at c h.doc
  rw [← h.opens.len] at hg'
  cases e with
  | some j =>
    rw [goOn_some hg, goOn_some hg']
    exact ⟨rfl, ⟨hL, h.defs, hD⟩, rfl, rfl⟩
  | none =>
    obtain ⟨p, hp⟩ : ∃ p, o.getLast? = some p := by
      obtain ⟨x, hx⟩ := hD
      cases hq : o.getLast? with
      | none => rw [List.getLast?_eq_none_iff] at hq; rw [hq] at hx; simp at hx
      | some p => exact ⟨p, rfl⟩
    obtain ⟨p', hp', hpp⟩ := hL.last hp
    have hln : p'.isLined = p.isLined := by
      have h1 : (p'.sh 0).isLined = (p.sh k).isLined := by rw [show p'.sh 0 = p.sh k from hpp]
      have h2 : ∀ (q : Part) (j : Nat), (q.sh j).isLined = q.isLined := fun q j => by cases q <;> rfl
      rwa [h2, h2] at h1
    cases hl : p.isLined
    · rw [goOn_stay hg hp hl, goOn_stay hg' hp' (hln.trans hl)]
      exact ⟨rfl, ⟨hL, h.defs, hD⟩, rfl, hL.len⟩
    · rw [goOn_takes hg hp hl, goOn_takes hg' hp' (hln.trans hl)]
      have hd : p.isDoc = false := by cases p <;> first | rfl | (cases hl; done)
      have e := hpp.of hd
      subst e
      rw [takes_sh k n τ hd]
      have hS : TR k { s with opens := o.dropLast ++ [(p.takes endsX n τ).2.2.1], on := o.length } { s' with opens := o'.dropLast ++ [(p.takes endsX n τ).2.2.1.sh k], on := o'.length } := by
        have hne : 2 ≤ o.length := by
          obtain ⟨x, hx⟩ := hD
          rcases Nat.lt_or_ge o.length 2 with q | q
          · have hl2 := (List.getElem?_eq_some_iff.1 hx).1
            rw [List.getLast?_eq_getElem?, show o.length - 1 = 0 by omega, hx] at hp
            cases hp
            cases hd
          · exact q
        have hdl : o.dropLast ≠ [] := fun e => by have := congrArg List.length e; rw [List.length_dropLast] at this; simp at this; omega
        refine ⟨⟨hL.dropLast.snoc (PR.sh k (by rw [takes_doc]; exact hd)) (.inr (by rw [takes_doc]; exact hd)), hL.len, h.defs⟩, ?_, by show 1 ≤ o.length; omega⟩
        obtain ⟨x, hx⟩ := hD
        exact ⟨x, by show (o.dropLast ++ [_])[0]? = _; rw [List.getElem?_append_left (by rw [List.length_dropLast]; omega), List.getElem?_dropLast, if_pos (by omega)]; exact hx⟩
      have h2 : 2 ≤ (o.dropLast ++ [(p.takes endsX n τ).2.2.1]).length := by
        obtain ⟨x, hx⟩ := hD
        rw [List.length_append, List.length_dropLast]
        simp only [List.length_cons, List.length_nil]
        rcases Nat.lt_or_ge o.length 2 with q | q
        · have hl2 := (List.getElem?_eq_some_iff.1 hx).1
          rw [List.getLast?_eq_getElem?, show o.length - 1 = 0 by omega, hx] at hp
          cases hp
          cases hd
        · omega
      refine ⟨rfl, ?_, rfl, ?_⟩
      · simp only
        split
        · exact hS.q
        · exact (hS.close h2).q
      · simp only
        split
        · exact hL.len
        · exact (hS.close h2).sr.on

theorem body_sh (n k : Nat) (s : Str) : (Body.add { first := n + k, last := n + k } (n + k) s) = (Body.add { first := n, last := n } n s).sh k := rfl
theorem takeI_sh (n k : Nat) (σ : Pl) : takeI { first := n + k, last := n + k } (n + k) σ = (takeI { first := n, last := n } n σ).sh k := by
  unfold takeI Body.add Body.sh
  simp only
  split <;> rfl

theorem under_sh {k n lv : Nat} {s s' : St} (h : TR k s s') (hc : s.isClose = true) : (s'.underline (n + k) lv).1 = (s.underline n lv).1 ∧ TR k (s.underline n lv).2 (s'.underline (n + k) lv).2 := by
  obtain ⟨x, l, hlast⟩ := isClose_para hc
  obtain ⟨p', hp', hpp⟩ := h.sr.opens.last hlast
  have e := hpp.of rfl
  subst e
  have h2 : 2 ≤ s.opens.length := para_len h.doc (.inl (by unfold St.hasPara; rw [hlast]; rfl))
  have key : ∀ (p : Part) (d : List Df), p.isDoc = false → TR k (St.close { s with opens := s.opens.dropLast ++ [p], defs := d }) (St.close { s' with opens := s'.opens.dropLast ++ [p.sh k], defs := d }) := by
    intro p d hd
    refine TR.close ⟨⟨h.sr.opens.dropLast.snoc (PR.sh k hd) (.inr hd), h.sr.on, rfl⟩, ?_, h.on⟩ ?_
    · obtain ⟨b, hb⟩ := h.doc
      exact ⟨b, by show (s.opens.dropLast ++ [p])[0]? = _; rw [List.getElem?_append_left (by rw [List.length_dropLast]; omega), List.getElem?_dropLast, if_pos (by omega)]; exact hb⟩
    · show 2 ≤ (s.opens.dropLast ++ [p]).length
      rw [List.length_append, List.length_dropLast]
      simp only [List.length_cons, List.length_nil]
      omega
  unfold St.underline
  rw [hlast, hp']
  simp only [Part.sh, Body.sh, h.sr.defs]
  split
  · exact ⟨rfl, key (.para { x with rows := offRows x.rows s.defs } l) _ rfl⟩
  · exact ⟨rfl, key (.para { x with rows := offRows x.rows s.defs, last := n } lv) _ rfl⟩

theorem begin_sh {k n : Nat} {s s' : St} (h : TR k s s') (σ : Pl) : (s'.begin' (n + k) σ).1 = (s.begin' n σ).1 ∧ TR k (s.begin' n σ).2.1 (s'.begin' (n + k) σ).2.1 ∧ (s'.begin' (n + k) σ).2.2 = (s.begin' n σ).2.2 := by
  unfold St.begin' St.begin
  simp only
  rw [h.sr.room, h.sr.hasPara, h.sr.isClose]
  split
  · unfold St.beginIndented
    rw [h.sr.hasPara]
    split
    · exact ⟨rfl, h, rfl⟩
    · refine ⟨rfl, ?_, rfl⟩
      simp only
      rw [takeI_sh]
      exact h.stand (PR.sh k rfl) rfl
  split
  · exact ⟨rfl, h.stand (PR.sh k (p := .quote { first := n, last := n }) rfl) rfl, rfl⟩
  split
  · exact ⟨rfl, (h.stand (PR.sh k (p := .whole n n { kind := 4, level := (headL (beh σ.1)).1, text := (headL (beh σ.1)).2 }) rfl) rfl).close (h.two _), rfl⟩
  split
  · exact ⟨rfl, h.stand (PR.sh k (p := .fenced { first := n, last := n } (fenceL (beh σ.1)).1 (fenceL (beh σ.1)).2.1 (indR σ) (fenceL (beh σ.1)).2.2) rfl) rfl, rfl⟩
  split
  · refine ⟨rfl, ?_, rfl⟩
    have ht := takes_sh k n σ (p := .html { first := n, last := n } (htmlL (beh σ.1))) rfl
    have hd : ((Part.html { first := n, last := n } (htmlL (beh σ.1))).takes endsX n σ).2.2.1.isDoc = false := by rw [takes_doc]; rfl
    have ht : (Part.html { first := n + k, last := n + k } (htmlL (beh σ.1))).takes endsX (n + k) σ = _ := ht
    show TR k (s.beginHtml endsX n σ (htmlL (beh σ.1))) (s'.beginHtml endsX (n + k) σ (htmlL (beh σ.1)))
    unfold St.beginHtml
    rw [ht]
    simp only
    split
    · exact h.stand (PR.sh k hd) hd
    · exact (h.stand (PR.sh k hd) hd).close (h.two _)
  split
  · rename_i hu
    obtain ⟨a, b⟩ := under_sh (n := n) (lv := underL (beh σ.1)) h hu.2
    exact ⟨a, b, rfl⟩
  split
  · exact ⟨rfl, (h.stand (PR.sh k (p := .whole n n { kind := 8 }) rfl) rfl).close (h.two _), rfl⟩
  split
  · refine ⟨rfl, ?_, rfl⟩
    unfold St.beginItem
    simp only
    rw [h.clear.sr.sign]
    refine TR.push ?_ (PR.sh k (p := .item { first := n, last := n } (indR σ + (St.markOf (beh σ.1)).size + (St.padding (moveR (St.markOf (beh σ.1)).size σ)).1)) rfl) rfl
    split
    · exact h.clear
    · exact h.clear.stand (PR.sh k (p := .list { first := n, last := n } (St.markOf (beh σ.1))) rfl) rfl
  · exact ⟨rfl, h, rfl⟩

theorem text_sh {k n : Nat} {s s' : St} (h : TR k s s') (σ : Pl) : TR k (s.text n σ) (s'.text (n + k) σ) := by
  unfold St.text
  split
  · exact h.clear
  · have hnew : TR k (s.stand (.para (Body.add { first := n, last := n } n (beh σ.1)) 0)) (s'.stand (.para (Body.add { first := n + k, last := n + k } (n + k) (beh σ.1)) 0)) := by
      rw [body_sh]
      exact h.stand (PR.sh k rfl) rfl
    cases hq : s.opens.getLast? with
    | none => rw [h.sr.opens.lastNone hq]; exact hnew
    | some p =>
      obtain ⟨p', hp', hpp⟩ := h.sr.opens.last hq
      rw [hp']
      cases hd : p.isDoc
      · have e := hpp.of hd
        subst e
        cases p with
        | para b l =>
          simp only [Part.sh]
          refine ⟨⟨h.sr.opens.dropLast.snoc (PR.sh k (p := .para (b.add n (beh σ.1)) l) rfl) (.inr rfl), h.sr.on, h.sr.defs⟩, ?_, h.on⟩
          have h2 : 2 ≤ s.opens.length := para_len h.doc (.inl (by unfold St.hasPara; rw [hq]; rfl))
          obtain ⟨x, hx⟩ := h.doc
          exact ⟨x, by show (s.opens.dropLast ++ [_])[0]? = _; rw [List.getElem?_append_left (by rw [List.length_dropLast]; omega), List.getElem?_dropLast, if_pos (by omega)]; exact hx⟩
        | _ => exact hnew
      · have hd' := hpp.is.2.2.2.2.1
        rw [hd] at hd'
        cases p with
        | doc b => cases p' with
          | doc b' => exact hnew
          | _ => cases hd'
        | _ => cases hd

theorem begins_sh (k n : Nat) : ∀ (f : Nat) {s s' : St} (σ : Pl), TR k s s' → (St.beginsF htmlL endsX (n + k) f s' σ).1 = (St.beginsF htmlL endsX n f s σ).1 ∧ TR k (St.beginsF htmlL endsX n f s σ).2.1 (St.beginsF htmlL endsX (n + k) f s' σ).2.1 ∧ (St.beginsF htmlL endsX (n + k) f s' σ).2.2 = (St.beginsF htmlL endsX n f s σ).2.2
  | 0, s, s', σ, h => ⟨rfl, h, rfl⟩
  | f + 1, s, s', σ, h => by
    obtain ⟨a, b, c⟩ := begin_sh (n := n) h σ
    by_cases h0 : (s.begin' n σ).1 = 0
    · rw [begins_zero h0, begins_zero (a.trans h0), c]
      exact begins_sh k n f _ b
    · rw [begins_else h0, begins_else (by rw [a]; exact h0)]
      exact ⟨a, b, c⟩

theorem goOn_basic {n : Nat} {s : St} (hd : Doc1 s) (σ : Pl) : ((s.goOn endsX n σ).1 = 0 ∨ (s.goOn endsX n σ).1 = 2) ∧ 1 ≤ (s.goOn endsX n σ).2.1.on := by
  obtain ⟨x, hx⟩ := hd
  obtain ⟨d, t, hdt⟩ : ∃ d t, s.opens = d :: t := by
    cases hq : s.opens with
    | nil => rw [hq] at hx; simp at hx
    | cons d t => exact ⟨d, t, rfl⟩
  have hdx : d = .doc x := by rw [hdt] at hx; simpa using hx
  obtain ⟨o, τ, e, hg⟩ : ∃ o τ e, goF n s.opens.length s.opens 0 σ = (o, τ, e) := ⟨_, _, _, rfl⟩
  have hol : o.length = s.opens.length := by have := goF_len n s.opens.length s.opens 0 σ; rw [hg] at this; exact this
  have hlen : s.opens.length = t.length + 1 := by rw [hdt]; rfl
  cases e with
  | some j =>
    rw [goOn_some hg]
    refine ⟨.inl rfl, (goF_doc n s.opens.length x t σ j ?_).1⟩
    have : (goF n s.opens.length s.opens 0 σ).2.2 = some j := by rw [hg]
    rw [← hdx, ← hdt]
    exact this
  | none =>
    obtain ⟨p, hp⟩ : ∃ p, o.getLast? = some p := by
      cases hq : o.getLast? with
      | none => rw [List.getLast?_eq_none_iff] at hq; rw [hq] at hol; simp at hol; omega
      | some p => exact ⟨p, rfl⟩
    cases hl : p.isLined
    · rw [goOn_stay hg hp hl]
      exact ⟨.inl rfl, by show 1 ≤ o.length; omega⟩
    · rw [goOn_takes hg hp hl]
      refine ⟨(takes_fate n τ p hl).2, ?_⟩
      have hc : p.isC = false := by cases p <;> first | rfl | (cases hl; done)
      have hgl := goF_last n _ _ _ _ p (by rw [hg]; exact hp) hc
      have h2 : 2 ≤ o.length := by
        rcases Nat.lt_or_ge o.length 2 with q | q
        · have h1 : s.opens = [.doc x] := by
            rw [hdt, hdx]
            have : t = [] := List.length_eq_zero_iff.1 (by omega)
            rw [this]
          rw [h1] at hgl
          simp at hgl
          rw [← hgl] at hc
          cases hc
        · exact q
      simp only
      split
      · show 1 ≤ o.length; omega
      · have hl2 : (o.dropLast ++ [(p.takes endsX n τ).2.2.1]).length = o.length := by
          rw [List.length_append, List.length_dropLast]
          simp only [List.length_cons, List.length_nil]
          omega
        rw [(close_len' (s := { s with opens := o.dropLast ++ [(p.takes endsX n τ).2.2.1], on := o.length }) (by show 2 ≤ (o.dropLast ++ [_]).length; omega)).2]
        show 1 ≤ min o.length ((o.dropLast ++ [(p.takes endsX n τ).2.2.1]).length - 1)
        omega

theorem read_sh {k n : Nat} {s s' : St} (h : QR k s s') (l : Str) : QR k (s.read' n l) (s'.read' (n + k) l) := by
  obtain ⟨a, b, c, d⟩ := goOn_sh (n := n) h (l, 0, 0)
  obtain ⟨f1, f2⟩ := goOn_basic (n := n) h.doc (l, 0, 0)
  obtain ⟨F, s1, σ1, hg⟩ : ∃ F s1 σ1, s.goOn endsX n (l, 0, 0) = (F, s1, σ1) := ⟨_, _, _, rfl⟩
  obtain ⟨F', s1', σ1', hg'⟩ : ∃ F s1 σ1, s'.goOn endsX (n + k) (l, 0, 0) = (F, s1, σ1) := ⟨_, _, _, rfl⟩
  rw [hg, hg'] at a b c d
  rw [hg] at f1 f2
  have a : F' = F := a
  have c : σ1' = σ1 := c
  subst a
  subst c
  rcases f1 with e | e
  · have e : F' = 0 := e
    subst e
    have hT : TR k s1 s1' := ⟨⟨b.opens, d, b.defs⟩, b.doc, f2⟩
    obtain ⟨x, y, z⟩ := begins_sh k n (St.fuel σ1') σ1' hT
    obtain ⟨G, t, τ, hb⟩ : ∃ G t τ, St.beginsF htmlL endsX n (St.fuel σ1') s1 σ1' = (G, t, τ) := ⟨_, _, _, rfl⟩
    obtain ⟨G', t', τ', hb'⟩ : ∃ G t τ, St.beginsF htmlL endsX (n + k) (St.fuel σ1') s1' σ1' = (G, t, τ) := ⟨_, _, _, rfl⟩
    rw [hb, hb'] at x y z
    have x : G' = G := x
    have z : τ' = τ := z
    subst x
    subst z
    have r1 : s.read' n l = if G' = 1 then t.text n τ' else t := by simp [St.read', St.read, hg, hb]
    have r2 : s'.read' (n + k) l = if G' = 1 then t'.text (n + k) τ' else t' := by simp [St.read', St.read, hg', hb']
    rw [r1, r2]
    split
    · exact (text_sh y τ').q
    · exact y.q
  · have e : F' = 2 := e
    subst e
    rw [read_two hg, read_two hg']
    exact b

theorem readAll_sh (k : Nat) : ∀ (ls : List Str) (n : Nat) {s s' : St}, QR k s s' → QR k (St.readAll htmlL endsX n s ls) (St.readAll htmlL endsX (n + k) s' ls)
  | [], n, s, s', h => h
  | l :: r, n, s, s', h => by
    show QR k (St.readAll htmlL endsX (n + 1) (s.read' n l) r) (St.readAll htmlL endsX (n + k + 1) (s'.read' (n + k) l) r)
    rw [show n + k + 1 = n + 1 + k by omega]
    exact readAll_sh k r (n + 1) (read_sh h l)

/-- What is told when all is read. -/
def toldS (s : St) : Bs × List Df := ((match (St.leave { s with on := 1 }).opens with | .doc b :: _ => b.kids | _ => .nil), (St.leave { s with on := 1 }).defs)
theorem parse_told (ls : List Str) : St.parse htmlL endsX ls = toldS (St.readAll htmlL endsX 0 St.start ls) := rfl
theorem told_sh {k : Nat} {s s' : St} (h : QR k s s') : toldS s' = toldS s := by
  have hT : TR k ({ s with on := 1 } : St) ({ s' with on := 1 } : St) := ⟨⟨h.opens, rfl, h.defs⟩, h.doc, Nat.le_refl _⟩
  have hL := hT.leave
  unfold toldS
  generalize St.leave ({ s with on := 1 } : St) = S at *
  generalize St.leave ({ s' with on := 1 } : St) = S' at *
  rw [hL.sr.defs]
  congr 1
  obtain ⟨x, hx⟩ := hL.doc
  obtain ⟨p', hp', hpp⟩ := hL.sr.opens.at hx
  have hd := hpp.is.2.2.2.2.1
  cases hS : S.opens with
  | nil => rw [hS] at hx; simp at hx
  | cons q r =>
    cases hS' : S'.opens with
    | nil => rw [hS'] at hp'; simp at hp'
    | cons q' r' =>
      rw [hS] at hx
      rw [hS'] at hp'
      have e1 : q = .doc x := by simpa using hx
      have e2 : q' = p' := by simpa using hp'
      subst e1
      subst e2
      cases q' with
      | doc b' =>
        have h : (Part.doc { first := 0, last := 0, kids := b'.kids }) = .doc { first := 0, last := 0, kids := x.kids } := hpp
        simpa using h
      | _ => cases hd

theorem blank_doc (d : Box) (on : Nat) (df : List Df) (n : Nat) : (docS d on df).read' n [] = docS d 1 df := by kernel_rfl
/-- Empty lines ahead change nothing. -/
theorem blanks_ahead (ls : List Str) : ∀ j, St.parse htmlL endsX (List.replicate j [] ++ ls) = St.parse htmlL endsX ls := by
  intro j
  rw [parse_told, parse_told]
  have hb : ∀ (j n on : Nat) (d : Box), ∃ on', St.readAll htmlL endsX n (docS d on []) (List.replicate j [] ++ ls) = St.readAll htmlL endsX (n + j) (docS d on' []) ls := by
    intro j
    induction j with
    | zero => intro n on d; exact ⟨on, rfl⟩
    | succ j ih =>
      intro n on d
      rw [List.replicate_succ]
      show ∃ on', St.readAll htmlL endsX (n + 1) ((docS d on []).read' n []) (List.replicate j [] ++ ls) = _
      rw [blank_doc]
      obtain ⟨on', h⟩ := ih (n + 1) 1 d
      exact ⟨on', by rw [h]; congr 1; omega⟩
  obtain ⟨on', h⟩ := hb j 0 0 { first := 0, last := 0 }
  rw [show St.start = docS { first := 0, last := 0 } 0 [] from rfl, h, Nat.zero_add]
  have hq : QR j (docS { first := 0, last := 0 } 0 []) (docS { first := 0, last := 0 } on' []) := ⟨⟨rfl, fun p hp => by simp at hp⟩, rfl, ⟨_, rfl⟩⟩
  have := told_sh (readAll_sh j ls 0 hq)
  rw [Nat.zero_add] at this
  exact this

end Go.Proofs.YteonkgneicgkjaaGreatDoor

/- Two rows of blocks are held against one another; walked. -/
namespace Go.Proofs.YteonkgneicgkjaaGreatDoor
open Go.RowKit
open cur (cell_blk free_blk set_blk blk_below)

namespace Bs
def nth : Bs → Nat → Option (BI × Bs)
  | nil, _ => none
  | cons b k _, 0 => some (b, k)
  | cons _ _ r, i + 1 => nth r i
def size : Bs → Nat
  | nil => 0
  | cons _ k r => size k + size r + 1
theorem nth_some : ∀ (k : Bs) (i : Nat), i < k.len → ∃ b q, k.nth i = some (b, q)
  | nil, i, h => by simp [len] at h
  | cons b q r, 0, _ => ⟨b, q, rfl⟩
  | cons b q r, i + 1, h => nth_some r i (by simp only [len] at h; omega)
theorem nth_size : ∀ (k : Bs) (i : Nat) (b : BI) (q : Bs), k.nth i = some (b, q) → q.size < k.size
  | nil, i, b, q, h => by cases h
  | cons b q r, 0, _, _, h => by
    simp only [nth, Option.some.injEq, Prod.mk.injEq] at h
    obtain ⟨_, rfl⟩ := h
    simp only [size]; omega
  | cons b q r, i + 1, b', q', h => by
    have := nth_size r i b' q' h
    simp only [size]; omega
end Bs

theorem KidC.nth {w : World} {S : Nat → Prop} : ∀ (k : Bs) (xs : List Value) (i : Nat) (b : BI) (q : Bs), KidC w S k xs → k.nth i = some (b, q) → ∃ v ys, (∀ j u, (biCells b v)[j]? = some u → xs[i * 8 + j]? = some u) ∧ w.ownsRow 0 36 8 v q.len ys ∧ (∀ g, v.ownBlock = some g → S g) ∧ KidC w S q ys
  | .nil, xs, i, b, q, _, h => by cases h
  | .cons c k r, xs, 0, b, q, ⟨v, ys, zs, h1, h2, h3, h4, h5⟩, h => by
    simp only [Bs.nth, Option.some.injEq, Prod.mk.injEq] at h
    obtain ⟨rfl, rfl⟩ := h
    refine ⟨v, ys, fun j u hu => ?_, h2, h3, h4⟩
    rw [h1, Nat.zero_mul, Nat.zero_add, List.getElem?_append_left (List.getElem?_eq_some_iff.1 hu).1]
    exact hu
  | .cons c k r, xs, i + 1, b, q, ⟨v, ys, zs, h1, h2, h3, h4, h5⟩, h => by
    obtain ⟨v', ys', a1, a2, a3, a4⟩ := KidC.nth r zs i b q h5 h
    refine ⟨v', ys', fun j u hu => ?_, a2, a3, a4⟩
    rw [h1, List.getElem?_append_right (by simp; omega)]
    rw [← a1 j u hu]
    congr 1
    simp
    omega

set_option maxHeartbeats 4000000 in
set_option maxRecDepth 40000 in
theorem bsame_any : ∀ (m : Nat) (k : Bs), k.size ≤ m → ∀ (w : World) (v1 v2 : Value) (A1 S1 A2 S2 : Nat → Prop), KidsV w A1 S1 v1 k → KidsV w A2 S2 v2 k →
    Calls Tryz.prog 13 #[v1, v2] w fun e w' => e = .returned (.bool true) ∧ Below w.heap.size w w' := by
  intro m
  induction m with
  | zero =>
    intro k hk w v1 v2 A1 S1 A2 S2 h1 h2
    have hk0 : k = .nil := by cases k with | nil => rfl | cons b q r => simp only [Bs.size] at hk; omega
    subst hk0
    obtain ⟨xs1, row1, _, _⟩ := h1
    obtain ⟨xs2, row2, _, _⟩ := h2
    obtain ⟨a1, c1, rfl, _⟩ := row_slice row1
    obtain ⟨a2, c2, rfl, _⟩ := row_slice row2
    clear row1 row2
    simp only [Bs.len]
    go_enter Tryz.func13, Tryz.ntmps13
    go_wp2
    go_loopw [5] (fun t wr => t = .int .i64 0 ∧ wr = w) (fun t _ => 0)
    case atStart => exact ⟨rfl, rfl⟩
    case round =>
      obtain ⟨rfl, hw⟩ := hrel
      subst hw
      go_wp2
      go_ret
      exact ⟨rfl, Below.refl _ _⟩
  | succ m ih =>
    intro k hk w v1 v2 A1 S1 A2 S2 h1 h2
    obtain ⟨xs1, row1, _, kc1⟩ := h1
    obtain ⟨xs2, row2, _, kc2⟩ := h2
    have hmx : k.len ≤ maxLen := by
      rcases row1.2 with ⟨_, q⟩ | ⟨_, _, _, _, _, _, q1, q2, _⟩
      · omega
      · omega
    unfold maxLen at hmx
    obtain ⟨a1, c1, rfl, _⟩ := row_slice row1
    obtain ⟨a2, c2, rfl, _⟩ := row_slice row2
    have HIh := (show Hid _ from ih)
    clear ih
    go_enter Tryz.func13, Tryz.ntmps13
    go_wp2
    go_loopw [5] (fun t wr => ∃ i : Nat, t = .int .i64 (i : Int) ∧ i ≤ k.len ∧ Hid (Below w.heap.size w wr)) (fun t _ => k.len - (intOf t).toNat)
    case atStart => exact ⟨0, rfl, Nat.zero_le _, Below.refl _ _⟩
    case round =>
      obtain ⟨i, rfl, hi, HB⟩ := hrel
      by_cases hlt : i < k.len
      · have hlt' : (i : Int) < (k.len : Int) := by omega
        obtain ⟨b, q, hn⟩ := k.nth_some i hlt
        obtain ⟨y1, z1, e1, r1, _, q1⟩ := kc1.nth k xs1 i b q hn
        obtain ⟨y2, z2, e2, r2, _, q2⟩ := kc2.nth k xs2 i b q hn
        obtain ⟨g1, p1, he1, _, f1⟩ := row_at (row_keeps row1 (fun g hg => HB.out.block g (World.ownsRow.lt row1 g hg).2)) (by omega)
        obtain ⟨g2, p2, he2, _, f2⟩ := row_at (row_keeps row2 (fun g hg => HB.out.block g (World.ownsRow.lt row2 g hg).2)) (by omega)
        cases he1
        cases he2
        have HR1 : Hid (∀ u, Below w.heap.size w u → KidsV u S1 S1 y1 q) := fun u hu => ⟨z1, row_keeps r1 (fun g hg => hu.block g (World.ownsRow.lt r1 g hg).2), ‹_›, KidC.keeps (fun _ z => z) (fun g hg _ => hu.block g hg) q z1 q1⟩
        have HR2 : Hid (∀ u, Below w.heap.size w u → KidsV u S2 S2 y2 q) := fun u hu => ⟨z2, row_keeps r2 (fun g hg => hu.block g (World.ownsRow.lt r2 g hg).2), ‹_›, KidC.keeps (fun _ z => z) (fun g hg _ => hu.block g hg) q z2 q2⟩
        have hqs : q.size ≤ m := by have := k.nth_size i b q hn; omega
        obtain ⟨ka1, kc1', rfl, _⟩ := row_slice r1
        obtain ⟨ka2, kc2', rfl, _⟩ := row_slice r2
        obtain ⟨kd, lv, tx, inf, od, tg, st⟩ := b
        have x0 := f1 _ _ (e1 0 _ rfl)
        have x1 := f1 _ _ (e1 1 _ rfl)
        have x2 := f1 _ _ (e1 2 _ rfl)
        have x3 := f1 _ _ (e1 3 _ rfl)
        have x4 := f1 _ _ (e1 4 _ rfl)
        have x5 := f1 _ _ (e1 5 _ rfl)
        have x6 := f1 _ _ (e1 6 _ rfl)
        have x7 := f1 _ _ (e1 7 _ rfl)
        simp only [strV, Nat.add_zero] at x0 x2 x3
        generalize hX1 : Obj.cells #[.int .i64 (kd : Int), .int .i64 (lv : Int), .string ⟨tx.toArray⟩, .string ⟨inf.toArray⟩, .bool od, .bool tg, .int .i64 (st : Int), .slice ka1 q.len kc1'] 36 = X1
        have hrow2 : (wr.alloc X1).ownsRow 0 36 8 (.slice (some ⟨g2, 0, none⟩) k.len c2) k.len xs2 := row_keeps row2 (fun g hg => ((HB.out).alloc HB.out.size X1).block g (World.ownsRow.lt row2 g hg).2)
        obtain ⟨g3, p3, he3, _, f3⟩ := row_at hrow2 (by omega)
        cases he3
        have t0 := f3 _ _ (e2 0 _ rfl)
        have t1 := f3 _ _ (e2 1 _ rfl)
        have t2 := f3 _ _ (e2 2 _ rfl)
        have t3 := f3 _ _ (e2 3 _ rfl)
        have t4 := f3 _ _ (e2 4 _ rfl)
        have t5 := f3 _ _ (e2 5 _ rfl)
        have t6 := f3 _ _ (e2 6 _ rfl)
        have t7 := f3 _ _ (e2 7 _ rfl)
        simp only [strV, Nat.add_zero] at t0 t2 t3
        subst hX1
        have hbA := new_blk wr #[.int .i64 (kd : Int), .int .i64 (lv : Int), .string ⟨tx.toArray⟩, .string ⟨inf.toArray⟩, .bool od, .bool tg, .int .i64 (st : Int), .slice ka1 q.len kc1'] 36
        have HB1 : Hid (Below w.heap.size w (wr.alloc (.cells #[.int .i64 (kd : Int), .int .i64 (lv : Int), .string ⟨tx.toArray⟩, .string ⟨inf.toArray⟩, .bool od, .bool tg, .int .i64 (st : Int), .slice ka1 q.len kc1'] 36))) := HB.out.alloc HB.out.size _
        clear f1 e1 f2 e2 f3 hrow2 row1 row2 kc1 kc2 r1 r2 q1 q2 hn
        generalize ByteArray.mk tx.toArray = TX at *
        generalize ByteArray.mk inf.toArray = IN at *
        have hszA : (wr.alloc (.cells #[.int .i64 (kd : Int), .int .i64 (lv : Int), .string TX, .string IN, .bool od, .bool tg, .int .i64 (st : Int), .slice ka1 q.len kc1'] 36)).heap.size = wr.heap.size + 1 := by simp
        generalize hWA : wr.alloc (.cells #[.int .i64 (kd : Int), .int .i64 (lv : Int), .string TX, .string IN, .bool od, .bool tg, .int .i64 (st : Int), .slice ka1 q.len kc1'] 36) = WA at *
        have hbB := new_blk WA #[.int .i64 (kd : Int), .int .i64 (lv : Int), .string TX, .string IN, .bool od, .bool tg, .int .i64 (st : Int), .slice ka2 q.len kc2'] 36
        rw [hszA] at hbB
        have hbA2 := blk_below hbA ((Below.refl WA.heap.size WA).alloc (Nat.le_refl _) (.cells #[.int .i64 (kd : Int), .int .i64 (lv : Int), .string TX, .string IN, .bool od, .bool tg, .int .i64 (st : Int), .slice ka2 q.len kc2'] 36))
        have HB2 : Hid (Below w.heap.size w (WA.alloc (.cells #[.int .i64 (kd : Int), .int .i64 (lv : Int), .string TX, .string IN, .bool od, .bool tg, .int .i64 (st : Int), .slice ka2 q.len kc2'] 36))) := HB1.out.alloc HB1.out.size _
        generalize hWB : WA.alloc (.cells #[.int .i64 (kd : Int), .int .i64 (lv : Int), .string TX, .string IN, .bool od, .bool tg, .int .i64 (st : Int), .slice ka2 q.len kc2'] 36) = WB at *
        have n7 := cell_blk hbA2 (i := 7) rfl
        have o7 := cell_blk hbB (i := 7) rfl
        simp only [List.getElem_toArray, List.getElem_cons_zero, List.getElem_cons_succ] at n7 o7
        have HBA := (show Hid _ from hbA2)
        have HBB := (show Hid _ from hbB)
        have HS : Hid (Calls Tryz.prog 13 #[.slice ka1 q.len kc1', .slice ka2 q.len kc2'] WB fun e w' => e = .returned (.bool true) ∧ Below WB.heap.size WB w') := HIh.out q hqs WB _ _ S1 S1 S2 S2 (HR1.out WB HB2.out) (HR2.out WB HB2.out)
        clear hbA hbA2 hbB HR1 HR2 HIh hqs
        go_wp2_with (go_at_call 13; refine Calls.mono HS.out ?_; rintro e u ⟨rfl, hu⟩; have hA3 := blk_below HBA.out hu; have hB3 := blk_below HBB.out hu; have l0 := cell_blk hA3 (i := 0) rfl; have l1 := cell_blk hA3 (i := 1) rfl; have l2 := cell_blk hA3 (i := 2) rfl; have l3 := cell_blk hA3 (i := 3) rfl; have l4 := cell_blk hA3 (i := 4) rfl; have l5 := cell_blk hA3 (i := 5) rfl; have l6 := cell_blk hA3 (i := 6) rfl; have m0 := cell_blk hB3 (i := 0) rfl; have m1 := cell_blk hB3 (i := 1) rfl; have m2 := cell_blk hB3 (i := 2) rfl; have m3 := cell_blk hB3 (i := 3) rfl; have m4 := cell_blk hB3 (i := 4) rfl; have m5 := cell_blk hB3 (i := 5) rfl; have m6 := cell_blk hB3 (i := 6) rfl; simp only [List.getElem_toArray, List.getElem_cons_zero, List.getElem_cons_succ] at l0 l1 l2 l3 l4 l5 l6 m0 m1 m2 m3 m4 m5 m6; have HU := (show Hid _ from hu); clear hu hA3 hB3 x0 x1 x2 x3 x4 x5 x6 x7 t0 t1 t2 t3 t4 t5 t6 t7 n7 o7)
        go_roundw
        case rel => exact ⟨i + 1, by go_num, by omega, HB2.out.trans (HU.out.mono HB2.out.size)⟩
        case measure => simp [intOf]; omega
      · have hge : ¬ (i : Int) < (k.len : Int) := by omega
        go_wp2
        go_ret
        exact ⟨rfl, HB.out⟩

end Go.Proofs.YteonkgneicgkjaaGreatDoor

/- Two rows of definitions are held against one another; walked. -/
namespace Go.Proofs.YteonkgneicgkjaaGreatDoor
open Go.RowKit

theorem defCs_at : ∀ (d : List Df) (i : Nat) (q : Df), d[i]? = some q → (defCs d)[i * 3]? = some (strV q.1) ∧ (defCs d)[i * 3 + 1]? = some (strV q.2.1) ∧ (defCs d)[i * 3 + 2]? = some (strV q.2.2)
  | [], i, q, h => by simp at h
  | a :: r, 0, q, h => by
    have e : a = q := by simpa using h
    subst e
    exact ⟨rfl, rfl, rfl⟩
  | a :: r, i + 1, q, h => by
    have := defCs_at r i q (by simpa using h)
    rw [show (i + 1) * 3 = i * 3 + 3 by omega]
    exact this

set_option maxHeartbeats 4000000 in
theorem bdefs_any (d : List Df) (w : World) (v1 v2 : Value) (h1 : w.ownsRow 0 40 3 v1 d.length (defCs d)) (h2 : w.ownsRow 0 40 3 v2 d.length (defCs d)) :
    Calls Tryz.prog 14 #[v1, v2] w fun e w' => e = .returned (.bool true) ∧ ∃ n, w' = w.drewN n := by
  have hmx : d.length ≤ maxLen := by
    rcases h1.2 with ⟨_, q⟩ | ⟨_, _, _, _, _, _, q1, q2, _⟩
    · omega
    · omega
  unfold maxLen at hmx
  obtain ⟨a1, c1, rfl, _⟩ := row_slice h1
  obtain ⟨a2, c2, rfl, _⟩ := row_slice h2
  go_enter Tryz.func14, Tryz.ntmps14
  go_wp2
  go_loopw [5] (fun t wr => ∃ i n : Nat, t = .int .i64 (i : Int) ∧ i ≤ d.length ∧ wr = w.drewN n) (fun t _ => d.length - (intOf t).toNat)
  case atStart => exact ⟨0, 0, rfl, Nat.zero_le _, rfl⟩
  case round =>
    obtain ⟨i, n, rfl, hi, rfl⟩ := hrel
    by_cases hlt : i < d.length
    · have hlt' : (i : Int) < (d.length : Int) := by omega
      obtain ⟨q, hq⟩ : ∃ q, d[i]? = some q := ⟨_, List.getElem?_eq_getElem hlt⟩
      obtain ⟨b0, b1, b2⟩ := defCs_at d i q hq
      obtain ⟨g1, p1, he1, _, f1⟩ := row_at h1 (by omega)
      obtain ⟨g2, p2, he2, _, f2⟩ := row_at h2 (by omega)
      cases he1
      cases he2
      have x0 := fun m : Nat => (show (w.drewN m).cell? ⟨g1, i * 3, none⟩ = _ from f1 _ _ b0)
      have x1 := fun m : Nat => (show (w.drewN m).cell? ⟨g1, i * 3 + 1, none⟩ = _ from f1 _ _ b1)
      have x2 := fun m : Nat => (show (w.drewN m).cell? ⟨g1, i * 3 + 2, none⟩ = _ from f1 _ _ b2)
      have t0 := fun m : Nat => (show (w.drewN m).cell? ⟨g2, i * 3, none⟩ = _ from f2 _ _ b0)
      have t1 := fun m : Nat => (show (w.drewN m).cell? ⟨g2, i * 3 + 1, none⟩ = _ from f2 _ _ b1)
      have t2 := fun m : Nat => (show (w.drewN m).cell? ⟨g2, i * 3 + 2, none⟩ = _ from f2 _ _ b2)
      simp only [strV] at x0 x1 x2 t0 t1 t2
      generalize ByteArray.mk q.1.toArray = Q0 at *
      generalize ByteArray.mk q.2.1.toArray = Q1 at *
      generalize ByteArray.mk q.2.2.toArray = Q2 at *
      clear f1 f2 b0 b1 b2 h1 h2 hq
      go_wp2
      go_quiet (fail)
      go_wp2
      go_roundw
      case rel => exact ⟨i + 1, _, by go_num, by omega, rfl⟩
      case measure => simp [intOf]; omega
    · have hge : ¬ (i : Int) < (d.length : Int) := by omega
      go_wp2
      go_ret
      exact ⟨rfl, _, rfl⟩

end Go.Proofs.YteonkgneicgkjaaGreatDoor
