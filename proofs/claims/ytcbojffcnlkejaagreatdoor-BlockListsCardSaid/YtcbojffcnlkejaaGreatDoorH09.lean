/- Several texts in one. -/
import Derived.Test.YtcbojffcnlkejaaGreatDoorH07
import Derived.Test.YtcbojffcnlkejaaGreatDoorG44
import Derived.Test.YtcbojffcnlkejaaGreatDoorG50
set_option linter.unusedVariables false
/- Plain mathematics: lines with one marker are one list. -/
namespace Go.Proofs.YtcbojffcnlkejaaGreatDoor

/-- The markers, each with its blank; the sign, the number. -/
def listT : Nat → Str
  | 0 => [45, 32]
  | 1 => [43, 32]
  | 2 => [42, 32]
  | 3 => [53, 46, 32]
  | _ => [48, 41, 32]
def signT : Nat → UInt8
  | 0 => 45
  | 1 => 43
  | 2 => 42
  | 3 => 46
  | _ => 41
def startT : Nat → Nat
  | 3 => 5
  | _ => 0

/-- A name: letters. -/
def Named (x : Str) : Prop := ∃ a b : UInt8, x = [110, a, b] ∧ (97 ≤ a.toNat ∧ a.toNat ≤ 122) ∧ (97 ≤ b.toNat ∧ b.toNat ≤ 122)
theorem Named.plain {x : Str} (h : Named x) : Plain1 x := by
  obtain ⟨a, b, rfl, ha, hb⟩ := h
  refine ⟨fun d => off_none _ (by decide) (by decide) d, tailG_keep (z := b) rfl ⟨fun e => ?_, fun e => ?_⟩, by simp⟩ <;> (rw [e] at hb; exact absurd hb (by decide))

abbrev itemS (D B : Box) (m : Mk) (w n : Nat) (x : Str) (on : Nat) : St := ⟨[.doc D, .list B m, .item { first := n, last := n } w, paraB n n x], on, []⟩
abbrev itemH (n w : Nat) (x : Str) : Part := .item (Box.hold { first := n, last := n } (paraB n n x)) w
abbrev itemZ (D B : Box) (m : Mk) (w n : Nat) (x : Str) (on : Nat) : St := ⟨[.doc D, .list B m, itemH n w x], on, []⟩
/-- The list, with that item. -/
def lstep (B : Box) (w n : Nat) (x : Str) : Box := { B.hold (itemH n w x) with gap := (B.hold (itemH n w x)).gap || itemGap (itemH n w x) }

theorem closeP {x : Str} (h : Plain1 x) (D B : Box) (m : Mk) (w n on : Nat) : (itemS D B m w n x on).close = itemZ D B m w n x (min on 3) := by
  unfold St.close
  simp only [List.getLast?_cons_cons, List.getLast?_singleton]
  rw [h.takeOff]
  rfl
theorem closeI (D B : Box) (m : Mk) (w n : Nat) (x : Str) (on : Nat) : (itemZ D B m w n x on).close = ⟨[.doc D, .list (lstep B w n x) m], min on 2, []⟩ := rfl
theorem closeLs (D B : Box) (m : Mk) (on : Nat) : St.close ⟨[.doc D, .list B m], on, []⟩ = docS (D.hold (.list B m)) (min on 1) [] := rfl

theorem leaveZ (D B : Box) (m : Mk) (w n : Nat) (x : Str) : (itemZ D B m w n x 2).leave = ⟨[.doc D, .list (lstep B w n x) m], 2, []⟩ := by
  rw [leave_next (by show 2 < 3; omega) (by rw [closeI]; rfl), closeI, leave_stop (by show ¬ 2 < 2; omega)]
  rfl
theorem leaveS {x : Str} (h : Plain1 x) (D B : Box) (m : Mk) (w n : Nat) : (itemS D B m w n x 2).leave = ⟨[.doc D, .list (lstep B w n x) m], 2, []⟩ := by
  rw [leave_next (by show 2 < 4; omega) (by rw [closeP h]; rfl), closeP h]
  exact leaveZ D B m w n x
theorem clearZ (D B : Box) (m : Mk) (w n : Nat) (x : Str) : (itemZ D B m w n x 2).clear = ⟨[.doc D, .list (lstep B w n x) m], 2, []⟩ := by
  unfold St.clear
  rw [leaveZ]
  rfl
theorem clearS {x : Str} (h : Plain1 x) (D B : Box) (m : Mk) (w n : Nat) : (itemS D B m w n x 2).clear = ⟨[.doc D, .list (lstep B w n x) m], 2, []⟩ := by
  unfold St.clear
  rw [leaveS h]
  rfl

/-- The lines' marker. -/
theorem rule_line {j : Nat} (hj : j < 5) (a b : UInt8) : ruleL (beh (listT j ++ [110, a, b])) = false := by
  have hj' : j = 0 ∨ j = 1 ∨ j = 2 ∨ j = 3 ∨ j = 4 := by omega
  rcases hj' with rfl | rfl | rfl | rfl | rfl
  · exact rule_not (b := 45) (t := [32, 110, a, b]) ⟨110, by simp, by decide, by decide⟩
  · exact rule_not (b := 43) (t := [32, 110, a, b]) ⟨110, by simp, by decide, by decide⟩
  · exact rule_not (b := 42) (t := [32, 110, a, b]) ⟨110, by simp, by decide, by decide⟩
  · exact rule_not (b := 53) (t := [46, 32, 110, a, b]) ⟨110, by simp, by decide, by decide⟩
  · exact rule_not (b := 48) (t := [41, 32, 110, a, b]) ⟨110, by simp, by decide, by decide⟩
theorem mark_line {j : Nat} (hj : j < 5) {x : Str} (hx : Named x) (n : Nat) (s : St) (h6 : s.isClose = false) (h9 : s.room = true) :
    ∃ m : Mk, m.sign = signT j ∧ m.number = startT j ∧ s.begin htmlL endsX n ((listT j ++ x, 0, 0) : Pl) = (0, (if (s.clear.opens.getLast?.bind St.listSign) = some (signT j) then s.clear else s.clear.stand (.list { first := n, last := n } m)).push (.item { first := n, last := n } (listT j).length), (x, 0, (listT j).length)) := by
  obtain ⟨a, b, rfl, ha, hb⟩ := hx
  have hr := rule_line hj a b
  have hj' : j = 0 ∨ j = 1 ∨ j = 2 ∨ j = 3 ∨ j = 4 := by omega
  rcases hj' with rfl | rfl | rfl | rfl | rfl
  · exact ⟨St.markOf (beh (listT 0 ++ [110, a, b])), rfl, rfl, begin_item (s := s) (n := n) (σ := (listT 0 ++ [110, a, b], 0, 0)) rfl rfl rfl rfl rfl h6 hr rfl h9⟩
  · exact ⟨St.markOf (beh (listT 1 ++ [110, a, b])), rfl, rfl, begin_item (s := s) (n := n) (σ := (listT 1 ++ [110, a, b], 0, 0)) rfl rfl rfl rfl rfl h6 hr rfl h9⟩
  · exact ⟨St.markOf (beh (listT 2 ++ [110, a, b])), rfl, rfl, begin_item (s := s) (n := n) (σ := (listT 2 ++ [110, a, b], 0, 0)) rfl rfl rfl rfl rfl h6 hr rfl h9⟩
  · exact ⟨St.markOf (beh (listT 3 ++ [110, a, b])), rfl, rfl, begin_item (s := s) (n := n) (σ := (listT 3 ++ [110, a, b], 0, 0)) rfl rfl rfl rfl rfl h6 hr rfl h9⟩
  · exact ⟨St.markOf (beh (listT 4 ++ [110, a, b])), rfl, rfl, begin_item (s := s) (n := n) (σ := (listT 4 ++ [110, a, b], 0, 0)) rfl rfl rfl rfl rfl h6 hr rfl h9⟩

theorem line_goes {j : Nat} (hj : j < 5) {x : Str} (hx : Named x) : indR ((listT j ++ x, 0, 0) : Pl) = 0 ∧ blankB ((listT j ++ x, 0, 0) : Pl) = false ∧ 1 ≤ (listT j).length := by
  obtain ⟨a, b, rfl, ha, hb⟩ := hx
  have hj' : j = 0 ∨ j = 1 ∨ j = 2 ∨ j = 3 ∨ j = 4 := by omega
  rcases hj' with rfl | rfl | rfl | rfl | rfl <;> exact ⟨rfl, rfl, by decide⟩
theorem goesItem {w n : Nat} {b : Box} {f : Bool} {σ : Pl} (hi : indR σ = 0) (hb : blankB σ = false) (hw : 1 ≤ w) : (Part.item b w).goesOn n f σ = (false, .item b w, σ) := by
  simp only [Part.goesOn]
  rw [hi, hb, if_neg (by omega), if_pos (.inl rfl)]
theorem goS (D B b : Box) (m : Mk) (w n : Nat) (r : List Part) (on : Nat) (df : List Df) {σ : Pl} (hi : indR σ = 0) (hb : blankB σ = false) (hw : 1 ≤ w) : St.goOn endsX n ⟨.doc D :: .list B m :: .item b w :: r, on, df⟩ σ = (0, ⟨.doc D :: .list B m :: .item b w :: r, 2, df⟩, σ) := by
  have hg : ∀ q, goF n q (.doc D :: .list B m :: .item b w :: r) 0 σ = (.doc D :: .list B m :: .item b w :: r, σ, some 2) := fun q => by
    have g1 : ∀ (X : List Part), goF n q (.doc D :: .list B m :: X) 0 σ = (.doc D :: .list B m :: (goF n q X 2 σ).1, (goF n q X 2 σ).2) := fun X => rfl
    rw [g1]
    have g2 : goF n q (.item b w :: r) 2 σ = (.item b w :: r, σ, some 2) := by
      unfold goF
      rw [if_neg (by simp [Part.isC]), goesItem hi hb hw]
      rfl
    rw [g2]
  unfold St.goOn
  simp only
  rw [hg]

/-- The text of an item stands. -/
theorem read_item {n : Nat} {s s1 s2 : St} {L x : Str} {k : Nat} {σ1 : Pl} (hx : Named x) (hg : s.goOn endsX n (L, 0, 0) = (0, s1, σ1)) (hs : 3 ≤ σ1.1.length) (hb : s1.begin htmlL endsX n σ1 = (0, s2, (x, 0, k))) : s.read' n L = s2.text n (x, 0, k) := by
  obtain ⟨a, b, rfl, ha, hb'⟩ := hx
  obtain ⟨f, hf⟩ : ∃ f, St.fuel σ1 = f + 1 + 1 := ⟨2 * σ1.1.length, rfl⟩
  have hB : St.beginsF htmlL endsX n (St.fuel σ1) s1 σ1 = (1, s2, ([110, a, b], 0, k)) := by
    rw [hf]
    have h1 : s2.begin htmlL endsX n (([110, a, b], 0, k) : Pl) = (1, s2, ([110, a, b], 0, k)) := none_begins (by decide) _
    simp [St.beginsF, hb, h1]
  simp [St.read', St.read, hg, hB]

theorem text_item {x : Str} (hx : Named x) (D B b : Box) (m : Mk) (w n k : Nat) : St.text n ⟨[.doc D, .list B m, .item b w], 3, []⟩ (x, 0, k) = ⟨[.doc D, .list B m, .item b w, paraB n n x], 4, []⟩ := by
  obtain ⟨a, c, rfl, _, _⟩ := hx
  unfold St.text
  rw [text_blank (by decide)]
  simp only [Bool.false_eq_true, if_false]
  rw [text_beh (by decide)]
  rfl

theorem list_next {j : Nat} (hj : j < 5) {x y : Str} (hx : Named x) (hy : Named y) (D B : Box) (m : Mk) (hm : m.sign = signT j) (w n n' : Nat) (hw : w = (listT j).length) (g : Bool) :
    (if g then itemZ D B m w n x 3 else itemS D B m w n x 4).read' n' (listT j ++ y) = itemS D (lstep B w n x) m w n' y 4 := by
  obtain ⟨l1, l2, l3⟩ := line_goes hj hy
  have hfin : ∀ s1 : St, s1.clear = ⟨[.doc D, .list (lstep B w n x) m], 2, []⟩ → s1.isClose = false → s1.room = true → s1.begin htmlL endsX n' ((listT j ++ y, 0, 0) : Pl) = (0, ⟨[.doc D, .list (lstep B w n x) m, .item { first := n', last := n' } w], 3, []⟩, (y, 0, w)) := fun s1 hc h6 h9 => by
    obtain ⟨m', _, _, e⟩ := mark_line hj hy n' s1 h6 h9
    rw [e, hc]
    simp only [List.getLast?_cons_cons, List.getLast?_singleton, Option.bind_some, St.listSign]
    rw [hm, if_pos rfl, hw]
    rfl
  have hlen : 3 ≤ (listT j ++ y).length := by
    obtain ⟨a, b, rfl, _, _⟩ := hy
    rw [List.length_append]
    simp
  cases g
  · simp only [Bool.false_eq_true, if_false]
    rw [read_item hy (goS D B _ m w n' _ 4 [] l1 l2 (by omega)) hlen (hfin _ (clearS hx.plain D B m w n) rfl rfl)]
    exact text_item hy D (lstep B w n x) _ m w n' w
  · simp only [if_true]
    rw [read_item hy (goS D B _ m w n' _ 3 [] l1 l2 (by omega)) hlen (hfin _ (clearZ D B m w n x) rfl rfl)]
    exact text_item hy D (lstep B w n x) _ m w n' w

theorem list_first {j : Nat} (hj : j < 5) {y : Str} (hy : Named y) (D : Box) (on n : Nat) : ∃ m : Mk, m.sign = signT j ∧ m.number = startT j ∧ (docS D on []).read' n (listT j ++ y) = itemS D { first := n, last := n } m (listT j).length n y 4 := by
  obtain ⟨m, h1, h2, e⟩ := mark_line hj hy n (docS D 1 []) rfl rfl
  refine ⟨m, h1, h2, ?_⟩
  have hlen : 3 ≤ (listT j ++ y).length := by
    obtain ⟨a, b, rfl, _, _⟩ := hy
    rw [List.length_append]
    simp
  have e2 : (docS D 1 []).begin htmlL endsX n ((listT j ++ y, 0, 0) : Pl) = (0, ⟨[.doc D, .list { first := n, last := n } m, .item { first := n, last := n } (listT j).length], 3, []⟩, (y, 0, (listT j).length)) := e
  rw [read_item hy (go_doc n D on [] _) hlen e2]
  exact text_item hy D _ _ m _ n _

/-- An empty line. -/
theorem list_blank {x : Str} (hx : Named x) (D B : Box) (m : Mk) (w n n' : Nat) (hw : 1 ≤ w) : (itemS D B m w n x 4).read' n' [] = itemZ D B m w n x 3 := by
  have hg : (itemS D B m w n x 4).goOn endsX n' ([], 0, 0) = (0, itemS D B m w n x 4, ([], 0, 0)) := by
    have hi : ∀ b, (Part.item b w).goesOn n' true (([], 0, 0) : Pl) = (true, .item b w, ([], 0, 0)) := fun b => by
      simp only [Part.goesOn]
      rw [if_neg (by show ¬ w ≤ 0; omega), if_neg (by rintro (q | q); cases q; cases q.1)]
      rfl
    have hgf : goF n' 4 [.doc D, .list B m, .item { first := n, last := n } w, paraB n n x] 0 (([], 0, 0) : Pl) = ([.doc D, .list B m, .item { first := n, last := n } w, paraB n n x], ([], 0, 0), none) := by
      have g1 : ∀ (X : List Part), goF n' 4 (.doc D :: .list B m :: X) 0 (([], 0, 0) : Pl) = (.doc D :: .list B m :: (goF n' 4 X 2 (([], 0, 0) : Pl)).1, (goF n' 4 X 2 (([], 0, 0) : Pl)).2) := fun X => rfl
      rw [g1]
      have g2 : goF n' 4 [.item { first := n, last := n } w, paraB n n x] 2 (([], 0, 0) : Pl) = ([.item { first := n, last := n } w, paraB n n x], ([], 0, 0), none) := by
        conv => lhs; unfold goF
        rw [if_neg (by simp [Part.isC]), show decide (2 + 1 < 4) = true from rfl, hi]
        rfl
      rw [g2]
    unfold St.goOn
    simp only [List.length_cons, List.length_nil]
    rw [hgf]
    rfl
  rw [read_text hg blank_begins]
  unfold St.text
  rw [if_pos (show blankB (([], 0, 0) : Pl) = true from rfl)]
  unfold St.clear
  rw [leave_stop (by show ¬ 4 < 4; omega)]
  show (itemS D B m w n x 4).close = _
  rw [closeP hx.plain]
  rfl

end Go.Proofs.YtcbojffcnlkejaaGreatDoor

/- Plain mathematics: lines with one marker are one list: all lines. -/
namespace Go.Proofs.YtcbojffcnlkejaaGreatDoor

/-- The items of names. -/
def itemsB : Bs → List Str → Bs
  | K, [] => K
  | K, x :: r => itemsB (K.snoc { kind := 3 } (.cons { kind := 5, text := x } .nil .nil)) r
/-- Is an empty line between two of them? -/
def looseL : Bool → Bool → List (Str × Bool) → Bool
  | G, _, [] => G
  | G, g, (_, g') :: r => looseL (G || g) g' r
/-- The lines. -/
def listLs (j : Nat) : List (Str × Bool) → List Str
  | [] => []
  | (x, g) :: r => (listT j ++ x) :: ((if g then [[]] else []) ++ listLs j r)

abbrev stateL (D B : Box) (m : Mk) (w n : Nat) (x : Str) (g : Bool) : St := if g then itemZ D B m w n x 3 else itemS D B m w n x 4

theorem lstep_kids {x : Str} (hx : Plain1 x) (B : Box) (w n : Nat) : (lstep B w n x).kids = B.kids.snoc { kind := 3 } (.cons { kind := 5, text := x } .nil .nil) := by
  show B.kids.snoc { kind := 3 } (Box.hold { first := n, last := n } (paraB n n x)).kids = _
  rw [hx.told0]
  rfl
theorem lstep_last (B : Box) (w n : Nat) (x : Str) (h : B.last ≤ n) : (lstep B w n x).last = n ∧ (lstep B w n x).held = true := by
  refine ⟨?_, rfl⟩
  show max B.last (max n n) = n
  omega
theorem lstep_gap (B : Box) (w n : Nat) (x : Str) : (lstep B w n x).gap = (B.gap || (B.held && decide (B.last + 1 < n))) := by
  show ((B.gap || (B.held && decide (B.last + 1 < n))) || (false || (false && decide (n + 1 < n)))) = _
  rw [Bool.false_and, Bool.or_false, Bool.or_false]

theorem lists_all {j : Nat} (hj : j < 5) (D : Box) (m : Mk) (hm : m.sign = signT j) : ∀ (xs : List (Str × Bool)) (B : Box) (n : Nat) (x : Str) (g : Bool), Named x → (∀ y ∈ xs, Named y.1) → B.last ≤ n →
    ∃ B' n' x' g', Named x' ∧ St.readAll htmlL endsX (n + 1 + g.toNat) (stateL D B m (listT j).length n x g) (listLs j xs) = stateL D B' m (listT j).length n' x' g' ∧
      (lstep B' (listT j).length n' x').kids = itemsB (lstep B (listT j).length n x).kids (xs.map (·.1)) ∧ (lstep B' (listT j).length n' x').gap = looseL (lstep B (listT j).length n x).gap g xs
  | [], B, n, x, g, hx, _, hB => ⟨B, n, x, g, hx, rfl, rfl, rfl⟩
  | (y, g') :: r, B, n, x, g, hx, hxs, hB => by
    have hy : Named y := hxs (y, g') (List.mem_cons_self ..)
    have hw : 1 ≤ (listT j).length := (line_goes hj hy).2.2
    obtain ⟨k1, k2⟩ := lstep_last B (listT j).length n x hB
    obtain ⟨B', n', x', g'', e1, e2, e3, e4⟩ := lists_all hj D m hm r (lstep B (listT j).length n x) (n + 1 + g.toNat) y g' hy (fun z hz => hxs z (List.mem_cons_of_mem _ hz)) (by omega)
    refine ⟨B', n', x', g'', e1, ?_, ?_, ?_⟩
    · have h1 : (stateL D B m (listT j).length n x g).read' (n + 1 + g.toNat) (listT j ++ y) = itemS D (lstep B (listT j).length n x) m (listT j).length (n + 1 + g.toNat) y 4 := list_next hj hx hy D B m hm _ n _ rfl g
      have hls : listLs j ((y, g') :: r) = (listT j ++ y) :: ((if g' then [[]] else []) ++ listLs j r) := rfl
      rw [hls, readAll_cons _ _ rfl, h1, ← e2]
      cases g'
      · rfl
      · have hl2 : ((if true then [[]] else []) ++ listLs j r : List Str) = [] :: listLs j r := rfl
        rw [hl2, readAll_cons _ _ rfl, list_blank hy D _ m _ _ _ hw]
        rfl
    · rw [e3, lstep_kids hy.plain]
      rfl
    · rw [e4]
      show looseL _ g' r = looseL ((lstep B (listT j).length n x).gap || g) g' r
      rw [lstep_gap (lstep B (listT j).length n x), k1, k2, Bool.true_and]
      congr 2
      cases g
      · simp
      · simp

theorem lists_told {j : Nat} {x : Str} (hx : Named x) {D B : Box} (m : Mk) (w n : Nat) (g : Bool) (hD : D.kids = .nil) :
    St.leave { stateL D B m w n x g with on := 1 } = docS (D.hold (.list (lstep B w n x) m)) 1 [] := by
  have hz : (itemZ D B m w n x 1).leave = docS (D.hold (.list (lstep B w n x) m)) 1 [] := by
    rw [leave_next (by show 1 < 3; omega) (by rw [closeI]; rfl), closeI]
    rw [leave_next (by show 1 < 2; omega) (by rw [closeLs]; rfl), closeLs, leave_stop (by show ¬ 1 < 1; omega)]
    rfl
  cases g
  · show (itemS D B m w n x 1).leave = _
    rw [leave_next (by show 1 < 4; omega) (by rw [closeP hx.plain]; rfl), closeP hx.plain]
    exact hz
  · exact hz

theorem lists_parse {j : Nat} (hj : j < 5) (x : Str) (g : Bool) (xs : List (Str × Bool)) (hx : Named x) (hxs : ∀ y ∈ xs, Named y.1) :
    St.parse htmlL endsX (listLs j ((x, g) :: xs)) = (.cons { kind := 2, ordered := ordB (signT j), start := startT j, tight := !looseL false g xs } (itemsB .nil (x :: xs.map (·.1))) .nil, []) := by
  obtain ⟨d0, hd0⟩ : ∃ d0 : Box, d0 = { first := 0, last := 0 } := ⟨_, rfl⟩
  have hk0 : d0.kids = .nil := by rw [hd0]
  obtain ⟨m, m1, m2, e⟩ := list_first hj hx d0 0 0
  have hw : 1 ≤ (listT j).length := (line_goes hj hx).2.2
  obtain ⟨B', n', x', g', e1, e2, e3, e4⟩ := lists_all hj d0 m m1 xs { first := 0, last := 0 } 0 x g hx hxs (Nat.le_refl _)
  have hra : St.readAll htmlL endsX 0 St.start (listLs j ((x, g) :: xs)) = stateL d0 B' m (listT j).length n' x' g' := by
    have hls : listLs j ((x, g) :: xs) = (listT j ++ x) :: ((if g then [[]] else []) ++ listLs j xs) := rfl
    have hst : St.start = docS d0 0 [] := by rw [hd0]; rfl
    rw [hls, readAll_cons 0 1 rfl, hst, e, ← e2]
    cases g
    · rfl
    · have hl2 : ((if true then [[]] else []) ++ listLs j xs : List Str) = [] :: listLs j xs := rfl
      rw [hl2, readAll_cons 1 2 rfl, list_blank hx d0 _ m _ _ _ hw]
      rfl
  unfold St.parse
  rw [hra]
  simp only
  rw [lists_told (j := j) e1 m _ n' g' hk0]
  simp only
  have hkid : (d0.hold (.list (lstep B' (listT j).length n' x') m)).kids = d0.kids.snoc { kind := 2, ordered := ordB m.sign, start := m.number, tight := !(lstep B' (listT j).length n' x').gap } (lstep B' (listT j).length n' x').kids := rfl
  rw [hkid, e3, e4, m1, m2, hk0, lstep_kids hx.plain, lstep_gap]
  rfl

end Go.Proofs.YtcbojffcnlkejaaGreatDoor

/- Two rows of blocks are held against one another; walked. -/
namespace Go.Proofs.YtcbojffcnlkejaaGreatDoor
open Go.RowKit
open cur (cell_blk free_blk set_blk blk_below)

namespace Bs
def nth : Bs → Nat → Option (BI × Bs)
  | nil, _ => none
  | cons b k _, 0 => some (b, k)
  | cons _ _ r, i + 1 => nth r i
def size : Bs → Nat
  | nil => 0
  | cons _ k r => size k + size r + 1
theorem nth_some : ∀ (k : Bs) (i : Nat), i < k.len → ∃ b q, k.nth i = some (b, q)
  | nil, i, h => by simp [len] at h
  | cons b q r, 0, _ => ⟨b, q, rfl⟩
  | cons b q r, i + 1, h => nth_some r i (by simp only [len] at h; omega)
theorem nth_size : ∀ (k : Bs) (i : Nat) (b : BI) (q : Bs), k.nth i = some (b, q) → q.size < k.size
  | nil, i, b, q, h => by cases h
  | cons b q r, 0, _, _, h => by
    simp only [nth, Option.some.injEq, Prod.mk.injEq] at h
    obtain ⟨_, rfl⟩ := h
    simp only [size]; omega
  | cons b q r, i + 1, b', q', h => by
    have := nth_size r i b' q' h
    simp only [size]; omega
end Bs

theorem KidC.nth {w : World} {S : Nat → Prop} : ∀ (k : Bs) (xs : List Value) (i : Nat) (b : BI) (q : Bs), KidC w S k xs → k.nth i = some (b, q) → ∃ v ys, (∀ j u, (biCells b v)[j]? = some u → xs[i * 8 + j]? = some u) ∧ w.ownsRow 0 34 8 v q.len ys ∧ (∀ g, v.ownBlock = some g → S g) ∧ KidC w S q ys
  | .nil, xs, i, b, q, _, h => by cases h
  | .cons c k r, xs, 0, b, q, ⟨v, ys, zs, h1, h2, h3, h4, h5⟩, h => by
    simp only [Bs.nth, Option.some.injEq, Prod.mk.injEq] at h
    obtain ⟨rfl, rfl⟩ := h
    refine ⟨v, ys, fun j u hu => ?_, h2, h3, h4⟩
    rw [h1, Nat.zero_mul, Nat.zero_add, List.getElem?_append_left (List.getElem?_eq_some_iff.1 hu).1]
    exact hu
  | .cons c k r, xs, i + 1, b, q, ⟨v, ys, zs, h1, h2, h3, h4, h5⟩, h => by
    obtain ⟨v', ys', a1, a2, a3, a4⟩ := KidC.nth r zs i b q h5 h
    refine ⟨v', ys', fun j u hu => ?_, a2, a3, a4⟩
    rw [h1, List.getElem?_append_right (by simp; omega)]
    rw [← a1 j u hu]
    congr 1
    simp
    omega

set_option maxHeartbeats 4000000 in
set_option maxRecDepth 40000 in
theorem bsame_any : ∀ (m : Nat) (k : Bs), k.size ≤ m → ∀ (w : World) (v1 v2 : Value) (A1 S1 A2 S2 : Nat → Prop), KidsV w A1 S1 v1 k → KidsV w A2 S2 v2 k →
    Calls Tryz.prog 14 #[v1, v2] w fun e w' => e = .returned (.bool true) ∧ Below w.heap.size w w' := by
  intro m
  induction m with
  | zero =>
    intro k hk w v1 v2 A1 S1 A2 S2 h1 h2
    have hk0 : k = .nil := by cases k with | nil => rfl | cons b q r => simp only [Bs.size] at hk; omega
    subst hk0
    obtain ⟨xs1, row1, _, _⟩ := h1
    obtain ⟨xs2, row2, _, _⟩ := h2
    obtain ⟨a1, c1, rfl, _⟩ := row_slice row1
    obtain ⟨a2, c2, rfl, _⟩ := row_slice row2
    clear row1 row2
    simp only [Bs.len]
    go_enter Tryz.func14, Tryz.ntmps14
    go_wp2
    go_loopw [5] (fun t wr => t = .int .i64 0 ∧ wr = w) (fun t _ => 0)
    case atStart => exact ⟨rfl, rfl⟩
    case round =>
      obtain ⟨rfl, hw⟩ := hrel
      subst hw
      go_wp2
      go_ret
      exact ⟨rfl, Below.refl _ _⟩
  | succ m ih =>
    intro k hk w v1 v2 A1 S1 A2 S2 h1 h2
    obtain ⟨xs1, row1, _, kc1⟩ := h1
    obtain ⟨xs2, row2, _, kc2⟩ := h2
    have hmx : k.len ≤ maxLen := by
      rcases row1.2 with ⟨_, q⟩ | ⟨_, _, _, _, _, _, q1, q2, _⟩
      · omega
      · omega
    unfold maxLen at hmx
    obtain ⟨a1, c1, rfl, _⟩ := row_slice row1
    obtain ⟨a2, c2, rfl, _⟩ := row_slice row2
    have HIh := (show Hid _ from ih)
    clear ih
    go_enter Tryz.func14, Tryz.ntmps14
    go_wp2
    go_loopw [5] (fun t wr => ∃ i : Nat, t = .int .i64 (i : Int) ∧ i ≤ k.len ∧ Hid (Below w.heap.size w wr)) (fun t _ => k.len - (intOf t).toNat)
    case atStart => exact ⟨0, rfl, Nat.zero_le _, Below.refl _ _⟩
    case round =>
      obtain ⟨i, rfl, hi, HB⟩ := hrel
      by_cases hlt : i < k.len
      · have hlt' : (i : Int) < (k.len : Int) := by omega
        obtain ⟨b, q, hn⟩ := k.nth_some i hlt
        obtain ⟨y1, z1, e1, r1, _, q1⟩ := kc1.nth k xs1 i b q hn
        obtain ⟨y2, z2, e2, r2, _, q2⟩ := kc2.nth k xs2 i b q hn
        obtain ⟨g1, p1, he1, _, f1⟩ := row_at (row_keeps row1 (fun g hg => HB.out.block g (World.ownsRow.lt row1 g hg).2)) (by omega)
        obtain ⟨g2, p2, he2, _, f2⟩ := row_at (row_keeps row2 (fun g hg => HB.out.block g (World.ownsRow.lt row2 g hg).2)) (by omega)
        cases he1
        cases he2
        have HR1 : Hid (∀ u, Below w.heap.size w u → KidsV u S1 S1 y1 q) := fun u hu => ⟨z1, row_keeps r1 (fun g hg => hu.block g (World.ownsRow.lt r1 g hg).2), ‹_›, KidC.keeps (fun _ z => z) (fun g hg _ => hu.block g hg) q z1 q1⟩
        have HR2 : Hid (∀ u, Below w.heap.size w u → KidsV u S2 S2 y2 q) := fun u hu => ⟨z2, row_keeps r2 (fun g hg => hu.block g (World.ownsRow.lt r2 g hg).2), ‹_›, KidC.keeps (fun _ z => z) (fun g hg _ => hu.block g hg) q z2 q2⟩
        have hqs : q.size ≤ m := by have := k.nth_size i b q hn; omega
        obtain ⟨ka1, kc1', rfl, _⟩ := row_slice r1
        obtain ⟨ka2, kc2', rfl, _⟩ := row_slice r2
        obtain ⟨kd, lv, tx, inf, od, tg, st⟩ := b
        have x0 := f1 _ _ (e1 0 _ rfl)
        have x1 := f1 _ _ (e1 1 _ rfl)
        have x2 := f1 _ _ (e1 2 _ rfl)
        have x3 := f1 _ _ (e1 3 _ rfl)
        have x4 := f1 _ _ (e1 4 _ rfl)
        have x5 := f1 _ _ (e1 5 _ rfl)
        have x6 := f1 _ _ (e1 6 _ rfl)
        have x7 := f1 _ _ (e1 7 _ rfl)
        simp only [strV, Nat.add_zero] at x0 x2 x3
        generalize hX1 : Obj.cells #[.int .i64 (kd : Int), .int .i64 (lv : Int), .string ⟨tx.toArray⟩, .string ⟨inf.toArray⟩, .bool od, .bool tg, .int .i64 (st : Int), .slice ka1 q.len kc1'] 34 = X1
        have hrow2 : (wr.alloc X1).ownsRow 0 34 8 (.slice (some ⟨g2, 0, none⟩) k.len c2) k.len xs2 := row_keeps row2 (fun g hg => ((HB.out).alloc HB.out.size X1).block g (World.ownsRow.lt row2 g hg).2)
        obtain ⟨g3, p3, he3, _, f3⟩ := row_at hrow2 (by omega)
        cases he3
        have t0 := f3 _ _ (e2 0 _ rfl)
        have t1 := f3 _ _ (e2 1 _ rfl)
        have t2 := f3 _ _ (e2 2 _ rfl)
        have t3 := f3 _ _ (e2 3 _ rfl)
        have t4 := f3 _ _ (e2 4 _ rfl)
        have t5 := f3 _ _ (e2 5 _ rfl)
        have t6 := f3 _ _ (e2 6 _ rfl)
        have t7 := f3 _ _ (e2 7 _ rfl)
        simp only [strV, Nat.add_zero] at t0 t2 t3
        subst hX1
        have hbA := new_blk wr #[.int .i64 (kd : Int), .int .i64 (lv : Int), .string ⟨tx.toArray⟩, .string ⟨inf.toArray⟩, .bool od, .bool tg, .int .i64 (st : Int), .slice ka1 q.len kc1'] 34
        have HB1 : Hid (Below w.heap.size w (wr.alloc (.cells #[.int .i64 (kd : Int), .int .i64 (lv : Int), .string ⟨tx.toArray⟩, .string ⟨inf.toArray⟩, .bool od, .bool tg, .int .i64 (st : Int), .slice ka1 q.len kc1'] 34))) := HB.out.alloc HB.out.size _
        clear f1 e1 f2 e2 f3 hrow2 row1 row2 kc1 kc2 r1 r2 q1 q2 hn
        generalize ByteArray.mk tx.toArray = TX at *
        generalize ByteArray.mk inf.toArray = IN at *
        have hszA : (wr.alloc (.cells #[.int .i64 (kd : Int), .int .i64 (lv : Int), .string TX, .string IN, .bool od, .bool tg, .int .i64 (st : Int), .slice ka1 q.len kc1'] 34)).heap.size = wr.heap.size + 1 := by simp
        generalize hWA : wr.alloc (.cells #[.int .i64 (kd : Int), .int .i64 (lv : Int), .string TX, .string IN, .bool od, .bool tg, .int .i64 (st : Int), .slice ka1 q.len kc1'] 34) = WA at *
        have hbB := new_blk WA #[.int .i64 (kd : Int), .int .i64 (lv : Int), .string TX, .string IN, .bool od, .bool tg, .int .i64 (st : Int), .slice ka2 q.len kc2'] 34
        rw [hszA] at hbB
        have hbA2 := blk_below hbA ((Below.refl WA.heap.size WA).alloc (Nat.le_refl _) (.cells #[.int .i64 (kd : Int), .int .i64 (lv : Int), .string TX, .string IN, .bool od, .bool tg, .int .i64 (st : Int), .slice ka2 q.len kc2'] 34))
        have HB2 : Hid (Below w.heap.size w (WA.alloc (.cells #[.int .i64 (kd : Int), .int .i64 (lv : Int), .string TX, .string IN, .bool od, .bool tg, .int .i64 (st : Int), .slice ka2 q.len kc2'] 34))) := HB1.out.alloc HB1.out.size _
        generalize hWB : WA.alloc (.cells #[.int .i64 (kd : Int), .int .i64 (lv : Int), .string TX, .string IN, .bool od, .bool tg, .int .i64 (st : Int), .slice ka2 q.len kc2'] 34) = WB at *
        have n7 := cell_blk hbA2 (i := 7) rfl
        have o7 := cell_blk hbB (i := 7) rfl
        simp only [List.getElem_toArray, List.getElem_cons_zero, List.getElem_cons_succ] at n7 o7
        have HBA := (show Hid _ from hbA2)
        have HBB := (show Hid _ from hbB)
        have HS : Hid (Calls Tryz.prog 14 #[.slice ka1 q.len kc1', .slice ka2 q.len kc2'] WB fun e w' => e = .returned (.bool true) ∧ Below WB.heap.size WB w') := HIh.out q hqs WB _ _ S1 S1 S2 S2 (HR1.out WB HB2.out) (HR2.out WB HB2.out)
        clear hbA hbA2 hbB HR1 HR2 HIh hqs
        go_wp2_with (go_at_call 14; refine Calls.mono HS.out ?_; rintro e u ⟨rfl, hu⟩; have hA3 := blk_below HBA.out hu; have hB3 := blk_below HBB.out hu; have l0 := cell_blk hA3 (i := 0) rfl; have l1 := cell_blk hA3 (i := 1) rfl; have l2 := cell_blk hA3 (i := 2) rfl; have l3 := cell_blk hA3 (i := 3) rfl; have l4 := cell_blk hA3 (i := 4) rfl; have l5 := cell_blk hA3 (i := 5) rfl; have l6 := cell_blk hA3 (i := 6) rfl; have m0 := cell_blk hB3 (i := 0) rfl; have m1 := cell_blk hB3 (i := 1) rfl; have m2 := cell_blk hB3 (i := 2) rfl; have m3 := cell_blk hB3 (i := 3) rfl; have m4 := cell_blk hB3 (i := 4) rfl; have m5 := cell_blk hB3 (i := 5) rfl; have m6 := cell_blk hB3 (i := 6) rfl; simp only [List.getElem_toArray, List.getElem_cons_zero, List.getElem_cons_succ] at l0 l1 l2 l3 l4 l5 l6 m0 m1 m2 m3 m4 m5 m6; have HU := (show Hid _ from hu); clear hu hA3 hB3 x0 x1 x2 x3 x4 x5 x6 x7 t0 t1 t2 t3 t4 t5 t6 t7 n7 o7)
        go_roundw
        case rel => exact ⟨i + 1, by go_num, by omega, HB2.out.trans (HU.out.mono HB2.out.size)⟩
        case measure => simp [intOf]; omega
      · have hge : ¬ (i : Int) < (k.len : Int) := by omega
        go_wp2
        go_ret
        exact ⟨rfl, HB.out⟩

end Go.Proofs.YtcbojffcnlkejaaGreatDoor
