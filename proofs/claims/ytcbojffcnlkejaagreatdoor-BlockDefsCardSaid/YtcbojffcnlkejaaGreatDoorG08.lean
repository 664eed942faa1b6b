/- Several texts in one. -/
import Derived.Test.YtcbojffcnlkejaaGreatDoorG01
import Derived.Test.YtcbojffcnlkejaaGreatDoorG05
import Derived.Lib.SlTrimSet
import Derived.Test.YtcbojffcnlkejaaGreatDoorG06
import Derived.Test.YtcbojffcnlkejaaGreatDoorG02
set_option linter.unusedVariables false
/- What a line may be, over plain lists of bytes: rules, headings, fences, markers. -/
namespace Go.Proofs.YtcbojffcnlkejaaGreatDoor

def gapB (b : UInt8) : Bool := b == 32 || b == 9
theorem gapB_row (b : UInt8) : ([32, 9] : List UInt8).contains b = gapB b := by
  unfold gapB
  rw [List.contains_cons, List.contains_cons]
  simp

/-- How many of a kind of bytes a text begins with. -/
def rowN (p : UInt8 → Bool) (l : List UInt8) : Nat := (l.takeWhile p).length
def runB (c : UInt8) (l : List UInt8) : Nat := rowN (· == c) l

theorem row_le (p : UInt8 → Bool) : ∀ l : List UInt8, rowN p l ≤ l.length
  | [] => by simp [rowN]
  | b :: t => by
    unfold rowN
    rw [List.takeWhile_cons]
    split
    · have := row_le p t
      unfold rowN at this
      simp; omega
    · simp

def partedL : List UInt8 → Bool
  | [] => true
  | b :: _ => gapB b

def closesL (l : List UInt8) (c : UInt8) (n : Int) : Bool := decide (max n 1 ≤ (runB c l : Int)) && (l.drop (runB c l)).all gapB

def underL (l : List UInt8) : Nat := if closesL l 61 1 = true then 1 else if closesL l 45 1 = true then 2 else 0

def ruleL : List UInt8 → Bool
  | [] => false
  | b :: t => (b == 42 || b == 45 || b == 95) && decide (3 ≤ (b :: t).count b) && (b :: t).all fun x => x == b || gapB x

def trimG (l : List UInt8) : List UInt8 := Lib.trimS l [32, 9]

/-- A heading's text, out of what stands behind its signs. -/
def headT (s : List UInt8) : List UInt8 :=
  let a := Lib.trimRightS s [35]
  let t := Lib.trimRightS a [32, 9]
  if t = a ∧ t ≠ [] then s else t

def headL (l : List UInt8) : Nat × List UInt8 :=
  if runB 35 l < 1 ∨ 6 < runB 35 l ∨ partedL (l.drop (runB 35 l)) = false then (0, []) else (runB 35 l, headT (trimG (l.drop (runB 35 l))))

def fenceL : List UInt8 → UInt8 × Nat × List UInt8
  | [] => (0, 0, [])
  | b :: t => if b ≠ 96 ∧ b ≠ 126 then (0, 0, []) else
      if runB b (b :: t) < 3 ∨ (b = 96 ∧ 96 ∈ (b :: t).drop (runB b (b :: t))) then (0, 0, []) else (b, runB b (b :: t), unesc (trimG ((b :: t).drop (runB b (b :: t)))))

def numL (n : Nat) : List UInt8 → Nat
  | [] => n
  | b :: t => numL (n * 10 + (b.toNat - 48)) t

def markL (l : List UInt8) : UInt8 × Nat × Nat :=
  if 9 < rowN digitB l then (0, 0, 0) else
  match l.drop (rowN digitB l) with
  | [] => (0, 0, 0)
  | b :: t => if partedL t = false then (0, 0, 0) else
      if (if 0 < rowN digitB l then b == 46 || b == 41 else b == 45 || b == 43 || b == 42) = true then (b, rowN digitB l + 1, numL 0 (l.take (rowN digitB l))) else (0, 0, 0)

/-! ### Trimming -/

theorem dwn (p : UInt8 → Bool) : ∀ l : List UInt8, (l.dropWhile p).isEmpty = l.all p
  | [] => rfl
  | b :: t => by
    rw [List.dropWhile_cons]
    cases h : p b
    · simp [h]
    · simp [h, dwn p t]

theorem trim_nil (l cs : List UInt8) : (Lib.trimS l cs).isEmpty = l.all (cs.contains ·) := by
  unfold Lib.trimS Lib.trimLeftS
  rw [dwn]
  unfold Lib.trimRightS
  rw [List.all_reverse]
  have h1 : ∀ m : List UInt8, (m.dropWhile (cs.contains ·)).all (cs.contains ·) = m.all (cs.contains ·) := by
    intro m
    induction m with
    | nil => rfl
    | cons b t ih =>
      rw [List.dropWhile_cons]
      cases h : cs.contains b
      · simp
      · rw [if_pos rfl, ih, List.all_cons, h]; rfl
  rw [h1, List.all_reverse]

theorem gap_nil (l : List UInt8) : (trimG l).isEmpty = l.all gapB := by
  unfold trimG
  rw [trim_nil]
  congr 1
  funext b
  exact gapB_row b

theorem trimG_len (l : List UInt8) : (trimG l).length ≤ l.length := by
  unfold trimG Lib.trimS Lib.trimLeftS Lib.trimRightS
  refine Nat.le_trans (dropWhile_le _ _) ?_
  rw [List.length_reverse]
  refine Nat.le_trans (dropWhile_le _ _) ?_
  rw [List.length_reverse]
  exact Nat.le_refl _

end Go.Proofs.YtcbojffcnlkejaaGreatDoor

/- Plain mathematics: a text as blocks, line by line. What HTML a line begins, and whether it ends there, are any two functions. -/
namespace Go.Proofs.YtcbojffcnlkejaaGreatDoor

abbrev Str := List UInt8

/-- What a block has, but for its kids. -/
structure BI where
  kind : Nat := 0
  level : Nat := 0
  text : Str := []
  info : Str := []
  ordered : Bool := false
  tight : Bool := false
  start : Nat := 0
  deriving DecidableEq

/-- Blocks, one behind the other: the first one, its kids, those behind it. -/
inductive Bs where
  | nil
  | cons (b : BI) (kids rest : Bs)
  deriving DecidableEq

namespace Bs
def snoc : Bs → BI → Bs → Bs
  | nil, b, k => cons b k nil
  | cons c q r, b, k => cons c q (snoc r b k)
def len : Bs → Nat
  | nil => 0
  | cons _ _ r => len r + 1
theorem len_snoc : ∀ (l : Bs) (b : BI) (k : Bs), (l.snoc b k).len = l.len + 1
  | nil, _, _ => rfl
  | cons _ _ r, b, k => by show (r.snoc b k).len + 1 = r.len + 1 + 1; rw [len_snoc r b k]
end Bs

structure Box where
  first : Nat
  last : Nat
  kids : Bs := .nil
  held : Bool := false
  gap : Bool := false

structure Body where
  first : Nat
  last : Nat
  rows : List Str := []

structure Mk where
  sign : UInt8
  size : Nat
  number : Nat
  parts : Bool

inductive Part where
  | doc (b : Box)
  | quote (b : Box)
  | list (b : Box) (m : Mk)
  | item (b : Box) (width : Nat)
  | para (b : Body) (level : Nat)
  | fenced (b : Body) (sign : UInt8) (size indent : Nat) (info : Str)
  | indented (b : Body)
  | html (b : Body) (kind : Nat)
  | whole (first last : Nat) (b : BI)

/-- Texts with a line feed between. -/
def joinL : List Str → Str
  | [] => []
  | [a] => a
  | a :: r => a ++ 10 :: joinL r
/-- Texts with a line feed behind each. -/
def endedL (l : List Str) : Str := if l = [] then [] else joinL l ++ [10]

def ordB (c : UInt8) : Bool := c == 46 || c == 41

/-- The text without blanks and tabs at its end. -/
def tailG (l : Str) : Str := Lib.trimRightS l [32, 9]

namespace Part

def ext : Part → Nat × Nat
  | doc b | quote b | list b _ | item b _ => (b.first, b.last)
  | para b _ | fenced b _ _ _ _ | indented b | html b _ => (b.first, b.last)
  | whole f l _ => (f, l)

/-- The block that it is when it is closed. -/
def told : Part → Option (BI × Bs)
  | doc b => some ({}, b.kids)
  | quote b => some ({ kind := 1 }, b.kids)
  | list b m => some ({ kind := 2, ordered := ordB m.sign, start := m.number, tight := !b.gap }, b.kids)
  | item b _ => some ({ kind := 3 }, b.kids)
  | para b 0 => if b.rows = [] then none else some ({ kind := 5, text := tailG (joinL b.rows) }, .nil)
  | para b (n + 1) => if b.rows = [] then none else some ({ kind := 4, level := n + 1, text := tailG (joinL b.rows) }, .nil)
  | fenced b _ _ _ info => some ({ kind := 6, text := endedL b.rows, info := info }, .nil)
  | indented b => some ({ kind := 6, text := endedL (b.rows.take (b.last - b.first + 1)) }, .nil)
  | html b _ => some ({ kind := 7, text := endedL b.rows }, .nil)
  | whole _ _ b => some (b, .nil)

def isC : Part → Bool
  | doc _ | quote _ | list _ _ | item _ _ => true
  | _ => false
def isList : Part → Bool
  | list _ _ => true
  | _ => false
def isPara : Part → Bool
  | para _ _ => true
  | _ => false
def isDeep : Part → Bool
  | quote _ | item _ _ => true
  | _ => false

end Part

def Box.hold (b : Box) (p : Part) : Box :=
  { first := b.first, last := max b.last p.ext.2, held := true, gap := b.gap || (b.held && decide (b.last + 1 < p.ext.1)),
    kids := match p.told with | some (i, k) => b.kids.snoc i k | none => b.kids }

def itemGap : Part → Bool
  | .item b _ => b.gap
  | _ => false

def Part.hold : Part → Part → Part
  | .doc b, p => .doc (b.hold p)
  | .quote b, p => .quote (b.hold p)
  | .list b m, p => .list { b.hold p with gap := (b.hold p).gap || itemGap p } m
  | .item b w, p => .item (b.hold p) w
  | c, _ => c

abbrev Df := Str × Str × Str

def addD (d : List Df) (q : Df) : List Df := if d.any (fun x => x.1 == q.1) then d else d ++ [q]

/-- Definitions are taken off a text's front. -/
def offF : Nat → Str → List Df → Str × List Df
  | 0, t, d => (t, d)
  | f + 1, t, d => if (lnk.defR t).2 = 0 then (t, d) else offF f (t.drop (lnk.defR t).2) (addD d (lnk.defR t).1)
def off (t : Str) (d : List Df) : Str × List Df := offF (t.length + 1) t d
def offRows (l : List Str) (d : List Df) : List Str := if (off (joinL l) d).1 = [] then [] else [(off (joinL l) d).1]

structure St where
  opens : List Part
  on : Nat
  defs : List Df

namespace St

def hasPara (s : St) : Bool := match s.opens.getLast? with | some p => p.isPara | none => false
def isClose (s : St) : Bool := s.hasPara && s.on == s.opens.length
def room (s : St) : Bool := decide ((s.opens.take s.on).countP Part.isDeep < 24)

def holdLast (o : List Part) (p : Part) : List Part := match o.getLast? with
  | some c => o.dropLast ++ [c.hold p]
  | none => o

/-- A Para's definitions are taken off. -/
def takeOff (p : Part) (d : List Df) : Part × List Df := match p with
  | .para b l => (.para { b with rows := offRows b.rows d } l, (off (joinL b.rows) d).2)
  | q => (q, d)

def close (s : St) : St := match s.opens.getLast? with
  | none => s
  | some p => { opens := holdLast s.opens.dropLast (takeOff p s.defs).1, on := min s.on (s.opens.length - 1), defs := (takeOff p s.defs).2 }

def leaveF : Nat → St → St
  | 0, s => s
  | f + 1, s => if s.on < s.opens.length then leaveF f s.close else s
def leave (s : St) : St := leaveF s.opens.length s

def clear (s : St) : St := if s.leave.hasPara then s.leave.close else s.leave

def push (s : St) (p : Part) : St := { s with opens := s.opens ++ [p], on := s.opens.length + 1 }

def inList (s : St) : Bool := match s.opens.getLast? with | some p => p.isList | none => false

def stand (s : St) (p : Part) : St := if s.clear.inList then s.clear.close.push p else s.clear.push p

end St

def nextB (σ : Pl) : UInt8 := (beh σ.1).headD 0
def blankB (σ : Pl) : Bool := (beh σ.1).isEmpty

/-- Does a container go on: whether, itself, and the place then. -/
def Part.goesOn (n : Nat) (filled : Bool) (σ : Pl) : Part → Bool × Part × Pl
  | .quote b => if 3 < indR σ ∨ nextB σ ≠ 62 then (false, .quote b, σ) else (true, .quote { b with last := n }, skipR 1 (moveR 1 σ))
  | .item b w => if w ≤ indR σ then (true, .item b w, skipR w σ) else if blankB σ = false ∨ (filled = false ∧ b.kids.len = 0) then (false, .item b w, σ) else (true, .item b w, skipR (indR σ) σ)
  | p => (true, p, σ)

def Body.add (b : Body) (n : Nat) (s : Str) : Body := { b with rows := b.rows ++ [s], last := n }

/-- An indented Code takes a line. -/
def takeI (b : Body) (n : Nat) (σ : Pl) : Body := { b.add n (restR (skipR 4 σ)) with last := if blankB σ then b.last else n }

section
variable (htmlF : Str → Nat) (endsF : Nat → Str → Bool)

/-- What becomes of a line when all containers went on (0: something may begin, 1: text, 2: done), whether the leaf stays open, itself, and the place. -/
def Part.takes (n : Nat) (σ : Pl) : Part → Nat × Bool × Part × Pl
  | .fenced b c k i info => if indR σ ≤ 3 ∧ closesL (beh σ.1) c (k : Int) = true then (2, false, .fenced { b with last := n } c k i info, σ)
      else (2, true, .fenced (b.add n (restR (skipR i σ))) c k i info, skipR i σ)
  | .indented b => if indR σ < 4 ∧ blankB σ = false then (0, false, .indented b, σ) else (2, true, .indented (takeI b n σ), skipR 4 σ)
  | .html b k => if 6 ≤ k ∧ blankB σ = true then (0, false, .html b k, σ) else (2, !endsF k (restR σ), .html (b.add n (restR σ)) k, σ)
  | p => (0, true, p, σ)

/-- The containers are gone through: they, the place, and where it ended. -/
def goF (n len : Nat) : List Part → Nat → Pl → List Part × Pl × Option Nat
  | [], _, σ => ([], σ, none)
  | p :: r, i, σ => if p.isC = false then ((p :: (goF n len r (i + 1) σ).1), (goF n len r (i + 1) σ).2)
      else if (p.goesOn n (decide (i + 1 < len)) σ).1 = false then ((p.goesOn n (decide (i + 1 < len)) σ).2.1 :: r, (p.goesOn n (decide (i + 1 < len)) σ).2.2, some i)
      else ((p.goesOn n (decide (i + 1 < len)) σ).2.1 :: (goF n len r (i + 1) (p.goesOn n (decide (i + 1 < len)) σ).2.2).1, (goF n len r (i + 1) (p.goesOn n (decide (i + 1 < len)) σ).2.2).2)

namespace St

def goOn (n : Nat) (s : St) (σ : Pl) : Nat × St × Pl :=
  match goF n s.opens.length s.opens 0 σ with
  | (o, σ', some i) => (0, { s with opens := o, on := i }, σ')
  | (o, σ', none) => match o.getLast? with
    | none => (0, { s with opens := o, on := o.length }, σ')
    | some p => if p.isC then (0, { s with opens := o, on := o.length }, σ') else
        let t := p.takes endsF n σ'
        let s' : St := { s with opens := o.dropLast ++ [t.2.2.1], on := o.length }
        (t.1, if t.2.1 then s' else s'.close, t.2.2.2)

def beginIndented (n : Nat) (s : St) (σ : Pl) : Nat × St × Pl :=
  if s.hasPara || blankB σ then (1, s, σ) else (2, s.stand (.indented (takeI { first := n, last := n } n σ)), skipR 4 σ)

def beginWhole (n : Nat) (s : St) (b : BI) : St := (s.stand (.whole n n b)).close

def beginHtml (n : Nat) (s : St) (σ : Pl) (k : Nat) : St :=
  let t := Part.takes endsF n σ (.html { first := n, last := n } k)
  let s' := s.stand t.2.2.1
  if t.2.1 then s' else s'.close

/-- The open Para is underlined. -/
def underline (n : Nat) (s : St) (lv : Nat) : Nat × St := match s.opens.getLast? with
  | some (.para b l) =>
    let r := offRows b.rows s.defs
    let d := (off (joinL b.rows) s.defs).2
    if r = [] then (0, close { s with opens := s.opens.dropLast ++ [.para { b with rows := r } l], defs := d })
    else (2, close { s with opens := s.opens.dropLast ++ [.para { b with rows := r, last := n } lv], defs := d })
  | _ => (0, s)

def markOf (l : Str) : Mk :=
  { sign := (markL l).1, size := (markL l).2.1, number := (markL l).2.2, parts := !(trimG (l.drop (markL l).2.1)).isEmpty && ((markL l).2.2 == 1 || !ordB (markL l).1) }

/-- The columns behind a marker that are its own, and the place behind them. -/
def padding (σ : Pl) : Nat × Pl := if blankB σ then (1, σ) else if indR σ ≤ 4 then (indR σ, skipR (indR σ) σ) else (1, skipR 1 σ)

def listSign : Part → Option UInt8
  | .list _ m => some m.sign
  | _ => none

def beginItem (n : Nat) (s : St) (σ : Pl) (m : Mk) : St × Pl :=
  let σ1 := moveR m.size σ
  let p := padding σ1
  let it : Part := .item { first := n, last := n } (indR σ + m.size + p.1)
  let c := s.clear
  ((if (c.opens.getLast?.bind listSign) = some m.sign then c else c.stand (.list { first := n, last := n } m)).push it, p.2)

/-- What begins at a place. -/
def begin (n : Nat) (s : St) (σ : Pl) : Nat × St × Pl :=
  let b := beh σ.1
  if 3 < indR σ then s.beginIndented n σ
  else if nextB σ = 62 ∧ s.room = true then (0, s.stand (.quote { first := n, last := n }), skipR 1 (moveR 1 σ))
  else if 0 < (headL b).1 then (2, s.beginWhole n { kind := 4, level := (headL b).1, text := (headL b).2 }, σ)
  else if 0 < (fenceL b).2.1 then (2, s.stand (.fenced { first := n, last := n } (fenceL b).1 (fenceL b).2.1 (indR σ) (fenceL b).2.2), σ)
  else if 0 < htmlF b ∧ (htmlF b ≠ 7 ∨ s.hasPara = false) then (2, s.beginHtml endsF n σ (htmlF b), σ)
  else if 0 < underL b ∧ s.isClose = true then ((s.underline n (underL b)).1, (s.underline n (underL b)).2, σ)
  else if ruleL b = true then (2, s.beginWhole n { kind := 8 }, σ)
  else if 0 < (markOf b).size ∧ s.room = true ∧ ((markOf b).parts = true ∨ s.isClose = false) then (0, (s.beginItem n σ (markOf b)).1, (s.beginItem n σ (markOf b)).2)
  else (1, s, σ)

/-- What becomes of a line on which nothing began. -/
def text (n : Nat) (s : St) (σ : Pl) : St :=
  if blankB σ then s.clear else match s.opens.getLast? with
  | some (.para b l) => { s with opens := s.opens.dropLast ++ [.para (b.add n (beh σ.1)) l] }
  | _ => s.stand (.para (Body.add { first := n, last := n } n (beh σ.1)) 0)

def beginsF (n : Nat) : Nat → St → Pl → Nat × St × Pl
  | 0, s, σ => (2, s, σ)
  | f + 1, s, σ => let r := begin htmlF endsF n s σ; if r.1 = 0 then beginsF n f r.2.1 r.2.2 else r

/-- How often something may begin on a line. -/
def fuel (σ : Pl) : Nat := 2 * σ.1.length + 2

def read (n : Nat) (s : St) (l : Str) : St :=
  let g := goOn endsF n s (l, 0, 0)
  let r := if g.1 = 0 then beginsF htmlF endsF n (fuel g.2.2) g.2.1 g.2.2 else g
  if r.1 = 1 then text n r.2.1 r.2.2 else r.2.1

def readAll : Nat → St → List Str → St
  | _, s, [] => s
  | n, s, l :: r => readAll (n + 1) (read htmlF endsF n s l) r

def start : St := { opens := [.doc { first := 0, last := 0 }], on := 0, defs := [] }

def parse (ls : List Str) : Bs × List Df :=
  let s := leave { readAll htmlF endsF 0 start ls with on := 1 }
  ((match s.opens with | .doc b :: _ => b.kids | _ => .nil), s.defs)

end St
end
end Go.Proofs.YtcbojffcnlkejaaGreatDoor

/- Plain mathematics: definitions taken off a text. -/
namespace Go.Proofs.YtcbojffcnlkejaaGreatDoor

theorem defR_len (t : Str) : (lnk.defR t).2 ≤ t.length := by
  unfold lnk.defR
  split
  · exact Nat.zero_le _
  · exact Nat.sub_le _ _

theorem defR_label (t : Str) : (lnk.defR t).1.1.length ≤ 4995 := by
  unfold lnk.defR
  cases h : lnk.definedL t with
  | mk u n =>
    by_cases h0 : n = 0
    · subst h0
      rw [lnk.defined_zero h]
      simp [lnk.noDef]
    · obtain ⟨_, h2, h3⟩ := lnk.defined_some h h0
      rw [h3]
      cases lnk.destL (gapL 0 (t.drop n)) with
      | none => simp [lnk.noDef]
      | some dk =>
        obtain ⟨d, k⟩ := dk
        simp only
        cases lnk.tailO ((gapL 0 (t.drop n)).drop k) with
        | none => simp [lnk.noDef]
        | some q =>
          simp only [Option.map_some]
          have := fold_len u
          omega

/-- How many rounds are counted does not matter. -/
theorem off_two : ∀ (g : Nat) (t : Str) (d : List Df), t.length < g → ∀ g', t.length < g' → offF g t d = offF g' t d := by
  intro g
  induction g with
  | zero => intro t d h; omega
  | succ g ih =>
    intro t d h g' h'
    cases g' with
    | zero => omega
    | succ g' =>
      simp only [offF]
      split
      · rfl
      · rename_i h0
        have hl : (t.drop (lnk.defR t).2).length < t.length := by have := defR_len t; rw [List.length_drop]; omega
        exact ih _ _ (by omega) _ (by omega)
theorem off_same (f : Nat) (t : Str) (d : List Df) (h : t.length < f) : offF f t d = off t d := off_two f t d h _ (Nat.lt_succ_self _)

theorem off_stop {t : Str} (d : List Df) (h : (lnk.defR t).2 = 0) : off t d = (t, d) := by
  unfold off
  simp only [offF]
  rw [if_pos h]
theorem off_next {t : Str} (d : List Df) (h : (lnk.defR t).2 ≠ 0) : off t d = off (t.drop (lnk.defR t).2) (addD d (lnk.defR t).1) := by
  show offF (t.length + 1) t d = _
  simp only [offF]
  rw [if_neg h]
  exact off_same _ _ _ (by have := defR_len t; rw [List.length_drop]; omega)

theorem addD_len (d : List Df) (q : Df) : (addD d q).length ≤ d.length + 1 := by
  unfold addD
  split
  · omega
  · simp

end Go.Proofs.YtcbojffcnlkejaaGreatDoor
