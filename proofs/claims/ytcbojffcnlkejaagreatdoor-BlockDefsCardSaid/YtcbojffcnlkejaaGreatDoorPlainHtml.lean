/- Plain mathematics: what HTML a line begins, and whether it ends there. -/
import Derived.Test.YtcbojffcnlkejaaGreatDoorG08
import Derived.Lib.Case
set_option linter.unusedVariables false
namespace Go.Proofs.YtcbojffcnlkejaaGreatDoor

/-- The names of the first kind of HTML, and of the sixth. -/
def textNs : List (List UInt8) := [[115, 99, 114, 105, 112, 116], [112, 114, 101], [115, 116, 121, 108, 101], [116, 101, 120, 116, 97, 114, 101, 97]]
def blockNs : List (List UInt8) := [[97, 100, 100, 114, 101, 115, 115], [97, 114, 116, 105, 99, 108, 101], [97, 115, 105, 100, 101], [98, 108, 111, 99, 107, 113, 117, 111, 116, 101], [98, 111, 100, 121], [99, 101, 110, 116, 101, 114], [100, 100], [100, 101, 116, 97, 105, 108, 115], [100, 105, 97, 108, 111, 103], [100, 105, 118], [100, 108], [100, 116], [102, 105, 101, 108, 100, 115, 101, 116], [102, 105, 103, 117, 114, 101], [102, 111, 111, 116, 101, 114], [102, 111, 114, 109], [102, 114, 97, 109, 101], [104, 49], [104, 50], [104, 51], [104, 52], [104, 53], [104, 54], [104, 101, 97, 100], [104, 101, 97, 100, 101, 114], [104, 114], [104, 116, 109, 108], [105, 102, 114, 97, 109, 101], [108, 101, 103, 101, 110, 100], [108, 105], [108, 105, 110, 107], [109, 97, 105, 110], [109, 101, 110, 117], [110, 97, 118], [111, 108], [111, 112, 116, 105, 111, 110], [112], [115, 101, 99, 116, 105, 111, 110], [115, 117, 109, 109, 97, 114, 121], [116, 97, 98, 108, 101], [116, 98, 111, 100, 121], [116, 100], [116, 102, 111, 111, 116], [116, 104], [116, 104, 101, 97, 100], [116, 105, 116, 108, 101], [116, 114], [117, 108]]
def textN (l : List UInt8) : Bool := textNs.contains l
def blockN (l : List UInt8) : Bool := blockNs.contains l

/-- A tag's name, in small letters, and what is behind it. -/
def tagNm (l : List UInt8) : List UInt8 := Lib.toLowerA (l.take (rowN nameC l))
def tagRt (l : List UInt8) : List UInt8 := l.drop (rowN nameC l)
/-- Without a slash ahead. -/
def unSl : List UInt8 → List UInt8
  | 47 :: t => t
  | l => l

def beginsTextL (l : List UInt8) : Bool := textN (tagNm (l.drop 1)) && (partedL (tagRt (l.drop 1)) || (tagRt (l.drop 1)).head? == some 62)
def beginsBlockL (l : List UInt8) : Bool := blockN (tagNm (unSl (l.drop 1))) && (partedL (tagRt (unSl (l.drop 1))) || (tagRt (unSl (l.drop 1))).head? == some 62 || [47, 62].isPrefixOf (tagRt (unSl (l.drop 1))))
def tagAloneL (l : List UInt8) : Bool := tagN l != 0 && (l.drop (tagN l)).all gapB && !textN (tagNm (unSl (l.drop 1)))

def htmlL (l : List UInt8) : Nat :=
  if [60].isPrefixOf l = false then 0 else if beginsTextL l then 1 else if [60, 33, 45, 45].isPrefixOf l then 2 else if [60, 63].isPrefixOf l then 3
  else if [60, 33].isPrefixOf l && (l.drop 2).head?.any letterB then 4 else if [60, 33, 91, 67, 68, 65, 84, 65, 91].isPrefixOf l then 5
  else if beginsBlockL l then 6 else if tagAloneL l then 7 else 0

/-- Does a text stand somewhere in another one? -/
def hasL (p : List UInt8) : List UInt8 → Bool
  | [] => p.isEmpty
  | b :: t => p.isPrefixOf (b :: t) || hasL p t
/-- Does a closing tag of the first kind's names stand in a text? -/
def endsTextL : List UInt8 → Bool
  | [] => false
  | b :: t => (b == 60 && t.head? == some 47 && textN (tagNm (t.drop 1)) && (tagRt (t.drop 1)).head? == some 62) || endsTextL t

def endsL (k : Nat) (l : List UInt8) : Bool :=
  if k = 1 then endsTextL l else if k = 2 then hasL [45, 45, 62] l else if k = 3 then hasL [63, 62] l else if k = 4 then hasL [62] l else if k = 5 then hasL [93, 93, 62] l else false

end Go.Proofs.YtcbojffcnlkejaaGreatDoor
