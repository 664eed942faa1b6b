/- A log's calls over lists: a disk and its segments. -/
import Derived.Test.YtoaabghignilfaaGreatDoorDBeg
import Derived.Test.YtoaabghignilfaaGreatDoorV01
set_option linter.unusedVariables false
namespace Go.Proofs.YtoaabghignilfaaGreatDoor

def lastS (L : List Sg) : Sg := L.getLastD ⟨1, [0]⟩
theorem lastS_snoc (L : List Sg) (s : Sg) : lastS (L ++ [s]) = s := by simp [lastS]
/-- What Append answers, the disk and the segments behind it. -/
def wappP (d : Dk) (L : List Sg) (l : Rec) : Nat × Dk × List Sg :=
  if 8192 < l.length then (2, d, L)
  else if (lastS L).next = 1000000 then (11, d, L)
  else if 2048 ≤ (lastS L).size then
    (if (syncP d (nameL (lastS L).num)).1 ≠ 0 then ((syncP d (nameL (lastS L).num)).1, (syncP d (nameL (lastS L).num)).2, L)
    else if (appendP (syncP d (nameL (lastS L).num)).2 (nameL (lastS L).next) (frameL (lastS L).next l)).1 ≠ 0 then ((appendP (syncP d (nameL (lastS L).num)).2 (nameL (lastS L).next) (frameL (lastS L).next l)).1, (appendP (syncP d (nameL (lastS L).num)).2 (nameL (lastS L).next) (frameL (lastS L).next l)).2, L)
    else (0, (appendP (syncP d (nameL (lastS L).num)).2 (nameL (lastS L).next) (frameL (lastS L).next l)).2, L ++ [⟨(lastS L).next, [0, 8 + l.length]⟩]))
  else if (appendP d (nameL (lastS L).num) (frameL (lastS L).next l)).1 ≠ 0 then ((appendP d (nameL (lastS L).num) (frameL (lastS L).next l)).1, (appendP d (nameL (lastS L).num) (frameL (lastS L).next l)).2, L)
  else (0, (appendP d (nameL (lastS L).num) (frameL (lastS L).next l)).2, L.dropLast ++ [⟨(lastS L).num, (lastS L).pl ++ [(lastS L).size + (8 + l.length)]⟩])

/-- The segments of some numbers are read. -/
def loadP (d : Dk) : List Nat → Bool → List Sg → Nat × Bool × List Sg
  | [], t, L => (0, t, L)
  | n :: r, t, L =>
    if (t || (!L.isEmpty && !((lastS L).next == n))) = true then (16, t, L)
    else if findV d (nameL n) ≠ 0 then (findV d (nameL n), t, L)
    else if 1000000 < (readSg n (theF d (nameL n)).bs).next then (16, t, L)
    else loadP d r (decide ((readSg n (theF d (nameL n)).bs).size < (theF d (nameL n)).bs.length)) (L ++ [readSg n (theF d (nameL n)).bs])
def numsOf (d : Dk) : List Nat := if d.up = true then segNums (d.files.map (·.1)) else []
/-- What Open answers, the disk and the segments behind it. -/
def openP (d : Dk) : Nat × Dk × List Sg :=
  if numsOf d = [] then ((appendP d (nameL 1) []).1, (appendP d (nameL 1) []).2, [⟨1, [0]⟩])
  else if (loadP d (numsOf d) false []).1 ≠ 0 then ((loadP d (numsOf d) false []).1, d, (loadP d (numsOf d) false []).2.2)
  else
    let L := (loadP d (numsOf d) false []).2.2
    let t := (loadP d (numsOf d) false []).2.1
    if t = true then
      (if (cutP d (nameL (lastS L).num) ((lastS L).size : Int)).1 ≠ 0 then ((cutP d (nameL (lastS L).num) ((lastS L).size : Int)).1, (cutP d (nameL (lastS L).num) ((lastS L).size : Int)).2, L)
      else ((syncP (cutP d (nameL (lastS L).num) ((lastS L).size : Int)).2 (nameL (lastS L).num)).1, (syncP (cutP d (nameL (lastS L).num) ((lastS L).size : Int)).2 (nameL (lastS L).num)).2, L))
    else ((syncP d (nameL (lastS L).num)).1, (syncP d (nameL (lastS L).num)).2, L)

/-- The segment with the record of a number. -/
def holdS (L : List Sg) (i : Nat) : Sg := lastS (L.filter fun s => decide (s.num ≤ i))
def getP (d : Dk) (L : List Sg) (i : Int) : Nat × List UInt8 :=
  if i < ((L.headD ⟨1, [0]⟩).num : Int) ∨ ((lastS L).next : Int) ≤ i then (17, [])
  else if findV d (nameL (holdS L i.toNat).num) ≠ 0 then (findV d (nameL (holdS L i.toNat).num), [])
  else if (theF d (nameL (holdS L i.toNat).num)).bs.length < (holdS L i.toNat).pl.getD (i.toNat + 1 - (holdS L i.toNat).num) 0 then (16, [])
  else (0, (((theF d (nameL (holdS L i.toNat).num)).bs.drop ((holdS L i.toNat).pl.getD (i.toNat - (holdS L i.toNat).num) 0 + 8)).take ((holdS L i.toNat).pl.getD (i.toNat + 1 - (holdS L i.toNat).num) 0 - ((holdS L i.toNat).pl.getD (i.toNat - (holdS L i.toNat).num) 0 + 8))))
end Go.Proofs.YtoaabghignilfaaGreatDoor
