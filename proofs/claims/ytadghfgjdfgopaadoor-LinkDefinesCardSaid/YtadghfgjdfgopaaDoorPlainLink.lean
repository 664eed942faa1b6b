/- Labels, where a link leads, titles and definitions, over plain lists of bytes. -/
import Derived.Test.YtadghfgjdfgopaaDoorPlainSpan
import Derived.Test.YtadghfgjdfgopaaDoorPlainEsc
set_option linter.unusedVariables false
namespace Go.Proofs.YtadghfgjdfgopaaDoor

/-- Behind the first byte that ends it; a backslash and the mark behind it are passed together; none where a byte stands that may not, or no end. -/
def scanU (stop : UInt8) (bad : UInt8 → Bool) : List UInt8 → Option (List UInt8)
  | [] => none
  | [b] => if b = stop then some [] else none
  | b :: c :: t => if b = stop then some (c :: t) else if bad b = true then none else
      if b = 92 ∧ markN c.toNat = true then scanU stop bad t else scanU stop bad (c :: t)

def labelL : List UInt8 → Option (List UInt8 × Nat)
  | [] => none
  | a :: t => if a = 91 then
      match scanU 93 (· == 91) t with
      | none => none
      | some r => if 1 ≤ t.length - (r.length + 1) ∧ t.length - (r.length + 1) ≤ 999 ∧ fold (t.take (t.length - (r.length + 1))) ≠ [] then some (t.take (t.length - (r.length + 1)), t.length - r.length + 1) else none
    else none

def bareC (b : UInt8) : Bool := decide (32 < b.toNat) && b != 127

/-- Where a bare place ends, and how many brackets are open there; none: too many. -/
def bareS : Nat → List UInt8 → Option (List UInt8 × Nat)
  | o, [] => some ([], o)
  | o, [b] => if bareC b = false then some ([b], o) else if b = 40 then (if 32 < o + 1 then none else some ([], o + 1)) else if b = 41 then (if o = 0 then some ([b], 0) else some ([], o - 1)) else some ([], o)
  | o, b :: c :: t => if bareC b = false then some (b :: c :: t, o) else if b = 92 ∧ markN c.toNat = true then bareS o t else
      if b = 40 then (if 32 < o + 1 then none else bareS (o + 1) (c :: t)) else if b = 41 then (if o = 0 then some (b :: c :: t, 0) else bareS (o - 1) (c :: t)) else bareS o (c :: t)

def destL : List UInt8 → Option (List UInt8 × Nat)
  | [] => none
  | a :: t => if a = 60 then
      match scanU 62 (fun b => b == 60 || b == 10) t with
      | none => none
      | some r => some (unesc (t.take (t.length - (r.length + 1))), t.length - r.length + 1)
    else
      match bareS 0 (a :: t) with
      | none => none
      | some (r, o) => if r.length = (a :: t).length ∨ 0 < o then none else some (unesc ((a :: t).take ((a :: t).length - r.length)), (a :: t).length - r.length)

/-- Behind a title's end; e: is the line so far empty, behind a line feed? -/
def titleS (stop : UInt8) : Bool → List UInt8 → Option (List UInt8)
  | _, [] => none
  | _, [b] => if b = stop then some [] else none
  | e, b :: c :: t => if b = stop then some (c :: t) else if (b = 40 ∧ stop = 41) ∨ (b = 10 ∧ e = true) then none else
      if b = 92 ∧ markN c.toNat = true then titleS stop false t
      else titleS stop (if b = 10 then true else if b = 32 ∨ b = 9 then e else false) (c :: t)

def titleL : List UInt8 → Option (List UInt8 × Nat)
  | [] => none
  | a :: t => if a = 34 ∨ a = 39 ∨ a = 40 then
      match titleS (if a = 40 then 41 else a) false t with
      | none => none
      | some r => some (unesc (t.take (t.length - (r.length + 1))), t.length - r.length + 1)
    else none

/-- Behind a line's end, if blanks and tabs alone stand up to it. -/
def lineL : List UInt8 → Option (List UInt8)
  | [] => some []
  | b :: t => if b = 32 ∨ b = 9 then lineL t else if b = 10 then some t else none

/-- Behind three blanks at most. -/
def threeL : Nat → List UInt8 → List UInt8
  | 0, l => l
  | _ + 1, [] => []
  | n + 1, b :: t => if b = 32 then threeL n t else b :: t

/-- Label, place, title, and what stands behind. -/
def defineL (s : List UInt8) : Option ((List UInt8 × List UInt8 × List UInt8) × List UInt8) :=
  match labelL (threeL 3 s) with
  | none => none
  | some (u, n) =>
    match (threeL 3 s).drop n with
    | [] => none
    | b :: t => if b = 58 then
        match destL (gapL 0 t) with
        | none => none
        | some (d, k) =>
          match titleL (gapL 0 ((gapL 0 t).drop k)) with
          | some (x, m) => if (gapL 0 ((gapL 0 t).drop k)).length < ((gapL 0 t).drop k).length then
              match lineL ((gapL 0 ((gapL 0 t).drop k)).drop m) with
              | some r => some ((fold u, d, x), r)
              | none => (lineL ((gapL 0 t).drop k)).map fun r => ((fold u, d, []), r)
            else (lineL ((gapL 0 t).drop k)).map fun r => ((fold u, d, []), r)
          | none => (lineL ((gapL 0 t).drop k)).map fun r => ((fold u, d, []), r)
      else none

end Go.Proofs.YtadghfgjdfgopaaDoor
